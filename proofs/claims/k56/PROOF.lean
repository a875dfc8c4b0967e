import PyProof.Rows.All
import Wide.All
import OpenK.AllK
import Wide.FinOn
import HandS.ForMost
import HandS.Wide
import HandS.Conv
import HandS.Style
import HandS.Sort
import HandS.SortRule
import HandS.SortInts
import HandS.Deep
import HandS.Text
import HandS.Words
import HandS.IsInst
import HandS.More
import HandS.TupSets
import HandS.Zip
import HandS.Walk
import KE.KDictPairs
import HandS.Small
import HandS.TupAny
import HandS.Flow
import PyProof.EqKinds
import HandS.DictComp
import HandS.Star
import KE.GoesMore
import HandS.Exc
import HandS.TupLe
import HandS.ExcInit
import HandS.ExcField
import HandS.SetFor
import KE.KExcIs
import HandS.ExcOwn
import HandS.TryMany
import HandS.WordsExc
import KE.KTryMore
import KE.KDictKeyed
import KE.KeyNested
import KE.KDictLaw
import KE.KDictDisplayH
import HandS.Iter
import KE.SortData
import PyProof.TupleOfSeq
import KE.KDictSum
import KE.KDictWalk
import HandS.TupLen
import HandS.TryOnly
import PySem.Challenge.RW_fromwithin_k56_whole_classes_by_search
set_option Elab.async false
set_option linter.all false
set_option maxRecDepth 100000
/-! Forests grown room by room: simple ways in them are unique. -/
namespace Fw

def adj (D : List (Int × Int)) (a b : Int) : Prop := (a, b) ∈ D ∨ (b, a) ∈ D

theorem adj_symm {D : List (Int × Int)} {a b : Int} (h : adj D a b) : adj D b a := h.symm

/-- a way without a room twice -/
inductive SP (R : Int → Int → Prop) : Int → Int → List Int → Prop
  | one (a : Int) : SP R a a [a]
  | cons {a c b : Int} {p : List Int} : R a c → SP R c b p → a ∉ p → SP R a b (a :: p)

section
variable {R R' : Int → Int → Prop}
theorem SP.head {a b : Int} {p : List Int} (h : SP R a b p) : a ∈ p := by
  cases h <;> simp
theorem SP.last {a b : Int} {p : List Int} (h : SP R a b p) : b ∈ p := by
  induction h with
  | one a => simp
  | cons _ _ _ ih => exact List.mem_cons_of_mem _ ih
theorem SP.loop {a : Int} {p : List Int} (h : SP R a a p) : p = [a] := by
  cases h with
  | one => rfl
  | cons r q n => exact absurd q.last n
theorem SP.nodup {a b : Int} {p : List Int} (h : SP R a b p) : p.Nodup := by
  induction h with
  | one a => simp
  | cons _ _ n ih => exact List.nodup_cons.mpr ⟨n, ih⟩
theorem SP.snoc {a b c : Int} {p : List Int} (h : SP R a b p) (r : R b c) (n : c ∉ p) : SP R a c (p ++ [c]) := by
  induction h with
  | one a =>
    refine .cons r (.one c) ?_
    intro e
    have e : a = c := List.mem_singleton.mp e
    exact n (by rw [e]; simp)
  | cons r' q n' ih =>
    rename_i a' c' b' p'
    rw [List.mem_cons, not_or] at n
    refine .cons r' (ih r n.2) ?_
    intro e
    rcases List.mem_append.mp e with e | e
    · exact n' e
    · exact n.1 (List.mem_singleton.mp e).symm
theorem SP.map {a b : Int} {p : List Int} (h : SP R a b p) (f : ∀ x y, x ∈ p → y ∈ p → R x y → R' x y) : SP R' a b p := by
  induction h with
  | one a => exact .one a
  | cons r q n ih =>
    exact .cons (f _ _ (List.mem_cons_self ..) (List.mem_cons_of_mem _ q.head) r) (ih fun x y hx hy => f x y (List.mem_cons_of_mem _ hx) (List.mem_cons_of_mem _ hy)) n
/-- what is closed under R and holds the end holds the start, and the other way -/
theorem SP.back {S : Int → Prop} (hs : ∀ x y, R x y → S y → S x) {a b : Int} {p : List Int} (h : SP R a b p) (e : S b) : S a := by
  induction h with
  | one a => exact e
  | cons r _ _ ih => exact hs _ _ r (ih e)
theorem SP.forth {S : Int → Prop} (hs : ∀ x y, R x y → S x → S y) {a b : Int} {p : List Int} (h : SP R a b p) (e : S a) : S b := by
  induction h with
  | one a => exact e
  | cons r _ _ ih => exact ih (hs _ _ r e)
end

def Uniq (R : Int → Int → Prop) : Prop := ∀ a b p q, SP R a b p → SP R a b q → p = q

section
variable {R R' : Int → Int → Prop} {u v : Int}
/-- one more leaf v, on u -/
structure Leaf (R R' : Int → Int → Prop) (u v : Int) : Prop where
  iff : ∀ x y, R' x y ↔ (R x y ∨ (x = u ∧ y = v) ∨ (x = v ∧ y = u))
  no1 : ∀ x, ¬ R v x
  no2 : ∀ x, ¬ R x v
  ne : u ≠ v
theorem Leaf.into (L : Leaf R R' u v) {x : Int} (h : R' x v) : x = u := by
  rcases (L.iff x v).mp h with h | h | h
  · exact absurd h (L.no2 x)
  · exact h.1
  · exact absurd h.2.symm L.ne
theorem Leaf.out (L : Leaf R R' u v) {x : Int} (h : R' v x) : x = u := by
  rcases (L.iff v x).mp h with h | h | h
  · exact absurd h (L.no1 x)
  · exact absurd h.1.symm L.ne
  · exact h.2
theorem Leaf.off (L : Leaf R R' u v) {x y : Int} (hx : x ≠ v) (hy : y ≠ v) (h : R' x y) : R x y := by
  rcases (L.iff x y).mp h with h | h | h
  · exact h
  · exact absurd h.2 hy
  · exact absurd h.1 hx
theorem Leaf.avoid (L : Leaf R R' u v) {a b : Int} {p : List Int} (h : SP R' a b p) (n : v ∉ p) : SP R a b p :=
  h.map fun x y hx hy r => L.off (fun e => n (e ▸ hx)) (fun e => n (e ▸ hy)) r
theorem Leaf.free (L : Leaf R R' u v) {a b : Int} {p : List Int} (h : SP R' a b p) (ha : a ≠ v) (hb : b ≠ v) : v ∉ p := by
  induction h with
  | one a =>
    intro e
    rw [List.mem_singleton] at e
    exact ha e.symm
  | cons r q n ih =>
    rename_i a' c' b' p'
    by_cases hc : c' = v
    · subst hc
      have e := L.into r
      cases q with
      | one => exact absurd rfl hb
      | cons r2 q2 n2 =>
        rename_i c2 p2
        have e2 := L.out r2
        exact absurd (List.mem_cons_of_mem _ (e ▸ e2 ▸ q2.head)) n
    · intro e
      rw [List.mem_cons] at e
      rcases e with e | e
      · exact ha e.symm
      · exact ih hc hb e
theorem Leaf.from (L : Leaf R R' u v) {b : Int} {p : List Int} (h : SP R' v b p) (hb : b ≠ v) : ∃ p', p = v :: p' ∧ SP R u b p' := by
  cases h with
  | one => exact absurd rfl hb
  | cons r q n =>
    rename_i c p'
    have e := L.out r
    subst e
    exact ⟨p', rfl, L.avoid q n⟩
theorem Leaf.to (L : Leaf R R' u v) {a b : Int} {p : List Int} (h : SP R' a b p) : a ≠ v → b = v → ∃ p', p = p' ++ [v] ∧ SP R a u p' := by
  induction h with
  | one a =>
    intro h1 h2
    exact absurd h2 h1
  | cons r q n ih =>
    rename_i a' c' b' p'
    intro h1 h2
    by_cases hc : c' = v
    · subst hc
      subst h2
      have e := L.into r
      subst e
      have e2 := q.loop
      subst e2
      exact ⟨[a'], rfl, .one _⟩
    · obtain ⟨p2, e, q2⟩ := ih hc h2
      refine ⟨a' :: p2, by rw [e]; rfl, .cons (L.off h1 hc r) q2 ?_⟩
      intro m
      exact n (by rw [e]; exact List.mem_append_left _ m)
theorem Leaf.uniq (L : Leaf R R' u v) (U : Uniq R) : Uniq R' := by
  intro a b p q hp hq
  by_cases ha : a = v
  · subst ha
    by_cases hb : b = a
    · subst hb
      rw [hp.loop, hq.loop]
    · obtain ⟨p', e1, s1⟩ := L.from hp hb
      obtain ⟨q', e2, s2⟩ := L.from hq hb
      rw [e1, e2, U _ _ _ _ s1 s2]
  · by_cases hb : b = v
    · obtain ⟨p', e1, s1⟩ := L.to hp ha hb
      obtain ⟨q', e2, s2⟩ := L.to hq ha hb
      rw [e1, e2, U _ _ _ _ s1 s2]
    · exact U _ _ _ _ (L.avoid hp (L.free hp ha hb)) (L.avoid hq (L.free hq ha hb))
end

/-- a forest, room by room: the rooms that stand, and the doors -/
inductive Grown : List Int → List (Int × Int) → Prop
  | nil : Grown [] []
  | room {U : List Int} {E : List (Int × Int)} (v : Int) : Grown U E → v ∉ U → Grown (v :: U) E
  | door {U : List Int} {E : List (Int × Int)} (v u a b : Int) : Grown U E → v ∉ U → u ∈ U → (a = min u v ∧ b = max u v) → Grown (v :: U) ((a, b) :: E)

theorem minmax (u v a b : Int) (h : a = min u v ∧ b = max u v) : (a = u ∧ b = v ∧ u ≤ v) ∨ (a = v ∧ b = u ∧ v ≤ u) := by
  omega

theorem Grown.ends {U : List Int} {E : List (Int × Int)} (g : Grown U E) : ∀ a b, (a, b) ∈ E → a ∈ U ∧ b ∈ U ∧ a < b := by
  induction g with
  | nil => intro a b h; cases h
  | room v g n ih => intro a b h; exact ⟨List.mem_cons_of_mem _ (ih a b h).1, List.mem_cons_of_mem _ (ih a b h).2.1, (ih a b h).2.2⟩
  | door v u x y g n hu hm ih =>
    intro a b h
    have hne : u ≠ v := fun e => n (e ▸ hu)
    rw [List.mem_cons] at h
    rcases h with h | h
    · injection h with h1 h2
      subst h1 h2
      rcases minmax u v a b hm with ⟨h1, h2, h3⟩ | ⟨h1, h2, h3⟩
      · subst h1 h2
        exact ⟨List.mem_cons_of_mem _ hu, List.mem_cons_self .., by omega⟩
      · subst h1 h2
        exact ⟨List.mem_cons_self .., List.mem_cons_of_mem _ hu, by omega⟩
    · exact ⟨List.mem_cons_of_mem _ (ih a b h).1, List.mem_cons_of_mem _ (ih a b h).2.1, (ih a b h).2.2⟩

theorem Grown.nodup {U : List Int} {E : List (Int × Int)} (g : Grown U E) : E.Nodup := by
  induction g with
  | nil => exact List.nodup_nil
  | room v g n ih => exact ih
  | door v u x y g n hu hm ih =>
    refine List.nodup_cons.mpr ⟨fun h => ?_, ih⟩
    have e := g.ends x y h
    rcases minmax u v x y hm with ⟨h1, h2, _⟩ | ⟨h1, h2, _⟩
    · exact n (h2 ▸ e.2.1)
    · exact n (h1 ▸ e.1)

theorem Grown.length {U : List Int} {E : List (Int × Int)} (g : Grown U E) : E.length ≤ U.length := by
  induction g with
  | nil => exact Nat.le_refl _
  | room v g n ih => exact Nat.le_succ_of_le ih
  | door v u x y g n hu hm ih => exact Nat.succ_le_succ ih

theorem Grown.uniq {U : List Int} {E : List (Int × Int)} (g : Grown U E) : Uniq (adj E) := by
  induction g with
  | nil =>
    intro a b p q hp hq
    have k : ∀ {p : List Int}, SP (adj []) a b p → p = [a] := by
      intro p hp
      cases hp with
      | one => rfl
      | cons r _ _ => rcases r with r | r <;> cases r
    rw [k hp, k hq]
  | room v g n ih => exact ih
  | @door U E v u x y g n hu hm ih =>
    have L : Leaf (adj E) (adj ((x, y) :: E)) u v := by
      refine ⟨fun a b => ?_, fun z h => ?_, fun z h => ?_, fun e => n (e ▸ hu)⟩
      · unfold adj
        simp only [List.mem_cons, Prod.mk.injEq]
        rcases minmax u v x y hm with ⟨h1, h2, _⟩ | ⟨h1, h2, _⟩
        · subst h1 h2
          constructor
          · rintro ((h | h) | (h | h))
            · exact .inr (.inl h)
            · exact .inl (.inl h)
            · exact .inr (.inr ⟨h.2, h.1⟩)
            · exact .inl (.inr h)
          · rintro ((h | h) | h | h)
            · exact .inl (.inr h)
            · exact .inr (.inr h)
            · exact .inl (.inl h)
            · exact .inr (.inl ⟨h.2, h.1⟩)
        · subst h1 h2
          constructor
          · rintro ((h | h) | (h | h))
            · exact .inr (.inr h)
            · exact .inl (.inl h)
            · exact .inr (.inl ⟨h.2, h.1⟩)
            · exact .inl (.inr h)
          · rintro ((h | h) | h | h)
            · exact .inl (.inr h)
            · exact .inr (.inr h)
            · exact .inr (.inl ⟨h.2, h.1⟩)
            · exact .inl (.inl h)
      · rcases h with h | h
        · exact n (g.ends _ _ h).1
        · exact n (g.ends _ _ h).2.1
      · rcases h with h | h
        · exact n (g.ends _ _ h).2.1
        · exact n (g.ends _ _ h).1
    exact L.uniq ih

/-- a door stands ahead of another -/
def Dlt (a b : Int × Int) : Prop := a.1 < b.1 ∨ (a.1 = b.1 ∧ a.2 < b.2)
/-- a forest of n rooms, as an ascending list of doors -/
def Forest (n : Int) (D : List (Int × Int)) : Prop := ∃ U E, Grown U E ∧ (∀ x, x ∈ U ↔ 0 ≤ x ∧ x < n) ∧ D.Perm E ∧ U.length ≤ 8 ∧ D.Pairwise Dlt

theorem adj_perm {D E : List (Int × Int)} (h : D.Perm E) : adj D = adj E := by
  funext a b
  unfold adj
  rw [h.mem_iff, h.mem_iff]
theorem Forest.uniq {n : Int} {D : List (Int × Int)} (f : Forest n D) : Uniq (adj D) := by
  obtain ⟨U, E, g, _, p, _⟩ := f
  rw [adj_perm p]
  exact g.uniq
theorem Forest.nodup {n : Int} {D : List (Int × Int)} (f : Forest n D) : D.Nodup := by
  obtain ⟨U, E, g, _, p, _⟩ := f
  exact p.nodup_iff.mpr g.nodup
theorem Forest.up {n : Int} {D : List (Int × Int)} (f : Forest n D) : D.Pairwise Dlt := by
  obtain ⟨U, E, _, _, _, _, u⟩ := f
  exact u
theorem Forest.len {n : Int} {D : List (Int × Int)} (f : Forest n D) : D.length ≤ 8 := by
  obtain ⟨U, E, g, _, p, l, _⟩ := f
  rw [p.length_eq]
  exact Nat.le_trans g.length l
theorem Forest.ends {n : Int} {D : List (Int × Int)} (f : Forest n D) {a b : Int} (h : (a, b) ∈ D) : 0 ≤ a ∧ a < b ∧ b < n := by
  obtain ⟨U, E, g, u, p, _⟩ := f
  have e := g.ends a b (p.mem_iff.mp h)
  exact ⟨((u a).mp e.1).1, e.2.2, ((u b).mp e.2.1).2⟩
theorem Forest.adj {n : Int} {D : List (Int × Int)} (f : Forest n D) {a b : Int} (h : adj D a b) : 0 ≤ a ∧ a < n ∧ 0 ≤ b ∧ b < n := by
  rcases h with h | h
  · have e := f.ends h; omega
  · have e := f.ends h; omega

/-- the adjacent rooms, ascending -/
def nb (n : Int) (D : List (Int × Int)) (r : Int) : List Int := ((List.range n.toNat).map fun (i : Nat) => (i : Int)).filter fun o => decide ((r, o) ∈ D) || decide ((o, r) ∈ D)
theorem mem_nb {n : Int} {D : List (Int × Int)} {r o : Int} : o ∈ nb n D r ↔ (0 ≤ o ∧ o < n) ∧ adj D r o := by
  unfold nb adj
  rw [List.mem_filter, List.mem_map]
  simp only [List.mem_range, Bool.or_eq_true, decide_eq_true_eq]
  constructor
  · rintro ⟨⟨i, hi, rfl⟩, h⟩
    exact ⟨⟨by omega, by omega⟩, h⟩
  · rintro ⟨⟨h0, h1⟩, h⟩
    exact ⟨⟨o.toNat, by omega, by omega⟩, h⟩
theorem Forest.mem_nb {n : Int} {D : List (Int × Int)} (f : Forest n D) {r o : Int} : o ∈ nb n D r ↔ Fw.adj D r o := by
  rw [Fw.mem_nb]
  exact ⟨fun h => h.2, fun h => ⟨⟨(f.adj h).2.2.1, (f.adj h).2.2.2⟩, h⟩⟩
theorem range_up (n : Nat) : ((List.range n).map fun (i : Nat) => (i : Int)).Pairwise (· < ·) := by
  rw [List.pairwise_map]
  exact List.pairwise_lt_range.imp fun h => by omega
theorem nb_up (n : Int) (D : List (Int × Int)) (r : Int) : (nb n D r).Pairwise (· < ·) := (range_up _).filter _
theorem nb_len (n : Int) (D : List (Int × Int)) (r : Int) : (nb n D r).length ≤ n.toNat := by
  unfold nb
  refine Nat.le_trans (List.length_filter_le _ _) ?_
  simp

/-- two ascending lists with the same members are one -/
theorem up_ext : ∀ {xs ys : List Int}, xs.Pairwise (· < ·) → ys.Pairwise (· < ·) → (∀ x, x ∈ xs ↔ x ∈ ys) → xs = ys
  | [], [], _, _, _ => rfl
  | [], y :: ys, _, _, h => absurd ((h y).mpr (List.mem_cons_self ..)) (by simp)
  | x :: xs, [], _, _, h => absurd ((h x).mp (List.mem_cons_self ..)) (by simp)
  | x :: xs, y :: ys, hx, hy, h => by
    obtain ⟨hx1, hx2⟩ := List.pairwise_cons.mp hx
    obtain ⟨hy1, hy2⟩ := List.pairwise_cons.mp hy
    have e : x = y := by
      have h1 := (h x).mp (List.mem_cons_self ..)
      have h2 := (h y).mpr (List.mem_cons_self ..)
      rw [List.mem_cons] at h1 h2
      rcases h1 with h1 | h1
      · exact h1
      · rcases h2 with h2 | h2
        · exact h2.symm
        · have := hy1 _ h1
          have := hx1 _ h2
          omega
    subst e
    rw [up_ext hx2 hy2 fun z => ?_]
    have hz := h z
    rw [List.mem_cons, List.mem_cons] at hz
    constructor
    · intro m
      rcases hz.mp (.inr m) with e | e
      · subst e; have := hx1 _ m; omega
      · exact e
    · intro m
      rcases hz.mpr (.inr m) with e | e
      · subst e; have := hy1 _ m; omega
      · exact e
theorem up_of {xs : List Int} (h : xs.Pairwise (· ≤ ·)) (n : xs.Nodup) : xs.Pairwise (· < ·) := by
  refine (h.and n).imp ?_
  intro a b ⟨h1, h2⟩
  omega

/-- the doors from r and to r, as the law lists them -/
def outs (D : List (Int × Int)) (r : Int) : List Int := (D.filter fun d => decide (d.1 = r)).map (·.2)
def ins (D : List (Int × Int)) (r : Int) : List Int := (D.filter fun d => decide (d.2 = r)).map (·.1)
theorem mem_outs {D : List (Int × Int)} {r o : Int} : o ∈ outs D r ↔ (r, o) ∈ D := by
  unfold outs
  simp only [List.mem_map, List.mem_filter, decide_eq_true_eq]
  constructor
  · rintro ⟨⟨a, b⟩, ⟨h, rfl⟩, rfl⟩; exact h
  · intro h; exact ⟨(r, o), ⟨h, rfl⟩, rfl⟩
theorem mem_ins {D : List (Int × Int)} {r o : Int} : o ∈ ins D r ↔ (o, r) ∈ D := by
  unfold ins
  simp only [List.mem_map, List.mem_filter, decide_eq_true_eq]
  constructor
  · rintro ⟨⟨a, b⟩, ⟨h, rfl⟩, rfl⟩; exact h
  · intro h; exact ⟨(o, r), ⟨h, rfl⟩, rfl⟩
theorem nodup_map_on {α β : Type} {f : α → β} : ∀ {xs : List α}, xs.Nodup → (∀ x y, x ∈ xs → y ∈ xs → f x = f y → x = y) → (xs.map f).Nodup
  | [], _, _ => List.nodup_nil
  | x :: xs, n, h => by
    obtain ⟨n1, n2⟩ := List.nodup_cons.mp n
    rw [List.map_cons]
    refine List.nodup_cons.mpr ⟨fun m => ?_, nodup_map_on n2 fun a b ha hb => h a b (List.mem_cons_of_mem _ ha) (List.mem_cons_of_mem _ hb)⟩
    obtain ⟨y, hy, e⟩ := List.mem_map.mp m
    have := h y x (List.mem_cons_of_mem _ hy) (List.mem_cons_self ..) e
    subst this
    exact n1 hy
theorem Forest.both_nodup {n : Int} {D : List (Int × Int)} (f : Forest n D) (r : Int) : (outs D r ++ ins D r).Nodup := by
  rw [List.nodup_append]
  refine ⟨?_, ?_, ?_⟩
  · refine nodup_map_on (f.nodup.filter _) ?_
    rintro ⟨a, b⟩ ⟨c, d⟩ h1 h2 e
    have e1 := of_decide_eq_true (List.mem_filter.mp h1).2
    have e2 := of_decide_eq_true (List.mem_filter.mp h2).2
    simp only at e e1 e2
    rw [e, e1, e2]
  · refine nodup_map_on (f.nodup.filter _) ?_
    rintro ⟨a, b⟩ ⟨c, d⟩ h1 h2 e
    have e1 := of_decide_eq_true (List.mem_filter.mp h1).2
    have e2 := of_decide_eq_true (List.mem_filter.mp h2).2
    simp only at e e1 e2
    rw [e, e1, e2]
  · intro a ha b hb e
    subst e
    have h1 := f.ends (mem_outs.mp ha)
    have h2 := f.ends (mem_ins.mp hb)
    omega
theorem Forest.sorted_nb {n : Int} {D : List (Int × Int)} (f : Forest n D) {r : Int} {ys : List Int} (p : ys.Perm (outs D r ++ ins D r)) (s : ys.Pairwise (· ≤ ·)) : ys = nb n D r := by
  refine up_ext (up_of s (p.nodup_iff.mpr (f.both_nodup r))) (nb_up n D r) fun x => ?_
  rw [p.mem_iff, List.mem_append, mem_outs, mem_ins, f.mem_nb]
  exact Iff.rfl

/-- the doors to r and from r, one list behind the other, as the program lists them -/
theorem Forest.nb_eq {n : Int} {D : List (Int × Int)} (f : Forest n D) (r : Int) : ins D r ++ outs D r = nb n D r := by
  refine up_ext ?_ (nb_up n D r) fun x => ?_
  · rw [List.pairwise_append]
    refine ⟨?_, ?_, fun a ha b hb => ?_⟩
    · unfold ins
      rw [List.pairwise_map]
      refine (f.up.filter _).imp_of_mem fun {x y} hx hy h => ?_
      have e1 : x.2 = r := of_decide_eq_true (List.mem_filter.mp hx).2
      have e2 : y.2 = r := of_decide_eq_true (List.mem_filter.mp hy).2
      unfold Dlt at h
      omega
    · unfold outs
      rw [List.pairwise_map]
      refine (f.up.filter _).imp_of_mem fun {x y} hx hy h => ?_
      have e1 : x.1 = r := of_decide_eq_true (List.mem_filter.mp hx).2
      have e2 : y.1 = r := of_decide_eq_true (List.mem_filter.mp hy).2
      unfold Dlt at h
      omega
    · have h1 := f.ends (mem_ins.mp ha)
      have h2 := f.ends (mem_outs.mp hb)
      omega
  · rw [List.mem_append, mem_outs, mem_ins, f.mem_nb]
    exact or_comm
/-- how many rooms below n are not in S: it falls when one more is -/
def left (n : Nat) (S : Int → Bool) : Nat := (List.range n).countP fun (i : Nat) => !S (i : Int)
theorem countP_lt {α : Type} {p q : α → Bool} : ∀ {l : List α} {x : α}, (∀ y ∈ l, q y = true → p y = true) → x ∈ l → p x = true → q x = false → l.countP q < l.countP p
  | [], _, _, m, _, _ => by cases m
  | y :: l, x, h, m, hp, hq => by
    have hm : l.countP q ≤ l.countP p := List.countP_mono_left fun z hz => h z (List.mem_cons_of_mem _ hz)
    rw [List.countP_cons, List.countP_cons]
    rw [List.mem_cons] at m
    by_cases e : x = y
    · subst e
      rw [if_neg (by rw [hq]; exact Bool.false_ne_true), if_pos hp]
      omega
    · have ih := countP_lt (fun z hz => h z (List.mem_cons_of_mem _ hz)) (m.resolve_left e) hp hq
      have hy := h y (List.mem_cons_self ..)
      by_cases c : q y = true
      · rw [if_pos c, if_pos (hy c)]; omega
      · rw [if_neg c]; omega
theorem left_lt {n : Nat} {S S' : Int → Bool} {o : Int} (h : ∀ x, S x = true → S' x = true) (h0 : 0 ≤ o) (h1 : o < n) (hs : S o = false) (hs' : S' o = true) : left n S' < left n S := by
  refine countP_lt (x := o.toNat) (fun y _ hy => ?_) (List.mem_range.mpr (by omega)) ?_ ?_
  · cases e : S (y : Int) with
    | false => rfl
    | true => rw [h _ e] at hy; cases hy
  · rw [show ((o.toNat : Nat) : Int) = o by omega, hs]; rfl
  · rw [show ((o.toNat : Nat) : Int) = o by omega, hs']; rfl
theorem left_le (n : Nat) (S : Int → Bool) : left n S ≤ n := by
  refine Nat.le_trans List.countP_le_length ?_
  simp
end Fw
namespace Fw
open PySem PySem.Spec PyProof.Rows L2
def top (i : Nat) : Stmt := PySem.Challenge.pw_fromwithin_k56_whole_classes_by_search.main.body.getD i (.Pass ⟨0, 0, 0, 0⟩)
abbrev iTightRegion : Stmt := inClass (top 2) 0
abbrev sNb : Stmt := top 4
abbrev sComp : Stmt := top 5
abbrev sSteps : Stmt := top 6
abbrev sPIn : Stmt := top 8
abbrev sPWi : Stmt := top 9
abbrev sFReg : Stmt := top 11
abbrev sSurp : Stmt := top 12
abbrev sIsTight : Stmt := top 13
abbrev sMutual : Stmt := top 15
abbrev sLasting : Stmt := top 16
abbrev sSameP : Stmt := top 17
abbrev sCSize : Stmt := top 18
abbrev sFullA : Stmt := top 19
abbrev sCountReachable : Stmt := top 20
abbrev sStream : Stmt := top 22
abbrev sNames : Stmt := top 23
abbrev sDraw : Stmt := top 24
abbrev sHouse : Stmt := top 25
abbrev sPl : Stmt := top 26
abbrev sLNb : Stmt := top 27
abbrev sLMoved : Stmt := top 28
abbrev sLMoves : Stmt := top 29
abbrev sLReach : Stmt := top 30
abbrev sLLeadingBack : Stmt := top 31
abbrev sLCountOrNone : Stmt := top 32
abbrev sLaw : Stmt := top 33
end Fw
namespace Fw
open PySem PySem.Spec PyProof.Rows L2
abbrev vi (ns : List Int) : List V := ns.map V.int

theorem same_upd {H : Hp} {p : Addr} {o : HO} (h : H p = none) : Same H (upd H p o) := fun b x e => by
  rw [upd_ne (ne_of_none e h)]
  exact e

/-- the stream of draws: s the list of three, A the great cells, B all cells; c bounds the count -/
structure StreamAt (H : Hp) (s A B : Addr) (c : Nat) : Prop where
  ex : ∃ (big cells : List Int) (cnt : Int), H s = some (.lst [.ref A, .ref B, .int cnt]) ∧ H A = some (.lst (vi big)) ∧ H B = some (.lst (vi cells)) ∧
    (∀ x ∈ big, 0 ≤ x) ∧ (∀ x ∈ cells, 0 ≤ x) ∧ 0 < cells.length ∧ cells.length ≤ 100 ∧ big.length ≤ 100 ∧ 0 ≤ cnt ∧ cnt ≤ c
  nAB : A ≠ B
  nsA : s ≠ A
  nsB : s ≠ B
/-- all but the stream's own lists stands as before -/
def Fr (s A : Addr) (H H' : Hp) : Prop := ∀ b o, b ≠ s → b ≠ A → H b = some o → H' b = some o
theorem Fr.trans {s A : Addr} {H H1 H2 : Hp} (a : Fr s A H H1) (b : Fr s A H1 H2) : Fr s A H H2 := fun c o h1 h2 e => b c o h1 h2 (a c o h1 h2 e)
theorem Fr.of {s A : Addr} {H H1 : Hp} (a : Same H H1) : Fr s A H H1 := fun c o _ _ e => a c o e

theorem same_put {H H1 : Hp} {p : Addr} {o : HO} (s : Same H H1) (h : H p = none) : Same H (upd H1 p o) := fun b x e => by
  rw [upd_ne (ne_of_none e h)]
  exact s _ _ e
theorem get_vi {ns : List Int} {i : Nat} {x : V} (h : (vi ns)[i]? = some x) : ∃ v, ns[i]? = some v ∧ x = .int v := by
  rw [List.getElem?_map] at h
  cases e : ns[i]? with
  | none => rw [e] at h; cases h
  | some v => rw [e] at h; exact ⟨v, rfl, (Option.some.inj h).symm⟩
theorem vi_app (a b : List Int) : vi (a ++ b) = vi a ++ vi b := List.map_append
def absI (i : Int) : Int := if i < 0 then -i else i
theorem absI_pos (i : Int) : 0 ≤ absI i := by unfold absI; split <;> omega
/-- the builtins' names are not taken -/
structure Nm (mg : Str → Option Value) : Prop where
  abs : mg "abs" = none
  len : mg "len" = none
  list : mg "list" = none
  range : mg "range" = none
  min : mg "min" = none
  max : mg "max" = none
  tuple : mg "tuple" = none
  sorted : mg "sorted" = none
  isinstance : mg "isinstance" = none
  all : mg "all" = none
  zip : mg "zip" = none
  bool : mg "bool" = none
  int : mg "int" = none
  str : mg "str" = none
  repr : mg "repr" = none

/-! ### data -/
theorem dp_ints {K : PySem.W.Frag} {H : Hp} : ∀ ns : List Int, DpAll K H (vi ns) (ns.map PyData.int)
  | [] => .nil
  | n :: ns => .cons (.int n) (dp_ints ns)
theorem lay_ints : ∀ ns : List Int, PyData.canLayAll0 (ns.map PyData.int) = true
  | [] => by simp [PyData.canLayAll0]
  | n :: ns => by
    rw [List.map_cons, PyData.canLayAll0, lay_ints ns, PyData.canLay0]
    rfl
theorem deep_ints : ∀ ns : List Int, PyData.depthAll (ns.map PyData.int) = 0
  | [] => by simp [PyData.depthAll]
  | n :: ns => by
    rw [List.map_cons, PyData.depthAll, deep_ints ns, PyData.depth]
    rfl
theorem shaped_list (ns : List Int) : SeqAt.shaped (.list (ns.map PyData.int)) = true := by
  unfold SeqAt.shaped
  rw [PyData.canLay0, lay_ints, PyData.depth, deep_ints]
  decide
theorem shaped_tup (ns : List Int) : SeqAt.shaped (.tuple (ns.map PyData.int)) = true := by
  unfold SeqAt.shaped
  rw [PyData.canLay0, lay_ints, PyData.depth, deep_ints]
  decide
theorem eqv_nil (ns : List Int) : PyData.eqv (.list (ns.map PyData.int)) (.list []) = ns.isEmpty := by
  rw [PyData.eqv]
  cases ns with
  | nil => rw [List.map_nil, PyData.eqvAll]; rfl
  | cons n ns => rw [List.map_cons, PyData.eqvAll]; rfl
theorem ix0 (n : Nat) : ixN (n + 1) 0 = some 0 := by
  unfold ixN
  rw [if_pos (by omega), if_pos (by omega)]
  rfl
theorem atI0 {α : Type} {x : α} {xs : List α} : atI (x :: xs) 0 = some x := atI_nat (j := 0) rfl
theorem atI1 {α : Type} {x y : α} {xs : List α} : atI (x :: y :: xs) 1 = some y := atI_nat (j := 1) rfl
theorem atI2 {α : Type} {x y z : α} {xs : List α} : atI (x :: y :: z :: xs) 2 = some z := atI_nat (j := 2) rfl

section
variable {P : Program} {w : World} {K : PySem.W.Frag} {mg : Str → Option Value} {base : Heap}

def spStream (K : PySem.W.Frag) : Sp := fun vs H Q _ => ∃ (a : Addr) (ns : List Int), vs = [.ref a] ∧ SqL K H a (ns.map V.int) ∧ ns.length ≤ 63 ∧
  ∀ H' s A B, Same H H' → H s = none → H A = none → StreamAt H' s A B 0 → Q (.ref s) H'

theorem scStream : FnScope ["_law_script", "_law_cells", "_law_cell"] ["_law_script"] (defScope sStream) := ⟨rfl, rfl, rfl, by decide +kernel, rfl, by decide +kernel, by decide +kernel⟩
theorem ok_stream {f : Addr} {fd : FuncData} {k : Nat} (F : Fun K "_law_stream" "_law_stream" sStream f fd) (T : Nm mg) : FnOk P w K mg base CX0 (k + 1) f fd ["_law_script"] (spStream K) := by
  refine F.ok scStream (fun vs H Q E h => ?_) (fun cdv A outer s H vs Q E hr h => ?_)
  · obtain ⟨a, ns, rfl, _⟩ := h
    rfl
  · obtain ⟨a, ns, rfl, hS, hlen, q⟩ := h
    refine ⟨_, pss_cons (ps_setLc (i := 1) (own := [("_law_cell", 2)]) (g := gName 2) (by rfl) scStream.nd rfl rfl (sw_true rfl rfl rfl (by decide +kernel)) (pi_list (pv 0))
        (blkOk_by (own := [("_law_cell", 2)]) (N := ["_law_script", "_law_cells", "_law_cell"]) (sc := defScope sStream) (by decide +kernel))
        (fun _ _ _ _ _ => pg_name (i := 2) scStream.nd rfl (Or.inl rfl)) (fun _ _ _ _ _ => pts_nil)
        (fun _ _ _ _ _ => pe_callB call_abs (by rfl) T.abs (by decide +kernel) (pa_cons (pv 2) pa_nil)))
      (pss_one (ps_ret (pe_lst (pa_cons
        (pe_lc (own := [("_law_cell", 2)]) (g := gName 2) (by rfl) scStream.nd (pi_list (pv 1))
          (blkOk_by (own := [("_law_cell", 2)]) (N := ["_law_script", "_law_cells", "_law_cell"]) (sc := defScope sStream) (by decide +kernel))
          (fun _ _ _ _ _ => pg_name (i := 2) scStream.nd rfl (Or.inl rfl)) (fun _ _ _ _ _ => pts_one (pt_cmpR op_ge (pv 2) (pe_op op_pow pe_int pe_int) (nomark _)))
          (fun _ _ _ _ _ => pv 2))
        (pa_cons (pe_op op_cat (pv 1) (pe_lst (pa_cons (pe_op op_add (pe_callB call_len_seq (by rfl) T.len PySem.boot_len (pa_cons (pv 1) pa_nil)) pe_int) pa_nil)))
        (pa_cons pe_int pa_nil)))))), ?_⟩
    refine ⟨.ref a, rfl, a, rfl, ⟨_, hS⟩, fun D hD => lc_list (K := K) (a := a) (xs := vi ns) (fun i H1 => Same H H1 ∧ H1 D = some (.lst (vi ((ns.map absI).take i))))
      ⟨same_upd hD, upd_same⟩ (fun i H1 _ h => h.1.seq hS) ?_ ?_⟩
    · rintro i x H1 hx ⟨s1, e1⟩
      obtain ⟨v, ev, rfl⟩ := get_vi hx
      refine ⟨rfl, ?_⟩
      unfold tYes
      refine iteT ?_
      refine ⟨_, rfl, v, rfl, _, e1, ?_, ?_, ?_⟩
      · rw [List.length_map, List.length_take, List.length_map]
        exact small1000 (by omega)
      · exact same_put s1 hD
      · rw [upd_same, List.take_add_one, List.getElem?_map, ev, vi_app]
        rfl
    · rintro H1 ⟨s1, e1⟩
      rw [List.length_map, ← List.length_map (f := absI), List.take_length] at e1
      refine ⟨_, rfl, D, rfl, ⟨_, SqL.of e1⟩, fun G hG => lc_list (K := K) (a := D) (xs := vi (ns.map absI)) (fun i H2 => Same H1 H2 ∧ H2 G = some (.lst (vi (((ns.map absI).take i).filter fun x => decide (10 ^ 18 ≤ x)))))
        ⟨same_upd hG, upd_same⟩ (fun i H2 _ h => h.1.seq (SqL.of e1)) ?_ ?_⟩
      · rintro i x H2 hx ⟨s2, e2⟩
        obtain ⟨v, ev, rfl⟩ := get_vi hx
        refine ⟨rfl, _, rfl, _, _, rfl, rfl, ⟨by decide, by decide, by decide⟩, _, _, rfl, rfl, _, rfl, ?_⟩
        have et : ((ns.map absI).take (i + 1)).filter (fun x => decide (10 ^ 18 ≤ x)) = ((ns.map absI).take i).filter (fun x => decide (10 ^ 18 ≤ x)) ++ (if 10 ^ 18 ≤ v then [v] else []) := by
          rw [List.take_add_one, ev, List.filter_append]
          congr 1
          by_cases c : (10 : Int) ^ 18 ≤ v
          · rw [if_pos c]
            show List.filter _ [v] = [v]
            rw [List.filter_cons_of_pos (by simpa using c)]
            rfl
          · rw [if_neg c]
            show List.filter _ [v] = []
            rw [List.filter_cons_of_neg (by simpa using c)]
            rfl
        refine ite2 (fun c => ?_) (fun c => ?_)
        · have c : (10 : Int) ^ 18 ≤ v := of_decide_eq_true c
          refine ⟨_, rfl, _, e2, ?_, same_put s2 hG, ?_⟩
          · rw [List.length_map]
            refine small1000 (Nat.le_trans (List.length_filter_le _ _) ?_)
            rw [List.length_take, List.length_map]
            omega
          · rw [upd_same, et, if_pos c, vi_app]
            rfl
        · have c : ¬ (10 : Int) ^ 18 ≤ v := fun e => c (decide_eq_true e)
          refine ⟨s2, ?_⟩
          rw [et, if_neg c, List.append_nil]
          exact e2
      · rintro H2 ⟨s2, e2⟩
        rw [List.length_map, List.take_length] at e2
        have e1' := s2 _ _ e1
        refine ⟨_, rfl, _, rfl, D, _, rfl, .inl (SqL.of e1'), _, _, rfl, rfl, by show 1 ≤ sizeLine; decide, fun O hO => ?_⟩
        have e1'' := same_upd (o := .lst [.int (((vi (ns.map absI)).length : Nat) + 3)]) hO _ _ e1'
        refine ⟨D, O, _, _, rfl, rfl, e1'', upd_same, ?_, fun B hB => ?_⟩
        · simp only [List.length_map, List.length_append, List.length_cons, List.length_nil]
          exact Nat.le_of_lt (small1000 (by omega))
        refine ⟨by show 3 ≤ sizeLine; decide, fun S hS' => ?_⟩
        have nGS : S ≠ G := fun e => by
          rw [e] at hS'
          exact absurd hS' (by rw [same_upd hB _ _ (same_upd hO _ _ e2)]; exact nofun)
        have nBS : S ≠ B := fun e => by
          rw [e, upd_same] at hS'
          cases hS'
        have nGB : G ≠ B := fun e => by
          rw [← e] at hB
          exact absurd hB (by rw [same_upd hO _ _ e2]; exact nofun)
        have sA : Same H (upd (upd H2 O (.lst [.int (((vi (ns.map absI)).length : Nat) + 3)])) B (.lst (vi (ns.map absI) ++ [.int (((vi (ns.map absI)).length : Nat) + 3)]))) := (s1.trans s2).trans ((same_upd hO).trans (same_upd hB))
        refine q _ S G B (sA.trans (same_upd hS')) (sA.free hS') (s1.free hG) ⟨⟨(ns.map absI).filter (fun x => decide (10 ^ 18 ≤ x)), ns.map absI ++ [((ns.length : Nat) : Int) + 3], 0, upd_same, ?_, ?_, ?_, ?_, ?_, ?_, ?_, Int.le_refl _, Int.le_refl _⟩, nGB, nGS, nBS⟩
        · rw [upd_ne nGS.symm, upd_ne nGB, same_upd hO _ _ e2]
        · rw [upd_ne nBS.symm, upd_same, vi_app]
          show some (HO.lst (vi (ns.map absI) ++ [V.int (((vi (ns.map absI)).length : Nat) + 3)])) = _
          rw [List.length_map, List.length_map]
          rfl
        · intro x hx
          obtain ⟨y, _, rfl⟩ := List.mem_map.mp (List.mem_filter.mp hx).1
          exact absI_pos y
        · intro x hx
          rcases List.mem_append.mp hx with hx | hx
          · obtain ⟨y, _, rfl⟩ := List.mem_map.mp hx
            exact absI_pos y
          · rw [List.mem_singleton.mp hx]
            omega
        · simp
        · simp only [List.length_map, List.length_append, List.length_cons, List.length_nil]
          omega
        · refine Nat.le_trans (List.length_filter_le _ _) ?_
          rw [List.length_map]
          omega

theorem lg60 {m : Int} (h0 : 0 < m) (h1 : m < 2 ^ 60) : m.natAbs.log2 < 9000 := by
  have : m.natAbs ≠ 0 := by omega
  have h2 : m.natAbs < 2 ^ 60 := by omega
  have := (Nat.log2_lt this).mpr h2
  omega
def spDraw : Sp := fun vs H Q _ => ∃ (s A B : Addr) (c : Nat) (m : Int), vs = [.ref s, .int m] ∧ StreamAt H s A B c ∧ c < 2 ^ 40 ∧ 0 < m ∧ m < 2 ^ 60 ∧
  ∀ H' r, StreamAt H' s A B (c + 1) → Fr s A H H' → 0 ≤ r → r < m → Q (.int r) H'

theorem scDraw : FnScope ["_law_stream_here", "_law_many", "_law_rest", "_law_turn", "_law_cell", "_law_mixed"] ["_law_stream_here", "_law_many"] (defScope sDraw) := ⟨rfl, rfl, rfl, by decide +kernel, rfl, by decide +kernel, by decide +kernel⟩
theorem ok_draw {f : Addr} {fd : FuncData} {k : Nat} (F : Fun K "_law_draw" "_law_draw" sDraw f fd) (T : Nm mg) : FnOk P w K mg base CX0 (k + 1) f fd ["_law_stream_here", "_law_many"] spDraw := by
  refine F.ok scDraw (fun vs H Q E h => ?_) (fun cdv A outer s H vs Q E hr h => ?_)
  · obtain ⟨s, A, B, c, m, rfl, _⟩ := h
    rfl
  · obtain ⟨s, A, B, c, m, rfl, hS, hc, hm0, hm1, q⟩ := h
    refine ⟨_, pss_cons (ps_while PassesOwn.never (pt_cmpR (op_neD hr.units) (pe_ix ix_list (pv 0) pe_int (fun _ _ => rfl)) (pe_lst pa_nil) (nomark _))
        (pss_cons (ps_set (i := 2) scDraw.nd rfl (.inl rfl) (pe_ix ix_list (pe_ix ix_list (pv 0) pe_int (fun _ _ => rfl)) pe_int (fun _ _ => rfl)))
        (pss_cons (ps_if (pt_cmpR op_gt (pv 2) pe_int (nomark _))
          (pss_cons (ps_asg (pe_op op_fdivW (pv 2) (pv 1)) (pg_sub (pe_ix ix_list (pv 0) pe_int (fun _ _ => rfl)) pe_int set_list))
          (pss_one (ps_ret (pe_op op_modN (pv 2) (pv 1))))) pss_nil)
        (pss_one (ps_expr (pe_bm PySem.F.plainAttrs_list PySem.F.slot_list_pop PySem.F.type_list_pop mt_popAt (pe_ix ix_list (pv 0) pe_int (fun _ _ => rfl)) (pa_cons pe_int pa_nil)))))))
      (pss_cons (ps_set (i := 3) scDraw.nd rfl (.inl rfl) (pe_op op_add (pe_ix ix_list (pv 0) pe_int (fun _ _ => rfl)) pe_int))
      (pss_cons (ps_asg (pv 3) (pg_sub (pv 0) pe_int set_list))
      (pss_cons (ps_set (i := 4) scDraw.nd rfl (.inl rfl) (pe_op op_modN (pe_ix ix_list (pe_ix ix_list (pv 0) pe_int (fun _ _ => rfl)) (pe_op op_modN (pv 3) (pe_callB call_len_seq (by rfl) T.len PySem.boot_len (pa_cons (pe_ix ix_list (pv 0) pe_int (fun _ _ => rfl)) pa_nil))) (fun _ _ => rfl)) pe_int))
      (pss_cons (ps_set (i := 5) scDraw.nd rfl (.inl rfl) (pe_op op_add (pe_op op_add (pe_op op_mul (pv 4) (pe_op op_add pe_int (pe_op op_mul pe_int (pv 3)))) (pe_op op_mul (pe_op op_mul pe_int (pv 3)) (pv 3))) pe_int))
      (pss_cons (ps_set (i := 5) scDraw.nd rfl (.inl rfl) (pe_op op_modN (pv 5) pe_int))
      (pss_one (ps_ret (pe_op op_modN (pe_op op_fdivN (pe_op op_modN (pe_op op_mul (pv 5) (pv 5)) pe_int) pe_int) (pv 1))))))))), ?_⟩
    have fm : ∀ x y : Int, 0 < y → 0 ≤ x.fmod y ∧ x.fmod y < y := fun x y hy => by
      rw [Int.fmod_eq_emod_of_nonneg x (Int.le_of_lt hy)]
      exact ⟨Int.emod_nonneg x (by omega), Int.emod_lt_of_pos x hy⟩
    refine ⟨fun n σ H' => ∃ y2, σ = [some (.ref s), some (.int m), y2, none, none, none] ∧ StreamAt H' s A B c ∧ Fr s A H H' ∧ ∃ big : List Int, H' A = some (.lst (vi big)) ∧ n = big.length, ?_, ?_⟩
    · obtain ⟨big, cells, cnt, _, h2, _⟩ := hS.ex
      exact ⟨_, none, rfl, hS, fun _ _ _ _ e => e, big, h2, rfl⟩
    rintro n σ H1 ⟨y2, rfl, hS1, fr1, big', hb', rfl⟩
    obtain ⟨big, cells, cnt, h1, h2, h3, p1, p2, l0, l1, l2, c0, c1⟩ := hS1.ex
    have eb : vi big' = vi big := by
      rw [h2] at hb'
      injection hb' with hb'
      injection hb' with hb'
      exact hb'.symm
    have el : big'.length = big.length := by
      have := congrArg List.length eb
      simpa using this
    rw [el]
    refine ⟨_, rfl, s, _, _, _, rfl, rfl, SqL.of h1, atI0, Nat.zero_le _, fun e he => ?_⟩
    have n1 : s ≠ e := ne_of_none h1 he
    have n2 : A ≠ e := ne_of_none h2 he
    have n3 : B ≠ e := ne_of_none h3 he
    have h1' : (upd H1 e (.lst [])) s = _ := (upd_ne n1).trans h1
    have h2' : (upd H1 e (.lst [])) A = _ := (upd_ne n2).trans h2
    have h3' : (upd H1 e (.lst [])) B = _ := (upd_ne n3).trans h3
    have sm : Same H1 (upd H1 e (.lst [])) := same_upd he
    refine ⟨.list (big.map .int), .list [], .lst (SqL.of h2') (dp_ints big), .lst (SqL.of upd_same) .nil, shaped_list big, shaped_list [], _, rfl, ?_⟩
    rw [eqv_nil]
    cases big with
    | nil =>
      refine iteF ?_
      -- turn = s[2] + 1; s[2] = turn
      refine ⟨_, rfl, s, _, _, _, rfl, rfl, SqL.of h1', atI2, _, _, rfl, rfl, ?_⟩
      refine ⟨_, rfl, _, rfl, s, _, _, 2, rfl, rfl, h1', rfl, ?_⟩
      have h3s : (upd (upd H1 e (.lst [])) s (.lst ([V.ref A, V.ref B, V.int cnt].set 2 (V.int (cnt + 1))))) B = _ := (upd_ne hS1.nsB.symm).trans h3'
      have h2s : (upd (upd H1 e (.lst [])) s (.lst ([V.ref A, V.ref B, V.int cnt].set 2 (V.int (cnt + 1))))) A = _ := (upd_ne hS1.nsA.symm).trans h2'
      have hS2 : StreamAt (upd (upd H1 e (.lst [])) s (.lst ([V.ref A, V.ref B, V.int cnt].set 2 (V.int (cnt + 1))))) s A B (c + 1) :=
        ⟨⟨[], cells, cnt + 1, upd_same, h2s, h3s, p1, p2, l0, l1, l2, by omega, by omega⟩, hS1.nAB, hS1.nsA, hS1.nsB⟩
      have fr2 : Fr s A H (upd (upd H1 e (.lst [])) s (.lst ([V.ref A, V.ref B, V.int cnt].set 2 (V.int (cnt + 1))))) := fun b o z1 z2 z3 => by
        rw [upd_ne z1]
        exact sm _ _ (fr1 b o z1 z2 z3)
      have h1s : (upd (upd H1 e (.lst [])) s (.lst ([V.ref A, V.ref B, V.int cnt].set 2 (V.int (cnt + 1))))) s = some (.lst [V.ref A, V.ref B, V.int (cnt + 1)]) := upd_same
      have hl : (0 : Int) < (cells.length : Nat) := by omega
      obtain ⟨g0, g1⟩ := fm (cnt + 1) ((cells.length : Nat) : Int) hl
      have hj : ((cnt + 1).fmod ((cells.length : Nat) : Int)).toNat < cells.length := by omega
      have hat : atI (vi cells) ((cnt + 1).fmod (((vi cells).length : Nat) : Int)) = some (V.int cells[((cnt + 1).fmod ((cells.length : Nat) : Int)).toNat]) := by
        rw [List.length_map]
        have := atI_nat (xs := vi cells) (j := ((cnt + 1).fmod ((cells.length : Nat) : Int)).toNat) (v := V.int cells[((cnt + 1).fmod ((cells.length : Nat) : Int)).toNat]) (by rw [List.getElem?_map, List.getElem?_eq_getElem hj]; rfl)
        rw [show ((((cnt + 1).fmod ((cells.length : Nat) : Int)).toNat : Nat) : Int) = (cnt + 1).fmod ((cells.length : Nat) : Int) by omega] at this
        exact this
      refine ⟨_, rfl, s, _, _, _, rfl, rfl, SqL.of h1s, atI1, _, rfl, _, rfl, s, _, _, _, rfl, rfl, SqL.of h1s, atI1, B, _, rfl, .inl (SqL.of h3s), _, _, rfl, rfl, by rw [List.length_map]; omega, B, _, _, _, rfl, rfl, SqL.of h3s, hat, _, _, rfl, rfl, (by show (2147483647 : Int) ≠ 0; decide), ?_⟩
      generalize cells[((cnt + 1).fmod ((cells.length : Nat) : Int)).toNat] = x
      obtain ⟨x0, x1⟩ := fm x 2147483647 (by decide)
      refine ⟨_, rfl, _, rfl, _, _, rfl, rfl, .inl ⟨by decide, by decide⟩, _, _, rfl, rfl, _, _, rfl, rfl, .inl ⟨by omega, by omega⟩, ?_⟩
      refine ⟨_, rfl, _, _, rfl, rfl, .inl ⟨by decide, by decide⟩, _, rfl, _, _, rfl, rfl, .inr ⟨by omega, by omega⟩, _, _, rfl, rfl, _, _, rfl, rfl, ?_⟩
      refine ⟨_, rfl, _, _, rfl, rfl, (by show (2147483629 : Int) ≠ 0; decide), ?_⟩
      refine ⟨_, rfl, _, rfl, _, _, rfl, rfl, .inl ?_, _, _, rfl, rfl, (by show (2147483587 : Int) ≠ 0; decide), _, _, rfl, rfl, ⟨by decide, by decide⟩, _, rfl, _, _, rfl, rfl, by omega, ?_⟩
      · generalize (x.fmod 2147483647 * _ + _ + _ : Int) = y
        obtain ⟨y0, y1⟩ := fm y 2147483629 (by decide)
        exact ⟨by omega, by omega⟩
      · exact q _ _ hS2 fr2 (fm _ m hm0).1 (fm _ m hm0).2
    | cons x r =>
      refine iteT ⟨_, fun _ _ h => h, ?_⟩
      refine ⟨_, rfl, s, _, _, _, rfl, rfl, SqL.of h1', atI0, A, _, _, _, rfl, rfl, SqL.of h2', atI0, ?_⟩
      refine ⟨_, rfl, _, _, rfl, rfl, _, rfl, ?_⟩
      have hx : 0 ≤ x := p1 x (List.mem_cons_self ..)
      have hr' : ∀ y ∈ r, 0 ≤ y := fun y hy => p1 y (List.mem_cons_of_mem _ hy)
      refine ite2 (fun cx => ?_) (fun cx => ?_)
      · refine ⟨_, rfl, _, rfl, _, _, rfl, rfl, ⟨hm0, lg60 hm0 hm1⟩, ?_⟩
        refine ⟨_, rfl, s, _, _, _, rfl, rfl, SqL.of h1', atI0, A, _, _, 0, rfl, rfl, h2', ix0 _, ?_⟩
        refine ⟨_, rfl, _, rfl, _, _, rfl, rfl, by omega, ?_⟩
        refine q _ _ ⟨⟨x / m :: r, cells, cnt, (upd_ne hS1.nsA).trans h1', upd_same, (upd_ne hS1.nAB.symm).trans h3', ?_, p2, l0, l1, l2, c0, by omega⟩, hS1.nAB, hS1.nsA, hS1.nsB⟩ ?_ (fm x m hm0).1 (fm x m hm0).2
        · intro y hy
          rcases List.mem_cons.mp hy with rfl | hy
          · exact Int.ediv_nonneg hx (Int.le_of_lt hm0)
          · exact hr' y hy
        · intro b o z1 z2 z3
          rw [upd_ne z2]
          exact sm _ _ (fr1 b o z1 z2 z3)
      · refine ⟨_, rfl, s, _, _, _, rfl, rfl, SqL.of h1', atI0, .inl ⟨rfl, _, SqL.of h2'⟩, A, _, _, 0, _, rfl, rfl, h2', by decide, by decide, (ixN_seq (ix0 _)).1, rfl, ?_⟩
        refine ⟨r.length, by simp, _, rfl, ⟨⟨r, cells, cnt, (upd_ne hS1.nsA).trans h1', upd_same, (upd_ne hS1.nAB.symm).trans h3', hr', p2, l0, l1, by simp at l2; omega, c0, c1⟩, hS1.nAB, hS1.nsA, hS1.nsB⟩, ?_, r, upd_same, rfl⟩
        intro b o z1 z2 z3
        rw [upd_ne z2]
        exact sm _ _ (fr1 b o z1 z2 z3)
end
end Fw
namespace Fw
open PySem PySem.Spec PyProof.Rows L2

structure Def (K : PySem.W.Frag) (mg : Str → Option Value) (x : Str) (st : Stmt) (f : Addr) (fd : FuncData) (ps : List Str) : Prop where
  F : Fun K x x st f fd
  b : Binds K fd ps []
  g : mg x = some (.ref f)

section
variable {s A B : Addr} {H H1 H2 : Hp} {c : Nat}
theorem StreamAt.ne (hS : StreamAt H s A B c) {L : Addr} (h : H L = none) : s ≠ L ∧ A ≠ L ∧ B ≠ L := by
  obtain ⟨big, cells, cnt, h1, h2, h3, _⟩ := hS.ex
  exact ⟨ne_of_none h1 h, ne_of_none h2 h, ne_of_none h3 h⟩
theorem StreamAt.put (hS : StreamAt H s A B c) {L : Addr} {o : HO} (n : s ≠ L ∧ A ≠ L ∧ B ≠ L) : StreamAt (upd H L o) s A B c := by
  obtain ⟨big, cells, cnt, h1, h2, h3, r⟩ := hS.ex
  exact ⟨⟨big, cells, cnt, (upd_ne n.1).trans h1, (upd_ne n.2.1).trans h2, (upd_ne n.2.2).trans h3, r⟩, hS.nAB, hS.nsA, hS.nsB⟩
theorem StreamAt.mono (hS : StreamAt H s A B c) {c' : Nat} (h : c ≤ c') : StreamAt H s A B c' := by
  obtain ⟨big, cells, cnt, h1, h2, h3, p1, p2, l0, l1, l2, c0, c1⟩ := hS.ex
  exact ⟨⟨big, cells, cnt, h1, h2, h3, p1, p2, l0, l1, l2, c0, by omega⟩, hS.nAB, hS.nsA, hS.nsB⟩
theorem StreamAt.same (hS : StreamAt H s A B c) (e : Same H H1) : StreamAt H1 s A B c := by
  obtain ⟨big, cells, cnt, h1, h2, h3, r⟩ := hS.ex
  exact ⟨⟨big, cells, cnt, e _ _ h1, e _ _ h2, e _ _ h3, r⟩, hS.nAB, hS.nsA, hS.nsB⟩
theorem StreamAt.tup (hS : StreamAt H s A B c) {t : Addr} {xs : List V} (h : H t = some (.tup xs)) : t ≠ s ∧ t ≠ A ∧ t ≠ B := by
  obtain ⟨big, cells, cnt, h1, h2, h3, _⟩ := hS.ex
  exact ⟨ne_of h h1 (by intro q; cases q), ne_of h h2 (by intro q; cases q), ne_of h h3 (by intro q; cases q)⟩
theorem Fr.refl : Fr s A H H := fun _ _ _ _ e => e
theorem Fr.free (f : Fr s A H H1) (hS : StreamAt H1 s A B c) {L : Addr} (h : H1 L = none) : H L = none := by
  obtain ⟨n1, n2, _⟩ := hS.ne h
  cases e : H L with
  | none => rfl
  | some o =>
    rw [f L o n1.symm n2.symm e] at h
    cases h
theorem Fr.put (f : Fr s A H H1) {L : Addr} {o : HO} (h : H L = none) : Fr s A H (upd H1 L o) := fun b u z1 z2 e => by
  rw [upd_ne (ne_of_none e h)]
  exact f b u z1 z2 e
theorem Fr.tup (f : Fr s A H H1) (hS : StreamAt H s A B c) {t : Addr} {xs : List V} (h : H t = some (.tup xs)) : H1 t = some (.tup xs) :=
  f t _ (hS.tup h).1 (hS.tup h).2.1 h
end

/-- a house, as it stands in memory -/
def HouseAt (H : Hp) (h : Addr) (n : Int) (D : List (Int × Int)) : Prop := ∃ (q : Addr) (ps : List (Addr × Int × Int)),
  H h = some (.tup [.int n, .ref q]) ∧ H q = some (.tup (ps.map fun p => V.ref p.1)) ∧ D = ps.map (·.2) ∧ ∀ p ∈ ps, H p.1 = some (.tup [.int p.2.1, .int p.2.2])
theorem HouseAt.same {H H' : Hp} {h : Addr} {n : Int} {D : List (Int × Int)} (x : HouseAt H h n D) (e : Same H H') : HouseAt H' h n D := by
  obtain ⟨q, ps, h1, h2, h3, h4⟩ := x
  exact ⟨q, ps, e _ _ h1, e _ _ h2, h3, fun p hp => e _ _ (h4 p hp)⟩
theorem HouseAt.fr {s A B : Addr} {c : Nat} {H H' : Hp} {h : Addr} {n : Int} {D : List (Int × Int)} (x : HouseAt H h n D) (hS : StreamAt H s A B c) (e : Fr s A H H') : HouseAt H' h n D := by
  obtain ⟨q, ps, h1, h2, h3, h4⟩ := x
  exact ⟨q, ps, e.tup hS h1, e.tup hS h2, h3, fun p hp => e.tup hS (h4 p hp)⟩

theorem perm_map_inv {α β : Type} {f : α → β} : ∀ {ys zs : List β}, ys.Perm zs → ∀ {ps : List α}, zs = ps.map f → ∃ ps' : List α, ps'.Perm ps ∧ ys = ps'.map f := by
  intro ys zs h
  induction h with
  | nil =>
    intro ps e
    cases ps with
    | nil => exact ⟨[], .nil, rfl⟩
    | cons p r => cases e
  | cons x _ ih =>
    intro ps e
    cases ps with
    | nil => cases e
    | cons p r =>
      rw [List.map_cons] at e
      injection e with e1 e2
      obtain ⟨ps', hp, he⟩ := ih e2
      exact ⟨p :: ps', hp.cons p, by rw [he, List.map_cons, e1]⟩
  | swap x y l =>
    intro ps e
    match ps, e with
    | p :: q :: r, e =>
      rw [List.map_cons, List.map_cons] at e
      injection e with e1 e2
      injection e2 with e2 e3
      exact ⟨q :: p :: r, List.Perm.swap p q r, by rw [List.map_cons, List.map_cons, e1, e2, e3]⟩
  | trans _ _ ih1 ih2 =>
    intro ps e
    obtain ⟨p2, h2, e2⟩ := ih2 e
    obtain ⟨p1, h1, e1⟩ := ih1 e2
    exact ⟨p1, h1.trans h2, e1⟩

theorem rg_vi (n : Int) : rgV 0 n = vi ((List.range n.toNat).map fun (i : Nat) => (i : Int)) := by
  unfold rgV vi
  rw [List.map_map, Int.sub_zero]
  refine List.map_congr_left fun i _ => ?_
  show V.int (0 + (i : Int)) = V.int (i : Int)
  rw [Int.zero_add]
def rg (n : Int) : List Int := (List.range n.toNat).map fun (i : Nat) => (i : Int)
theorem mem_rg {n x : Int} : x ∈ rg n ↔ 0 ≤ x ∧ x < n := by
  unfold rg
  rw [List.mem_map]
  constructor
  · rintro ⟨i, hi, rfl⟩
    rw [List.mem_range] at hi
    omega
  · rintro ⟨h0, h1⟩
    exact ⟨x.toNat, List.mem_range.mpr (by omega), by omega⟩
theorem rg_len (n : Int) : (rg n).length = n.toNat := by simp [rg]
theorem rg_nodup (n : Int) : (rg n).Nodup := (range_up n.toNat).imp fun h => by omega

theorem vi_erase (ns : List Int) (i : Nat) : (vi ns).eraseIdx i = vi (ns.eraseIdx i) := by
  induction ns generalizing i with
  | nil => rfl
  | cons n ns ih =>
    cases i with
    | zero => rfl
    | succ i =>
      show V.int n :: (vi ns).eraseIdx i = V.int n :: vi (ns.eraseIdx i)
      rw [ih]
theorem erase_perm : ∀ {ns : List Int} {i : Nat} (h : i < ns.length), (ns[i] :: ns.eraseIdx i).Perm ns
  | n :: ns, 0, _ => List.Perm.refl _
  | n :: ns, i + 1, h => by
    have h' : i < ns.length := by simpa using h
    show (ns[i] :: n :: ns.eraseIdx i).Perm (n :: ns)
    exact (List.Perm.swap _ _ _).trans ((erase_perm (by simpa using h)).cons n)
theorem lacks {r : Int} (h0 : 0 ≤ r) (h1 : r < 3) : ∃ lk : Int, atI [V.int 0, V.int 0, V.int 6] r = some (.int lk) ∧ (lk = 0 ∨ lk = 6) := by
  have : r = 0 ∨ r = 1 ∨ r = 2 := by omega
  rcases this with rfl | rfl | rfl
  · exact ⟨0, atI0, .inl rfl⟩
  · exact ⟨0, atI1, .inl rfl⟩
  · exact ⟨6, atI2, .inr rfl⟩
theorem pick3 {r r1 : Int} {i : Nat} (h0 : 0 ≤ r) (h1 : r < 3) (a0 : 0 ≤ r1) (a1 : r1 < 1 + (i : Int)) : ∃ ix : Int, atI [V.int (1 + (i : Int) - 1), V.int 0, V.int r1] r = some (.int ix) ∧ 0 ≤ ix ∧ ix ≤ i := by
  have : r = 0 ∨ r = 1 ∨ r = 2 := by omega
  rcases this with rfl | rfl | rfl
  · exact ⟨_, atI0, by omega, by omega⟩
  · exact ⟨_, atI1, by omega, by omega⟩
  · exact ⟨_, atI2, by omega, by omega⟩
/-- the two ints of a pair in memory -/
def twoOf (H : Hp) (x : V) : Int × Int := match x with
  | .ref t => match H t with
    | some (.tup [.int i, .int j]) => (i, j)
    | _ => (0, 0)
  | _ => (0, 0)
theorem twoOf_eq {H : Hp} {t : Addr} {d : Int × Int} (h : H t = some (.tup [.int d.1, .int d.2])) : twoOf H (.ref t) = d := by
  unfold twoOf
  simp only [h]
theorem Dlt_of {x y : Int × Int} (h : ¬ (y.1 < x.1 ∨ (y.1 = x.1 ∧ y.2 < x.2))) (n : x ≠ y) : Dlt x y := by
  unfold Dlt
  have : ¬ (x.1 = y.1 ∧ x.2 = y.2) := fun e => n (Prod.ext e.1 e.2)
  omega
/-- what stands while the doors are made -/
structure Mid (H : Hp) (s A B O R : Addr) (ord : List Int) (c : Nat) (ps : List (Addr × Int × Int)) (H' : Hp) : Prop where
  st : StreamAt H' s A B c
  frm : Fr s A H H'
  eO : H' O = some (.lst (vi ord))
  eR : H' R = some (.lst (ps.map fun p => V.ref p.1))
  eP : ∀ p ∈ ps, H' p.1 = some (.tup [.int p.2.1, .int p.2.2])
theorem Mid.fr {H H1 H2 : Hp} {s A B O R : Addr} {ord : List Int} {c c' : Nat} {ps : List (Addr × Int × Int)} (m : Mid H s A B O R ord c ps H1) (hS : StreamAt H2 s A B c') (f : Fr s A H1 H2) (zO : s ≠ O ∧ A ≠ O ∧ B ≠ O) (zR : s ≠ R ∧ A ≠ R ∧ B ≠ R) : Mid H s A B O R ord c' ps H2 :=
  ⟨hS, m.frm.trans f, f _ _ zO.1.symm zO.2.1.symm m.eO, f _ _ zR.1.symm zR.2.1.symm m.eR, fun p hp => f.tup m.st (m.eP p hp)⟩
theorem Mid.new {H H1 : Hp} {s A B O R : Addr} {ord : List Int} {c : Nat} {ps : List (Addr × Int × Int)} (m : Mid H s A B O R ord c ps H1) {N : Addr} {o : HO} (h : H1 N = none) : Mid H s A B O R ord c ps (upd H1 N o) :=
  ⟨m.st.same (same_upd h), m.frm.put (m.frm.free m.st h), same_upd h _ _ m.eO, same_upd h _ _ m.eR, fun p hp => same_upd h _ _ (m.eP p hp)⟩
theorem if_by {t : TT} {tb te : TS} {D : Ends} {σ : L2.St} {H : Hp} (Good : Bool → Hp → Prop) (hb : ∀ H', Good true H' → tb D σ H') (he : ∀ H', Good false H' → te D σ H')
    (h : ∀ Q : Bool → Hp → Prop, (∀ b H', Good b H' → Q b H') → t σ H Q) : tIfS t tb te D σ H := h _ fun b H' g => by
  cases b with
  | true => exact iteT (hb _ g)
  | false => exact iteF (he _ g)
section
variable {P : Program} {w : World} {K : PySem.W.Frag} {mg : Str → Option Value} {base : Heap}
def spHouse : Sp := fun vs H Q _ => ∃ (s A B : Addr) (c : Nat) (least most : Int), vs = [.ref s, .int least, .int most] ∧ StreamAt H s A B c ∧ c < 2 ^ 30 ∧ 1 ≤ least ∧ least ≤ most ∧ most ≤ 8 ∧
  ∀ H' h n D, StreamAt H' s A B (c + 40) → Fr s A H H' → HouseAt H' h n D → Forest n D → least ≤ n → n ≤ most → Q (.ref h) H'

abbrev nHouse : List Str := ["_law_stream_here", "_law_least", "_law_most", "_law_rooms", "_law_left", "_law_order", "_law_doors", "_law_lacks", "_law_k", "_law_on"]
theorem scHouse : FnScope nHouse ["_law_stream_here", "_law_least", "_law_most"] (defScope sHouse) := ⟨rfl, rfl, rfl, by decide +kernel, rfl, by decide +kernel, by decide +kernel⟩
theorem ok_house {f fD : Addr} {fd fdD : FuncData} (F : Fun K "_law_house" "_law_house" sHouse f fd) (T : Nm mg) (D : Def K mg "_law_draw" sDraw fD fdD ["_law_stream_here", "_law_many"]) : FnOk P w K mg base CX0 2 f fd ["_law_stream_here", "_law_least", "_law_most"] spHouse := by
  have GD : FnOk P w K mg base CX0 1 fD fdD ["_law_stream_here", "_law_many"] spDraw := ok_draw D.F T
  refine F.ok scHouse (fun vs H Q E h => ?_) (fun cdv A outer s H vs Q E hr h => ?_)
  · obtain ⟨s, A, B, c, least, most, rfl, _⟩ := h
    rfl
  · obtain ⟨s, A, B, c, least, most, rfl, hS, hc, hl1, hl2, hl3, q⟩ := h
    refine ⟨_, pss_cons (ps_set (i := 3) scHouse.nd rfl (.inl rfl) (pe_op op_add (pv 1) (pe_call GD hr (by rfl) D.g D.F.kp D.b .nil pass0 (pa_cons (pv 0) (pa_cons (pe_op op_add (pe_op op_sub (pv 2) (pv 1)) pe_int) pa_nil)))))
      (pss_cons (ps_par3 (i := 4) (j := 5) (l := 6) (by rfl) scHouse.nd rfl rfl rfl (by decide) (by decide) (by decide) rfl rfl rfl (pa_cons (pe_listRg (by rfl) (by rfl) T.list (prg_1 (by rfl) T.range (pv 3))) (pa_cons (pe_lst pa_nil) (pa_cons (pe_lst pa_nil) pa_nil))) (by rfl))
      (pss_cons (ps_while PassesOwn.never (pt_cmpR (op_neD hr.units) (pv 4) (pe_lst pa_nil) (nomark _))
        (pss_one (ps_expr (pe_bm PySem.F.plainAttrs_list PySem.F.slot_list_append PySem.F.type_list_append mt_append (pv 5) (pa_cons
          (pe_bm PySem.F.plainAttrs_list PySem.F.slot_list_pop PySem.F.type_list_pop mt_popAt (pv 4) (pa_cons
            (pe_call GD hr (by rfl) D.g D.F.kp D.b .nil pass0 (pa_cons (pv 0) (pa_cons (pe_callB call_len_seq (by rfl) T.len PySem.boot_len (pa_cons (pv 4) pa_nil)) pa_nil))) pa_nil)) pa_nil)))))
      (pss_cons (ps_set (i := 7) scHouse.nd rfl (.inl rfl) (pe_ix ix_list (pe_lst (pa_cons pe_int (pa_cons pe_int (pa_cons pe_int pa_nil)))) (pe_call GD hr (by rfl) D.g D.F.kp D.b .nil pass0 (pa_cons (pv 0) (pa_cons pe_int pa_nil))) (fun _ _ => rfl)))
      (pss_cons (ps_for PassesOwn.never rfl (pi_range2 (by rfl) T.range (pa_cons pe_int (pa_cons (pv 3) pa_nil))) (pg_name (i := 8) scHouse.nd rfl (Or.inl rfl))
        (pss_cons (ps_set (i := 9) scHouse.nd rfl (.inl rfl) (pe_ix ix_list (pv 5) (pe_ix ix_list (pe_lst (pa_cons (pe_op op_sub (pv 8) pe_int) (pa_cons pe_int (pa_cons (pe_call GD hr (by rfl) D.g D.F.kp D.b .nil pass0 (pa_cons (pv 0) (pa_cons (pv 8) pa_nil))) pa_nil))))
            (pe_call GD hr (by rfl) D.g D.F.kp D.b .nil pass0 (pa_cons (pv 0) (pa_cons pe_int pa_nil))) (fun _ _ => rfl)) (fun _ _ => rfl)))
        (pss_one (ps_if (PW.pt (pw_or (pt_cmpR op_eq (pv 7) pe_int (nomark _)) (pw_or1 (pt_cmpR op_gt (pe_call GD hr (by rfl) D.g D.F.kp D.b .nil pass0 (pa_cons (pv 0) (pa_cons (pv 7) pa_nil))) pe_int (nomark _)))))
          (pss_one (ps_expr (pe_bm PySem.F.plainAttrs_list PySem.F.slot_list_append PySem.F.type_list_append mt_append (pv 6) (pa_cons (pe_tup
            (pa_cons (pe_callB (call_min2 rfl) (by rfl) T.min (by decide +kernel) (pa_cons (pv 9) (pa_cons (pe_ix ix_list (pv 5) (pv 8) (fun _ _ => rfl)) pa_nil)))
            (pa_cons (pe_callB (call_max2 rfl) (by rfl) T.max (by decide +kernel) (pa_cons (pv 9) (pa_cons (pe_ix ix_list (pv 5) (pv 8) (fun _ _ => rfl)) pa_nil))) pa_nil))) pa_nil))))
          pss_nil))))
      (pss_one (ps_ret (pe_tup (pa_cons (pv 3) (pa_cons (pe_callTy call_tuple_of (by rfl) T.tuple (by decide +kernel) (pa_cons (pe_callB cr_sortedPO (by rfl) T.sorted (by decide +kernel) (pa_cons (pv 6) pa_nil)) pa_nil)) pa_nil))))))))), ?_⟩
    refine ⟨_, rfl, _, rfl, _, rfl, _, rfl, _, _, rfl, rfl, _, _, rfl, rfl, s, A, B, c, _, rfl, hS, by omega, by omega, by omega, fun H1 r hS1 fr1 r0 r1 => ⟨_, _, rfl, rfl, ?_⟩⟩
    show gName 3 (V.int (least + r)) _ _ _
    generalize hn : least + r = n
    have n0 : 1 ≤ n := by omega
    have n1 : n ≤ 8 := by omega
    have n2 : least ≤ n := by omega
    have n3 : n ≤ most := by omega
    clear hn r0 r1
    refine ⟨_, rfl, _, rfl, RgOk.of_le (by omega) (by omega) (by omega) (by omega), fun L hL => ⟨Nat.zero_le _, fun O hO => ⟨Nat.zero_le _, fun R hR => ⟨_, _, _, rfl, ?_⟩⟩⟩⟩
    rw [rg_vi] at hR hO ⊢
    rw [show ((List.range n.toNat).map fun (i : Nat) => (i : Int)) = rg n from rfl] at hR hO ⊢
    have nLO : O ≠ L := fun e => by rw [e, upd_same] at hO; cases hO
    have hO1 : H1 O = none := by rw [upd_ne nLO] at hO; exact hO
    have nOR : R ≠ O := fun e => by rw [e, upd_same] at hR; cases hR
    have nLR : R ≠ L := fun e => by rw [e, upd_ne nLO.symm, upd_same] at hR; cases hR
    have hR1 : H1 R = none := by rw [upd_ne nOR, upd_ne nLR] at hR; exact hR
    have zL := hS1.ne hL
    have zO := hS1.ne hO1
    have zR := hS1.ne hR1
    have gL := fr1.free hS1 hL
    have gO := fr1.free hS1 hO1
    have gR := fr1.free hS1 hR1
    have hS2 : StreamAt (upd (upd (upd H1 L (.lst (vi (rg n)))) O (.lst [])) R (.lst [])) s A B (c + 1) := ((hS1.put zL).put zO).put zR
    have fr2 : Fr s A H (upd (upd (upd H1 L (.lst (vi (rg n)))) O (.lst [])) R (.lst [])) := ((fr1.put gL).put gO).put gR
    -- while left != []: order.append(left.pop(draw(s, len(left))))
    refine ⟨fun m σ H' => ∃ (lft ord : List Int) (c' : Nat), σ = [some (.ref s), some (.int least), some (.int most), some (.int n), some (.ref L), some (.ref O), some (.ref R), none, none, none] ∧ StreamAt H' s A B c' ∧ c' + lft.length ≤ c + 1 + n.toNat ∧
        Fr s A H H' ∧ H' L = some (.lst (vi lft)) ∧ H' O = some (.lst (vi ord)) ∧ H' R = some (.lst []) ∧ (ord ++ lft).Perm (rg n) ∧ m = lft.length,
      ⟨_, rg n, [], c + 1, rfl, hS2, by rw [rg_len]; omega, fr2, ?_, ?_, upd_same, List.Perm.refl _, rfl⟩, ?_⟩
    · rw [upd_ne nLR.symm, upd_ne nLO.symm, upd_same]
    · rw [upd_ne nOR.symm, upd_same]
      rfl
    clear hS2 fr2 hR hO
    rintro m σ H2 ⟨lft, ord, c2, rfl, hS2, hc2, fr2, eL, eO, eR, pm, rfl⟩
    have plen : ord.length + lft.length = n.toNat := by
      have := pm.length_eq
      rw [List.length_append, rg_len] at this
      exact this
    refine ⟨_, rfl, Nat.zero_le _, fun e he => ?_⟩
    have sm : Same H2 (upd H2 e (.lst [])) := same_upd he
    have hS3 := hS2.same sm
    have fr3 := fr2.put (o := .lst []) (fr2.free hS2 he)
    have eL3 := sm _ _ eL
    have eO3 := sm _ _ eO
    have eR3 := sm _ _ eR
    refine ⟨.list (lft.map .int), .list [], .lst (SqL.of eL3) (dp_ints lft), .lst (SqL.of upd_same) .nil, shaped_list lft, shaped_list [], _, rfl, ?_⟩
    clear eL eO eR hS2 fr2
    generalize upd H2 e (.lst []) = H3 at *
    clear sm he
    rw [eqv_nil]
    cases lft with
    | cons x0 lft0 =>
      generalize hlf : x0 :: lft0 = lft at *
      have lpos : 0 < lft.length := by rw [← hlf]; simp
      have lem : lft.isEmpty = false := by rw [← hlf]; rfl
      rw [lem]
      clear lem hlf
      refine iteT ⟨_, fun _ _ h => h, ?_⟩
      refine ⟨_, rfl, .inl ⟨rfl, _, SqL.of eO3⟩, _, rfl, .inl ⟨rfl, _, SqL.of eL3⟩, _, rfl, _, rfl, L, _, rfl, .inl (SqL.of eL3), s, A, B, c2, _, rfl, hS3, by omega, ?_, ?_, fun H4 r hS4 fr4 r0 r1 => ?_⟩
      · rw [List.length_map]; omega
      · rw [List.length_map]; omega
      rw [List.length_map] at r1
      have eL4 := fr4 _ _ zL.1.symm zL.2.1.symm eL3
      have eO4 := fr4 _ _ zO.1.symm zO.2.1.symm eO3
      have eR4 := fr4 _ _ zR.1.symm zR.2.1.symm eR3
      have hj : r.toNat < lft.length := by omega
      have ixr : ixN (vi lft).length r = some r.toNat := by
        unfold ixN
        rw [List.length_map, if_pos r0, if_pos r1]
      have gx : (vi lft)[r.toNat]? = some (V.int lft[r.toNat]) := by
        rw [List.getElem?_map, List.getElem?_eq_getElem hj]
        rfl
      refine ⟨L, _, r, r.toNat, _, rfl, rfl, eL4, by omega, by omega, (ixN_seq ixr).1, gx, ?_⟩
      have eO5 : (upd H4 L (.lst ((vi lft).eraseIdx r.toNat))) O = some (.lst (vi ord)) := (upd_ne nLO).trans eO4
      refine ⟨O, _, _, rfl, rfl, eO5, ?_, ?_⟩
      · rw [List.length_map]
        exact small1000 (by omega)
      have el : (lft.eraseIdx r.toNat).length = lft.length - 1 := by
        rw [List.length_eraseIdx, if_pos hj]
      refine ⟨(lft.eraseIdx r.toNat).length, by omega, lft.eraseIdx r.toNat, ord ++ [lft[r.toNat]], c2 + 1, rfl, ((hS4.put zL).put zO), by omega, ((fr3.trans fr4).put gL).put gO, ?_, ?_, ?_, ?_, rfl⟩
      · rw [upd_ne nLO.symm, upd_same, vi_erase]
      · rw [upd_same, vi_app]
        rfl
      · rw [upd_ne nOR, upd_ne nLR]
        exact eR4
      · refine List.Perm.trans ?_ pm
        rw [List.append_assoc]
        refine List.Perm.append_left ord ?_
        exact erase_perm hj
    | nil =>
      refine iteF ?_
      rw [List.append_nil] at pm
      clear eL3 zL gL hL nLO nLR hS1 fr1 hO1 hR1
      simp only [List.length_nil, Nat.add_zero] at hc2 plen
      have zO3 := zO
      -- lacks = [0, 0, 6][draw(s, 3)]
      refine ⟨by show 3 ≤ sizeLine; decide, fun M hM => ?_⟩
      have sm : Same H3 (upd H3 M (.lst [.int 0, .int 0, .int 6])) := same_upd hM
      refine ⟨_, rfl, s, A, B, c2, 3, rfl, hS3.same sm, by omega, by decide, by decide, fun H4 r hS4 fr4 r0 r1 => ?_⟩
      have zM := hS3.ne hM
      have eM4 := fr4 M _ zM.1.symm zM.2.1.symm upd_same
      have eO4 := fr4 _ _ zO.1.symm zO.2.1.symm (sm _ _ eO3)
      have eR4 := fr4 _ _ zR.1.symm zR.2.1.symm (sm _ _ eR3)
      have fr4' : Fr s A H H4 := (fr3.put (fr3.free hS3 hM)).trans fr4
      obtain ⟨lk, elk, hlk⟩ := lacks r0 r1
      refine ⟨M, _, _, _, rfl, rfl, SqL.of eM4, elk, ?_⟩
      clear eM4 fr4 sm hM zM elk eO3 eR3 fr3 hS3
      -- for k in range(1, rooms)
      refine ⟨_, rfl, 1, n, rfl, ⟨by decide, by decide, by omega, by omega⟩, for_range (lo := 1) (n := (n - 1).toNat) (fun i σ H' => ∃ (cc : Nat) (y8 y9 : Option V) (ps : List (Addr × Int × Int)),
        σ = [some (.ref s), some (.int least), some (.int most), some (.int n), some (.ref L), some (.ref O), some (.ref R), some (.int lk), y8, y9] ∧ cc ≤ c2 + 1 + 3 * i ∧ Mid H s A B O R ord cc ps H' ∧
        ps.length ≤ i ∧ ∃ U E, Grown U E ∧ (∀ x, x ∈ U ↔ x ∈ ord.take (i + 1)) ∧ (ps.map (·.2)).Perm E ∧ U.length = i + 1) ⟨c2 + 1, none, none, [], rfl, by omega, ⟨hS4, fr4', eO4, eR4, fun p hp => nomatch hp⟩, Nat.le_refl _, ?_⟩ ?_ ?_⟩
      · have h0 : 0 < ord.length := by omega
        refine ⟨[ord[0]], [], .room _ .nil (by simp), fun x => ?_, .nil, rfl⟩
        rw [List.take_add_one, List.getElem?_eq_getElem h0]
        simp
      · rintro i σ H5 hi ⟨cc, y8, y9, ps, rfl, hcc, M5, hps, U, E, g, hU, pE, lU⟩
        have hi1 : i + 1 < ord.length := by omega
        refine ⟨_, rfl, _, rfl, _, _, rfl, rfl, _, rfl, _, rfl, s, A, B, cc, _, rfl, M5.st, by omega, by omega, by omega, fun H6 r1 hS6 fr6 r10 r11 => ?_⟩
        have M6 := M5.fr hS6 fr6 zO zR
        refine ⟨by show 3 ≤ sizeLine; decide, fun N hN => ?_⟩
        have M7 := M6.new (o := .lst [.int (1 + (i : Int) - 1), .int 0, .int r1]) hN
        refine ⟨_, rfl, s, A, B, cc + 1, 3, rfl, M7.st, by omega, by decide, by decide, fun H8 r2 hS8 fr8 r20 r21 => ?_⟩
        have M8 := M7.fr hS8 fr8 zO zR
        have zN := M6.st.ne hN
        have eN8 := fr8 N _ zN.1.symm zN.2.1.symm upd_same
        obtain ⟨ix, eix, hix0, hix1⟩ := pick3 (i := i) r20 r21 r10 r11
        have hixl : ix.toNat < ord.length := by omega
        have eon : atI (vi ord) ix = some (V.int ord[ix.toNat]) := by
          have := atI_nat (xs := vi ord) (j := ix.toNat) (v := V.int ord[ix.toNat]) (by rw [List.getElem?_map, List.getElem?_eq_getElem hixl]; rfl)
          rw [show ((ix.toNat : Nat) : Int) = ix by omega] at this
          exact this
        have ekk : atI (vi ord) (1 + (i : Int)) = some (V.int ord[i + 1]) := by
          have := atI_nat (xs := vi ord) (j := i + 1) (v := V.int ord[i + 1]) (by rw [List.getElem?_map, List.getElem?_eq_getElem hi1]; rfl)
          rw [show ((i + 1 : Nat) : Int) = 1 + (i : Int) by omega] at this
          exact this
        refine ⟨N, _, _, _, rfl, rfl, SqL.of eN8, eix, O, _, _, _, rfl, rfl, SqL.of M8.eO, eon, ?_⟩
        clear eN8 fr8 zN hN M7 M6 fr6 eix
        have nd : ord.Nodup := pm.nodup_iff.mpr (rg_nodup n)
        have nv : ord[i + 1] ∉ U := fun m => by
          obtain ⟨j, hj, e⟩ := List.mem_take_iff_getElem.mp ((hU _).mp m)
          exact (List.pairwise_iff_getElem.mp nd) j (i + 1) (by omega) hi1 (by omega) e
        have mu : ord[ix.toNat] ∈ U := (hU _).mpr (List.mem_take_iff_getElem.mpr ⟨ix.toNat, by omega, rfl⟩)
        have hU' : ∀ x, x ∈ (ord[i + 1] :: U) ↔ x ∈ ord.take (i + 1 + 1) := fun x => by
          rw [List.take_add_one (i := i + 1), List.getElem?_eq_getElem hi1, List.mem_append, List.mem_cons, hU]
          simp [or_comm]
        dsimp only [gName]
        refine if_by (fun _ H' => ∃ c9, c9 ≤ cc + 3 ∧ Mid H s A B O R ord c9 ps H') ?_ ?_ ?_
        · rintro H9 ⟨c9, hc9, M9⟩
          refine ⟨_, rfl, .inl ⟨rfl, _, SqL.of M9.eR⟩, _, rfl, _, rfl, _, rfl, O, _, _, _, rfl, rfl, SqL.of M9.eO, ekk, _, _, rfl, _, rfl, _, rfl, _, rfl, O, _, _, _, rfl, rfl, SqL.of M9.eO, ekk, _, _, rfl, by show 2 ≤ sizeLine; decide, fun t ht => ?_⟩
          generalize hu : ord[ix.toNat] = u at *
          generalize hv : ord[i + 1] = v at *
          have M10 := M9.new (o := .tup [.int (if v < u then v else u), .int (if v > u then v else u)]) ht
          refine ⟨R, _, _, rfl, rfl, M10.eR, ?_, ?_⟩
          · rw [List.length_map]
            exact small1000 (by omega)
          refine ⟨c9, _, _, ps ++ [(t, if v < u then v else u, if v > u then v else u)], rfl, by omega, ⟨M10.st.put zR, M10.frm.put gR, ?_, ?_, ?_⟩, ?_, v :: U, _, .door v u (if v < u then v else u) (if v > u then v else u) g nv mu ?_, hU', ?_, ?_⟩
          · rw [upd_ne nOR.symm]
            exact M10.eO
          · rw [upd_same, List.map_append]
            rfl
          · intro p hp
            rcases List.mem_append.mp hp with hp | hp
            · have h1 := M10.eP p hp
              rw [upd_ne (ne_of h1 M10.eR (by intro q; cases q))]
              exact h1
            · rw [List.mem_singleton.mp hp]
              have h1 : (upd H9 t (.tup [.int (if v < u then v else u), .int (if v > u then v else u)])) t = some (.tup [.int (if v < u then v else u), .int (if v > u then v else u)]) := upd_same
              rw [upd_ne (ne_of h1 M10.eR (by intro q; cases q))]
              exact h1
          · rw [List.length_append, List.length_singleton]
            omega
          · constructor
            · split <;> omega
            · split <;> omega
          · rw [List.map_append]
            exact (List.perm_append_comm).trans (pE.cons _)
          · rw [List.length_cons, lU]
        · rintro H9 ⟨c9, hc9, M9⟩
          exact ⟨c9, _, _, ps, rfl, by omega, M9, by omega, _, _, .room _ g nv, hU', pE, by rw [List.length_cons, lU]⟩
        · intro QQ hQ
          refine ⟨_, rfl, rfl, _, rfl, ?_⟩
          refine ite2 (fun _ => ?_) (fun hz => ?_)
          · exact hQ _ _ ⟨cc + 2, by omega, M8⟩
          · have hlk6 : lk = 6 := by
              rcases hlk with e | e
              · subst e
                exact absurd (decide_eq_true rfl) hz
              · exact e
            subst hlk6
            refine ⟨_, rfl, _, rfl, s, A, B, cc + 2, 6, rfl, M8.st, by omega, by decide, by decide, fun H9 r3 hS9 fr9 _ _ => ?_⟩
            exact ⟨_, _, rfl, rfl, _, rfl, hQ _ _ ⟨cc + 3, by omega, M8.fr hS9 fr9 zO zR⟩⟩
      · rintro σ H5 ⟨cc, y8, y9, ps, rfl, hcc, M5, hps, U, E, g, hU, pE, lU⟩
        have kz : ∀ z ∈ ps, twoOf H5 (.ref z.1) = z.2 := fun z hz => twoOf_eq (M5.eP z hz)
        refine ⟨_, rfl, _, rfl, R, _, twoOf H5, rfl, SqL.of M5.eR, ?_, fun ys p hsrt hstb hp => ?_⟩
        · intro x hx
          obtain ⟨z, hz, rfl⟩ := List.mem_map.mp hx
          refine ⟨z.1, rfl, ?_⟩
          rw [kz z hz]
          exact M5.eP z hz
        obtain ⟨ps', pp, rfl⟩ := perm_map_inv hstb.perm rfl
        have upD : (ps'.map (·.2)).Pairwise Dlt := by
          have nd : (ps'.map (·.2)).Nodup := ((pp.map _).trans pE).nodup_iff.mpr g.nodup
          rw [List.nodup_iff_pairwise_ne, List.pairwise_map] at nd
          rw [List.pairwise_map]
          have hs : ps'.Pairwise fun x y => ltP (twoOf H5) (.ref y.1) (.ref x.1) = false := List.pairwise_map.mp hsrt
          refine (hs.and nd).imp_of_mem fun {x y} hx hy h => ?_
          have h1 : SrtO.lexB y.2 x.2 = false := by
            have := h.1
            unfold ltP at this
            rw [kz x (pp.mem_iff.mp hx), kz y (pp.mem_iff.mp hy)] at this
            exact this
          exact Dlt_of (SrtO.lexB_no.mp h1) h.2
        have M6 := M5.new (o := .lst (ps'.map fun p => V.ref p.1)) hp
        refine ⟨p, _, rfl, .inl ⟨SqL.of upd_same, fun d hd => ?_⟩⟩
        have M7 := M6.new (o := .tup (ps'.map fun p => V.ref p.1)) hd
        refine ⟨by show 2 ≤ sizeLine; decide, fun h hh => ?_⟩
        have M8 := M7.new (o := .tup [.int n, .ref d]) hh
        have tk : ord.take ((n - 1).toNat + 1) = ord := List.take_of_length_le (by omega)
        refine q _ h n (ps'.map (·.2)) (M8.st.mono (by omega)) M8.frm ⟨d, ps', upd_same, ?_, rfl, fun z hz => M8.eP z (pp.mem_iff.mp hz)⟩ ⟨U, E, g, fun x => ?_, (pp.map _).trans pE, by omega, upD⟩ n2 n3
        · rw [upd_ne (fun e => ?_), upd_same]
          rw [← e, upd_same] at hh
          cases hh
        · rw [hU, tk, pm.mem_iff, mem_rg]
end
end Fw
namespace Fw
open PySem PySem.Spec PyProof.Rows L2

/-! ### x in a tuple, by data -/
def rInT (K : PySem.W.Frag) : R2 := fun x y H Q => ∃ d ds, Dp K H x d ∧ Dp K H y (.tuple ds) ∧ SeqAt.shaped d = true ∧ SeqAt.shaped (.tuple ds) = true ∧ Q (.bl (ds.any fun z => PyData.eqv z d)) H
theorem op_inT {X : Cx} (hu : X.A.units + 65 < cLine) : OpR X (compareOp .In) (rInT X.K) := by
  intro pins s σ H x y v u Q I rx ry h
  obtain ⟨d, ds, hd, he, sd, se, q⟩ := h
  obtain ⟨as, r1⟩ := Dp.reads I d x v hd rx
  obtain ⟨bs, r2⟩ := Dp.reads I (.tuple ds) y u he ry
  exact SeqAt.in_tuple_reads r2 r1 (SeqAt.canLay_of_shaped se) (SeqAt.canLay_of_shaped sd) (room_in_shaped sd hu) ⟨.bl _, H, I, rfl, q⟩
theorem units65 {k : Nat} {A : Around} (r : Room k A) : A.units + 65 < cLine := by have := r.un; omega

/-- a door as data -/
def pd (d : Int × Int) : PyData := .tuple [.int d.1, .int d.2]
theorem pd_lay : ∀ D : List (Int × Int), PyData.canLayAll0 (D.map pd) = true
  | [] => by simp [PyData.canLayAll0]
  | d :: D => by
    rw [List.map_cons, PyData.canLayAll0, pd_lay D]
    simp [pd, PyData.canLay0, PyData.canLayAll0]
theorem pd_deep : ∀ D : List (Int × Int), PyData.depthAll (D.map pd) ≤ 1
  | [] => by simp [PyData.depthAll]
  | d :: D => by
    rw [List.map_cons, PyData.depthAll]
    have := pd_deep D
    simp [pd, PyData.depth, PyData.depthAll]
    omega
theorem pd_shaped (d : Int × Int) : SeqAt.shaped (pd d) = true := shaped_tup [d.1, d.2]
theorem pds_shaped (D : List (Int × Int)) : SeqAt.shaped (.tuple (D.map pd)) = true := by
  unfold SeqAt.shaped
  rw [PyData.canLay0, pd_lay, PyData.depth]
  have := pd_deep D
  simp
  omega
theorem pd_eqv (a b : Int × Int) : PyData.eqv (pd a) (pd b) = decide (a = b) := by
  obtain ⟨a1, a2⟩ := a
  obtain ⟨b1, b2⟩ := b
  simp only [pd, PyData.eqv, PyData.eqvAll, Bool.and_true]
  rw [Bool.eq_iff_iff]
  simp
theorem any_pd (D : List (Int × Int)) (d : Int × Int) : ((D.map pd).any fun z => PyData.eqv z (pd d)) = decide (d ∈ D) := by
  rw [Bool.eq_iff_iff, List.any_eq_true, decide_eq_true_eq]
  constructor
  · rintro ⟨z, hz, e⟩
    obtain ⟨y, hy, rfl⟩ := List.mem_map.mp hz
    rw [pd_eqv, decide_eq_true_eq] at e
    exact e ▸ hy
  · intro h
    exact ⟨pd d, List.mem_map_of_mem h, by rw [pd_eqv]; simp⟩
theorem dp_pair {K : PySem.W.Frag} {H : Hp} {t : Addr} {d : Int × Int} (h : H t = some (.tup [.int d.1, .int d.2])) : Dp K H (.ref t) (pd d) :=
  .tup (SqT.of h) (.cons (.int _) (.cons (.int _) .nil))
theorem dp_pairs {K : PySem.W.Frag} {H : Hp} : ∀ {ps : List (Addr × Int × Int)}, (∀ p ∈ ps, H p.1 = some (.tup [.int p.2.1, .int p.2.2])) → DpAll K H (ps.map fun p => V.ref p.1) ((ps.map (·.2)).map pd)
  | [], _ => .nil
  | p :: ps, h => .cons (dp_pair (h p (List.mem_cons_self ..))) (dp_pairs fun q hq => h q (List.mem_cons_of_mem _ hq))
theorem tt_by {t : TT} {Q : Bool → Hp → Prop} {σ : L2.St} {H : Hp} (Good : Bool → Hp → Prop) (h : ∀ Q' : Bool → Hp → Prop, (∀ b H', Good b H' → Q' b H') → t σ H Q') (hq : ∀ b H', Good b H' → Q b H') : t σ H Q := h _ hq

def pr (D : List (Int × Int)) (r : Int) : Int → Bool := fun o => decide ((r, o) ∈ D) || decide ((o, r) ∈ D)
def nbk (D : List (Int × Int)) (r : Int) (i : Nat) : List Int := ((List.range i).map fun (j : Nat) => 0 + (j : Int)).filter (pr D r)
theorem nbk_succ (D : List (Int × Int)) (r : Int) (i : Nat) : nbk D r (i + 1) = nbk D r i ++ if pr D r (0 + (i : Int)) = true then [0 + (i : Int)] else [] := by
  unfold nbk
  rw [List.range_succ, List.map_append, List.filter_append]
  congr 1
  by_cases c : pr D r (0 + (i : Int)) = true
  · rw [if_pos c]
    show List.filter (pr D r) [0 + (i : Int)] = _
    rw [List.filter_cons_of_pos c]
    rfl
  · rw [if_neg c]
    show List.filter (pr D r) [0 + (i : Int)] = _
    rw [List.filter_cons_of_neg c]
    rfl
theorem nbk_len (D : List (Int × Int)) (r : Int) (i : Nat) : (nbk D r i).length ≤ i := by
  refine Nat.le_trans (List.length_filter_le _ _) ?_
  simp
theorem nbk_nb (n : Int) (D : List (Int × Int)) (r : Int) : nbk D r n.toNat = nb n D r := by
  unfold nbk nb
  congr 1
  refine List.map_congr_left fun i _ => ?_
  omega

theorem get_ref {ps : List (Addr × Int × Int)} {i : Nat} {x : V} (h : (ps.map fun p => V.ref p.1)[i]? = some x) : ∃ p, ps[i]? = some p ∧ x = .ref p.1 := by
  rw [List.getElem?_map] at h
  cases e : ps[i]? with
  | none => rw [e] at h; cases h
  | some v => rw [e] at h; exact ⟨v, rfl, (Option.some.inj h).symm⟩
theorem outs_succ {D : List (Int × Int)} {r : Int} {i : Nat} {d : Int × Int} (h : D[i]? = some d) : outs (D.take (i + 1)) r = outs (D.take i) r ++ if d.1 = r then [d.2] else [] := by
  unfold outs
  rw [List.take_add_one, h, List.filter_append, List.map_append]
  congr 1
  by_cases c : d.1 = r
  · rw [if_pos c]
    show List.map _ (List.filter _ [d]) = _
    rw [List.filter_cons_of_pos (by simpa using c)]
    rfl
  · rw [if_neg c]
    show List.map _ (List.filter _ [d]) = _
    rw [List.filter_cons_of_neg (by simpa using c)]
    rfl
theorem ins_succ {D : List (Int × Int)} {r : Int} {i : Nat} {d : Int × Int} (h : D[i]? = some d) : ins (D.take (i + 1)) r = ins (D.take i) r ++ if d.2 = r then [d.1] else [] := by
  unfold ins
  rw [List.take_add_one, h, List.filter_append, List.map_append]
  congr 1
  by_cases c : d.2 = r
  · rw [if_pos c]
    show List.map _ (List.filter _ [d]) = _
    rw [List.filter_cons_of_pos (by simpa using c)]
    rfl
  · rw [if_neg c]
    show List.map _ (List.filter _ [d]) = _
    rw [List.filter_cons_of_neg (by simpa using c)]
    rfl
theorem outs_len (D : List (Int × Int)) (r : Int) : (outs D r).length ≤ D.length := by
  unfold outs
  rw [List.length_map]
  exact List.length_filter_le _ _
theorem ins_len (D : List (Int × Int)) (r : Int) : (ins D r).length ≤ D.length := by
  unfold ins
  rw [List.length_map]
  exact List.length_filter_le _ _
section
variable {P : Program} {w : World} {K : PySem.W.Frag} {mg : Str → Option Value} {base : Heap}
def spNb : Sp := fun vs H Q _ => ∃ (h : Addr) (n : Int) (D : List (Int × Int)) (r : Int), vs = [.ref h, .int r] ∧ HouseAt H h n D ∧ Forest n D ∧
  ∀ H' t, Same H H' → H' t = some (.tup (vi (nb n D r))) → Q (.ref t) H'

abbrev nNb : List Str := ["house", "room", "doors", "a", "b"]
abbrev gAB : PySem.W.Frag → TG := fun K => gTup K 2 (gCons (gName 3) (gCons (gName 4) gNil))
theorem scNb : FnScope nNb ["house", "room"] (defScope sNb) := ⟨rfl, rfl, rfl, by decide +kernel, rfl, by decide +kernel, by decide +kernel⟩
theorem ok_nb {f : Addr} {fd : FuncData} {k : Nat} (F : Fun K "neighbors" "neighbors" sNb f fd) (T : Nm mg) : FnOk P w K mg base CX0 (k + 1) f fd ["house", "room"] spNb := by
  refine F.ok scNb (fun vs H Q E h => ?_) (fun cdv A outer s H vs Q E hr h => ?_)
  · obtain ⟨h, n, D, r, rfl, _⟩ := h
    rfl
  · obtain ⟨h, n, D, r, rfl, ⟨q0, ps, h1, h2, h3, h4⟩, hF, q⟩ := h
    refine ⟨_, pss_cons (ps_set (i := 2) scNb.nd rfl (.inl rfl) (pe_ix ix_tup (pv 0) pe_int (fun _ _ => rfl)))
      (pss_one (ps_ret (pe_callTy call_tuple_of (by rfl) T.tuple (by decide +kernel) (pa_cons (pe_op op_cat
        (pe_lc (own := [("a", 3), ("b", 4)]) (g := gAB K) (by rfl) scNb.nd (pi_tup (pv 2))
          (blkOk_by (own := [("a", 3), ("b", 4)]) (N := nNb) (sc := defScope sNb) (by decide +kernel))
          (fun _ _ _ _ _ => pg_tup (by rfl) (pgs_cons (pg_name (i := 3) scNb.nd rfl (Or.inl rfl)) (pgs_cons (pg_name (i := 4) scNb.nd rfl (Or.inl rfl)) pgs_nil)))
          (fun _ _ _ _ _ => pts_one (pt_cmpR op_eq (pv 4) (pv 1) (nomark _)))
          (fun _ _ _ _ _ => pv 3))
        (pe_lc (own := [("a", 3), ("b", 4)]) (g := gAB K) (by rfl) scNb.nd (pi_tup (pv 2))
          (blkOk_by (own := [("a", 3), ("b", 4)]) (N := nNb) (sc := defScope sNb) (by decide +kernel))
          (fun _ _ _ _ _ => pg_tup (by rfl) (pgs_cons (pg_name (i := 3) scNb.nd rfl (Or.inl rfl)) (pgs_cons (pg_name (i := 4) scNb.nd rfl (Or.inl rfl)) pgs_nil)))
          (fun _ _ _ _ _ => pts_one (pt_cmpR op_eq (pv 3) (pv 1) (nomark _)))
          (fun _ _ _ _ _ => pv 4))) pa_nil)))), ?_⟩
    have el := hF.len
    have eD : D.take (ps.map fun p => V.ref p.1).length = D := by
      rw [h3, List.length_map, ← List.length_map (f := fun x : Addr × Int × Int => x.2), List.take_length]
    refine ⟨_, rfl, h, _, _, _, rfl, rfl, SqT.of h1, atI1, ?_⟩
    refine ⟨_, rfl, q0, rfl, ⟨_, SqT.of h2⟩, fun L hL => lc_tup (K := K) (a := q0) (xs := ps.map fun p => V.ref p.1) (fun i H1 => Same H H1 ∧ H1 L = some (.lst (vi (ins (D.take i) r))))
      ⟨same_upd hL, upd_same⟩ (fun i H1 _ hh => SqT.of (hh.1 _ _ h2)) ?_ ?_⟩
    · rintro i x H1 hx ⟨s1, e1⟩
      obtain ⟨p, hp, rfl⟩ := get_ref hx
      have ed : D[i]? = some p.2 := by rw [h3, List.getElem?_map, hp]; rfl
      refine ⟨p.1, _, rfl, SqT.of (s1 _ _ (h4 p (List.mem_of_getElem? hp))), rfl, _, _, rfl, _, _, rfl, rfl, rfl, _, rfl, _, rfl, rfl, _, rfl, ?_⟩
      refine ite2 (fun c => ?_) (fun c => ?_)
      · have c : p.2.2 = r := V.int.inj (of_decide_eq_true c)
        refine ⟨_, rfl, _, e1, ?_, same_put s1 hL, ?_⟩
        · rw [List.length_map]
          exact small1000 (Nat.le_trans (ins_len _ _) (by rw [List.length_take]; omega))
        · rw [upd_same, ins_succ ed, if_pos c, vi_app]
          rfl
      · have c : ¬ p.2.2 = r := fun e => c (decide_eq_true (by rw [e]))
        refine ⟨s1, ?_⟩
        rw [ins_succ ed, if_neg c, List.append_nil]
        exact e1
    · rintro H1 ⟨s1, e1⟩
      rw [eD] at e1
      refine ⟨_, rfl, q0, rfl, ⟨_, SqT.of (s1 _ _ h2)⟩, fun M hM => lc_tup (K := K) (a := q0) (xs := ps.map fun p => V.ref p.1) (fun i H2 => Same H1 H2 ∧ H2 M = some (.lst (vi (outs (D.take i) r))))
        ⟨same_upd hM, upd_same⟩ (fun i H2 _ hh => SqT.of (hh.1 _ _ (s1 _ _ h2))) ?_ ?_⟩
      · rintro i x H2 hx ⟨s2, e2⟩
        obtain ⟨p, hp, rfl⟩ := get_ref hx
        have ed : D[i]? = some p.2 := by rw [h3, List.getElem?_map, hp]; rfl
        refine ⟨p.1, _, rfl, SqT.of (s2 _ _ (s1 _ _ (h4 p (List.mem_of_getElem? hp)))), rfl, _, _, rfl, _, _, rfl, rfl, rfl, _, rfl, _, rfl, rfl, _, rfl, ?_⟩
        refine ite2 (fun c => ?_) (fun c => ?_)
        · have c : p.2.1 = r := V.int.inj (of_decide_eq_true c)
          refine ⟨_, rfl, _, e2, ?_, same_put s2 hM, ?_⟩
          · rw [List.length_map]
            exact small1000 (Nat.le_trans (outs_len _ _) (by rw [List.length_take]; omega))
          · rw [upd_same, outs_succ ed, if_pos c, vi_app]
            rfl
        · have c : ¬ p.2.1 = r := fun e => c (decide_eq_true (by rw [e]))
          refine ⟨s2, ?_⟩
          rw [outs_succ ed, if_neg c, List.append_nil]
          exact e2
      · rintro H2 ⟨s2, e2⟩
        rw [eD] at e2
        refine ⟨L, M, _, _, rfl, rfl, s2 _ _ e1, e2, ?_, fun N hN => ?_⟩
        · rw [List.length_map, List.length_map]
          have h1 := outs_len D r
          have h2 := ins_len D r
          exact Nat.le_of_lt (small1000 (by omega))
        rw [← vi_app, hF.nb_eq r]
        refine ⟨N, _, rfl, .inl ⟨SqL.of upd_same, fun t ht => q _ t ?_ upd_same⟩⟩
        exact ((s1.trans s2).trans (same_upd hN)).trans (same_upd ht)
def spLNb : Sp := fun vs H Q _ => ∃ (h : Addr) (n : Int) (D : List (Int × Int)) (r : Int), vs = [.ref h, .int r] ∧ HouseAt H h n D ∧ Forest n D ∧
  ∀ H' l, Same H H' → H l = none → H' l = some (.lst (vi (nb n D r))) → Q (.ref l) H'

abbrev nLNb : List Str := ["_law_house_here", "_law_room", "_law_found", "_law_one", "_law_other"]
abbrev gOO : PySem.W.Frag → TG := fun K => gTup K 2 (gCons (gName 3) (gCons (gName 4) gNil))
theorem scLNb : FnScope nLNb ["_law_house_here", "_law_room"] (defScope sLNb) := ⟨rfl, rfl, rfl, by decide +kernel, rfl, by decide +kernel, by decide +kernel⟩
theorem ok_lnb {f : Addr} {fd : FuncData} {k : Nat} (F : Fun K "_law_neighbors" "_law_neighbors" sLNb f fd) (T : Nm mg) : FnOk P w K mg base CX0 (k + 1) f fd ["_law_house_here", "_law_room"] spLNb := by
  refine F.ok scLNb (fun vs H Q E h => ?_) (fun cdv A outer s H vs Q E hr h => ?_)
  · obtain ⟨h, n, D, r, rfl, _⟩ := h
    rfl
  · obtain ⟨h, n, D, r, rfl, ⟨q0, ps, h1, h2, h3, h4⟩, hF, q⟩ := h
    refine ⟨_, pss_cons (ps_setLc (i := 2) (own := [("_law_one", 3), ("_law_other", 4)]) (g := gOO K) (by rfl) scLNb.nd rfl rfl (sw_true rfl rfl rfl (by decide +kernel)) (pi_tup (pe_ix ix_tup (pv 0) pe_int (fun _ _ => rfl)))
        (blkOk_by (own := [("_law_one", 3), ("_law_other", 4)]) (N := nLNb) (sc := defScope sLNb) (by decide +kernel))
        (fun _ _ _ _ _ => pg_tup (by rfl) (pgs_cons (pg_name (i := 3) scLNb.nd rfl (Or.inl rfl)) (pgs_cons (pg_name (i := 4) scLNb.nd rfl (Or.inl rfl)) pgs_nil)))
        (fun _ _ _ _ _ => pts_one (pt_cmpR op_eq (pv 3) (pv 1) (nomark _)))
        (fun _ _ _ _ _ => pv 4))
      (pss_one (ps_ret (pe_callB cr_sortedI (by rfl) T.sorted (by decide +kernel) (pa_cons (pe_op op_cat (pv 2)
        (pe_lc (own := [("_law_one", 3), ("_law_other", 4)]) (g := gOO K) (by rfl) scLNb.nd (pi_tup (pe_ix ix_tup (pv 0) pe_int (fun _ _ => rfl)))
          (blkOk_by (own := [("_law_one", 3), ("_law_other", 4)]) (N := nLNb) (sc := defScope sLNb) (by decide +kernel))
          (fun _ _ _ _ _ => pg_tup (by rfl) (pgs_cons (pg_name (i := 3) scLNb.nd rfl (Or.inl rfl)) (pgs_cons (pg_name (i := 4) scLNb.nd rfl (Or.inl rfl)) pgs_nil)))
          (fun _ _ _ _ _ => pts_one (pt_cmpR op_eq (pv 4) (pv 1) (nomark _)))
          (fun _ _ _ _ _ => pv 3))) pa_nil)))), ?_⟩
    refine ⟨_, rfl, h, _, _, _, rfl, rfl, SqT.of h1, atI1, q0, rfl, ⟨_, SqT.of h2⟩, fun L hL => lc_tup (K := K) (a := q0) (xs := ps.map fun p => V.ref p.1) (fun i H1 => Same H H1 ∧ H1 L = some (.lst (vi (outs (D.take i) r))))
      ⟨same_upd hL, upd_same⟩ (fun i H1 _ hh => SqT.of (hh.1 _ _ h2)) ?_ ?_⟩
    · rintro i x H1 hx ⟨s1, e1⟩
      obtain ⟨p, hp, rfl⟩ := get_ref hx
      have ed : D[i]? = some p.2 := by rw [h3, List.getElem?_map, hp]; rfl
      have em := List.mem_of_getElem? hp
      refine ⟨p.1, _, rfl, SqT.of (s1 _ _ (h4 p em)), rfl, _, _, rfl, _, _, rfl, rfl, rfl, _, rfl, _, rfl, rfl, _, rfl, ?_⟩
      refine ite2 (fun c => ?_) (fun c => ?_)
      · have c : p.2.1 = r := V.int.inj (of_decide_eq_true c)
        refine ⟨_, rfl, _, e1, ?_, same_put s1 hL, ?_⟩
        · rw [List.length_map]
          exact small1000 (Nat.le_trans (outs_len _ _) (by have := hF.len; rw [List.length_take]; omega))
        · rw [upd_same, outs_succ ed, if_pos c, vi_app]
          rfl
      · have c : ¬ p.2.1 = r := fun e => c (decide_eq_true (by rw [e]))
        refine ⟨s1, ?_⟩
        rw [outs_succ ed, if_neg c, List.append_nil]
        exact e1
    · rintro H1 ⟨s1, e1⟩
      have eD : D.take (ps.map fun p => V.ref p.1).length = D := by
        rw [h3, List.length_map, ← List.length_map (f := fun x : Addr × Int × Int => x.2), List.take_length]
      rw [eD] at e1
      refine ⟨_, rfl, _, rfl, h, _, _, _, rfl, rfl, SqT.of (s1 _ _ h1), atI1, q0, rfl, ⟨_, SqT.of (s1 _ _ h2)⟩, fun M hM => lc_tup (K := K) (a := q0) (xs := ps.map fun p => V.ref p.1) (fun i H2 => Same H1 H2 ∧ H2 M = some (.lst (vi (ins (D.take i) r))))
        ⟨same_upd hM, upd_same⟩ (fun i H2 _ hh => SqT.of (hh.1 _ _ (s1 _ _ h2))) ?_ ?_⟩
      · rintro i x H2 hx ⟨s2, e2⟩
        obtain ⟨p, hp, rfl⟩ := get_ref hx
        have ed : D[i]? = some p.2 := by rw [h3, List.getElem?_map, hp]; rfl
        have em := List.mem_of_getElem? hp
        refine ⟨p.1, _, rfl, SqT.of (s2 _ _ (s1 _ _ (h4 p em))), rfl, _, _, rfl, _, _, rfl, rfl, rfl, _, rfl, _, rfl, rfl, _, rfl, ?_⟩
        refine ite2 (fun c => ?_) (fun c => ?_)
        · have c : p.2.2 = r := V.int.inj (of_decide_eq_true c)
          refine ⟨_, rfl, _, e2, ?_, same_put s2 hM, ?_⟩
          · rw [List.length_map]
            exact small1000 (Nat.le_trans (ins_len _ _) (by have := hF.len; rw [List.length_take]; omega))
          · rw [upd_same, ins_succ ed, if_pos c, vi_app]
            rfl
        · have c : ¬ p.2.2 = r := fun e => c (decide_eq_true (by rw [e]))
          refine ⟨s2, ?_⟩
          rw [ins_succ ed, if_neg c, List.append_nil]
          exact e2
      · rintro H2 ⟨s2, e2⟩
        rw [eD] at e2
        have el := hF.len
        refine ⟨L, M, _, _, rfl, rfl, s2 _ _ e1, e2, ?_, fun N hN => ?_⟩
        · rw [List.length_map, List.length_map]
          have h1 := outs_len D r
          have h2 := ins_len D r
          exact Nat.le_of_lt (small1000 (by omega))
        · rw [← vi_app]
          refine ⟨N, _, rfl, SqL.of upd_same, fun ys Z hp hup hZ => ?_⟩
          refine q _ Z ((s1.trans s2).trans ((same_upd hN).trans (same_upd hZ))) (s1.free (s2.free ((same_upd hN).free hZ))) ?_
          rw [upd_same, hF.sorted_nb hp hup]
end
end Fw
namespace Fw
open PySem PySem.Spec PyProof.Rows L2

/-! ### repr, where no repr is under way -/
def rRepr (K : PySem.W.Frag) : List V → Hp → VK → Prop := fun vs H Q => ∃ (a : Addr) (d : PyData), vs = [.ref a] ∧ Dp K H (.ref a) d ∧ d.showable = true ∧ d.hasDict = false ∧ d.depth ≤ 60 ∧ d.shown.length ≤ sizeLine ∧ Q (.str d.shown) H
theorem call_repr {X : Cx} (hg : X.A.guards = some []) (hu : X.A.units + 65 < cLine) : CallR X (.builtin "repr") (rRepr X.K) := by
  intro pins s σ H vs us Q I r h
  obtain ⟨a, d, rfl, hd, hs, hn, hp, hz, q⟩ := h
  obtain ⟨u, rfl, ru⟩ := vals1 r
  obtain rfl : u = Value.ref a := ru
  obtain ⟨as, rd⟩ := Dp.reads I d _ _ hd rfl
  refine repr_of_reads' rd hs (fun z => ?_) hg (by omega) (fun _ _ e => e) (fun h' t tk hk => ?_) hz
  · rw [hn] at z
    cases z
  · exact ⟨.str _, H, I.kept hk, ⟨_, rfl⟩, q⟩

/-! ### a def that is run where no repr is under way -/
structure FnG (P : Program) (w : World) (K : PySem.W.Frag) (mg : Str → Option Value) (base : Heap) (k : Nat) (f : Addr) (fd : FuncData) (ps : List Str) (sp : Sp) : Prop where
  len : ∀ vs H Q E, sp vs H Q E → vs.length = ps.length
  go : ∀ (A : Around) (out : List Env) (st : Shared) (H : Hp) (as : Args) (us : List Value) (vs : List V) (Q : VK), A.guards = some [] → Room k A → Env0 P w K mg base A out st H → BindsTo st fd as (ps.zip us) → Vals vs us → sp vs H Q E0 →
    codeAny (model P w) A (.call (.ref f) as) (CR CX0 out P w H st Q E0) st

section
variable {P : Program} {w : World} {K : PySem.W.Frag} {mg : Str → Option Value} {base : Heap}
theorem Fun.okG {x : Str} {st : Stmt} {f : Addr} {fd : FuncData} {N ps : List Str} {k : Nat} {sp : Sp} (F : Fun K x x st f fd) (S : FnScope N ps (defScope st)) (len : ∀ vs H Q E, sp vs H Q E → vs.length = ps.length)
    (bd : ∀ (c : Value) (A : Around) (out : List Env) (z : Shared) (H : Hp) (vs : List V) (Q : VK), (A.deeper (envOfC x (defScope st) z.heap.objs.size f c)).guards = some [] → Room k (A.deeper (envOfC x (defScope st) z.heap.objs.size f c)) → sp vs H Q E0 →
      ∃ t, PSs (cxOf CX0 P w K mg base N x (defScope st) f c A out z H E0).nox (defBody st) t ∧ t { nx := fun _ H' => Q .non H', rt := Q } (L2.start N vs) H) : FnG P w K mg base (k + 1) f fd ps sp := by
  obtain ⟨oc, od, kV, doc, pm, an, c, ct, osl, rfl, lk, hc⟩ := F.ex
  refine ⟨len, fun A out z H as us vs Q gd room en bi rel hs => ?_⟩
  have kin : K.In z.heap := fun b o e => (en.bs b o (en.mod.kin b o e)).1
  refine codeAny_call_function room.depth (kin _ _ lk) rfl S.co S.gen rfl (PySem.W.codeRec_of kin hc) (bi _ _ _ _ ?_)
  have kinds : ∀ y ∈ ps.zip us, (defScope st).names.lookup y.1 = some .local ∨ ((defScope st).names.lookup y.1 = some .cell ∧ ((cellsFrom (z.heap.objs.size + 1) (defScope st).names []).lookup y.1).isSome = true) := by
    rintro ⟨n, v⟩ hy
    exact (S.par n (List.of_mem_zip hy).1).imp id fun q => ⟨q, PySem.W.cellsFrom_some _ _ _ (.inl q)⟩
  refine wpAny_newFunctionEnv_cells S.kind kinds fun env ee z1 ic => ?_
  subst ee
  refine ⟨(en.mod.nolimit.keeps fun b o e => (en.bs b o e).1).keeps ic.toInCall.keep, codeAny_func ?_⟩
  obtain ⟨t, d, rd⟩ := bd c A out z H vs Q gd (room.deeper _) hs
  have inv := inv_start (CX := CX0) (E := E0) S room.hd en (len _ _ _ _ hs) rel ic
  refine wpAny_mono (d.nox.run [] z1 _ H _ inv rd) (fun fl z2 e => ?_) fun _ _ e => e
  match fl, e with
  | .ret u, ⟨v, σ', H', J, rv, q⟩ => exact ⟨v, H', J.os, J.bare, J.base, J.hok, rv, q⟩
  | .next, ⟨σ', H', J, q⟩ => exact ⟨.non, H', J.os, J.bare, J.base, J.hok, rfl, q⟩
  | .brk, ⟨_, _, _, q⟩ => exact q.elim
  | .cont, ⟨_, _, _, q⟩ => exact q.elim

/-- a call of such a def -/
theorem pe_callG {X : Cx} {k : Nat} {f : Addr} {fd : FuncData} {ps : List Str} {sp : Sp} {x : Str} {p pos : Pos} {e : Expr} {es : List Expr} {t : TA} (F : FnG X.prog X.w X.K X.mg X.base k f fd ps sp) (gd : X.A.guards = some []) (hr : Room k X.A)
    (hg : Gl X x) (hm : X.mg x = some (.ref f)) (hk : PySem.W.keepIn X.K (.ref f) = true) (hb : Binds X.K fd ps []) (ha : PA X (e :: es) t) (hdb : (x == ("__debug__" : Str)) = false := by decide)
    (h1 : starEach (e :: es) X.env = (false, eval e X.env) :: starEach es X.env := by rfl) (h2 : (backTo pos (starEach es X.env)).any (·.1) = false := by rfl) : PE X (.Call (.Name x p) (e :: es) [] pos) (tCall sp [] E0 t) := by
  constructor
  intro pins z σ H Q I h
  refine wpAny_Call_Name_kw (ld_glob I hg hm (PySem.W.callWith_K (h₀ := X.base) I.ok.mod.kin hk (thn (ha.run pos pins z σ H _ I h) ?_) h1 h2) hdb)
  rintro us z1 ⟨vs, H1, I1, r, q⟩
  refine ⟨I1.kIn, wpAny_call (codeAny_mono (F.go X.A X.stack z1 H1 ⟨us, []⟩ (us ++ []) (vs ++ []) Q gd hr I1.env0 (hb z1 us I1.kIn ?_) (r.append .nil) q) fun a z2 hq => ?_)⟩
  · rw [← (r.append .nil).length]
    exact F.len _ _ _ _ q
  · match a, hq with
    | .error _, hq => exact hq.elim
    | .ok (.ret u), hq => exact I1.after hq
    | .ok .next, hq => exact hq.elim
    | .ok .brk, hq => exact hq.elim
    | .ok .cont, hq => exact hq.elim
end
end Fw
namespace Fw
open PySem PySem.Spec PyProof.Rows L2

/-- the state at the law's own call: only the script is tracked -/
theorem top_state {P : Program} {w : World} {K : PySem.W.Frag} {mg mb : Str → Option Value} {a : Addr} {z : Shared} {vs : List Value} {ns : List Int} (kin : K.In z.heap) (gl : z.heap.Ns mainGlobals mg) (bl : z.heap.Ns builtinsNs mb)
    (bb : ∀ x : Str, x ≠ "__name__" → mb x = bootBuiltins x) (lim : z.heap.NoLimit) (ge : z.gens = #[]) (obj : z.heap.get? a = some { cls := .type "list", data := .seq vs.toArray }) (hi : IntsAre vs ns) (hl : ns.length ≤ sizeLine) :
    ∃ (H : Hp) (base : Heap), SqL K H a (vi ns) ∧ K.In base ∧ base.Ns mainGlobals mg ∧ Env0 P w K mg base callerA [] z H ∧ ∀ (H' : Hp) (z' : Shared), Un (frs []) [] H H' z.heap z'.heap → HOk P w H' z'.heap → OldK z.heap z'.heap := by
  have rel : Vals (vi ns) vs := vals_ints hi
  -- what is tracked: nothing, or the script alone
  have pick : ∃ H : Hp, SqL K H a (vi ns) ∧ HOk P w H z.heap ∧ (∀ b, H b = none ∨ (b = a ∧ K.lookup a = none ∧ ∃ xs, H b = some (.frz { cls := .type "list", data := .seq vs.toArray } (.lst xs)))) := by
    cases e : K.lookup a with
    | some o =>
      have e2 : o = { cls := .type "list", data := .seq vs.toArray } := by
        have := kin a o e
        rw [obj] at this
        exact (Option.some.inj this).symm
      subst e2
      refine ⟨fun _ => none, .inr ⟨_, vs.toArray, _, e, rfl, rfl, rfl, ?_, rel⟩, fun b u q => ?_, fun b => .inl rfl⟩
      · rw [List.size_toArray, hi.length]
        exact hl
      · cases (show (none : Option HO) = some u from q)
    | none =>
      refine ⟨upd (fun _ => none) a (.frz { cls := .type "list", data := .seq vs.toArray } (.lst (vi ns))), .inl (.inr ⟨_, upd_same⟩), fun b u q => ?_, fun b => ?_⟩
      · by_cases eb : b = a
        · rw [eb, upd_same] at q
          cases q
          rw [eb]
          exact ⟨obj, by rw [List.length_map]; exact hl, vs, _, rel, obj⟩
        · rw [upd_ne eb] at q
          cases q
      · by_cases eb : b = a
        · exact .inr ⟨eb, rfl, _, by rw [eb]; exact upd_same⟩
        · exact .inl (upd_ne eb)
  obtain ⟨H, hS, hok, only⟩ := pick
  have low : ∀ {b : Addr} {o : Obj}, z.heap.get? b = some o → (b = a → K.lookup a ≠ none) → (hidT z.heap H).get? b = some o := fun {b o} e q => hidT_get e (by
    rcases only b with n | ⟨eb, n, _⟩
    · exact n
    · exact absurd n (q eb))
  have dic : ∀ {b : Addr} {m : Str → Option Value}, z.heap.Ns b m → (hidT z.heap H).Ns b m := fun {b m} h => by
    obtain ⟨o, es, ep, e, d, r⟩ := h
    refine ⟨o, es, ep, hidT_get e ?_, d, r⟩
    rcases only b with n | ⟨eb, _, _⟩
    · exact n
    · rw [eb, obj] at e
      cases e
      cases (show Data.seq vs.toArray _ = Data.dict es ep from d)
  have kb : K.In (hidT z.heap H) := fun b o e => low (kin b o e) fun eb n => by
    rw [eb, n] at e
    cases e
  refine ⟨H, hidT z.heap H, hS, kb, dic gl, ?_, fun H' z' un ok' => OldK.of_keep fun b o e => ?_⟩
  · refine { frames := rfl, mod := ⟨kb, dic gl, ⟨mb, dic bl, bb⟩, ?_⟩, bs := fun b o e => of_hidT e, bsz := Nat.le_of_eq (hidT_size _ _), funs := trivial, frf := fun b hb => ?_, hok := hok, bare := .of_eq ge }
    · obtain ⟨mc, h1, h2⟩ := lim
      exact ⟨mc, dic h1, h2⟩
    · cases (show b ∈ ([] : List Addr) from hb)
  · rcases only b with n | ⟨eb, _, xs, fz⟩
    · refine un.keep b o e n (fun hb => ?_) (fun hb => ?_)
      · cases (show b ∈ ([] : List Addr) from hb)
      · cases hb
    · have f2 := (ok' b _ (un.frzs b _ _ fz)).1
      rw [eb, obj] at e
      cases e
      exact f2

/-- the law's def takes the script alone -/
abbrev Takes1 (fd : FuncData) : Prop := ∀ (z : Shared) (v : Value), BindsTo z fd ⟨[v], []⟩ [("_law_script", v)]
/-- the law's def, at fa, keeps sp over whatever holds the written part -/
def LawAt (P : Program) (w : World) (K : PySem.W.Frag) (mg : Str → Option Value) (k : Nat) (fa : Addr) (sp : Sp) : Prop :=
  ∃ fd, Takes1 fd ∧ ∀ b : Heap, K.In b → b.Ns mainGlobals mg → FnG P w K mg b k fa fd ["_law_script"] sp
/-- a promise that says True of every script -/
def Tells (sp : PySem.W.Frag → Sp) : Prop := ∀ K H a ns, ns.length ≤ 63 → SqL K H a (vi ns) → sp K [.ref a] H (fun v _ => v = .bl true) E0
/-- how a call that keeps such a promise ends -/
structure Told (P : Program) (w : World) (H : Hp) (z : Shared) (r : Result) (z' : Shared) : Prop where
  res : r = .ok (.ret (.bool true))
  os : z'.os = z.os
  bare : AllBare z'.gens
  st : ∃ H', Un (frs []) [] H H' z.heap z'.heap ∧ HOk P w H' z'.heap
theorem told {P : Program} {w : World} {H : Hp} {z z' : Shared} {r : Result} (e : CR CX0 [] P w H z (fun v _ => v = .bl true) E0 r z') : Told P w H z r z' := by
  rcases r with _ | f
  · exact False.elim e
  cases f
  all_goals first | exact False.elim e | skip
  rename_i u
  obtain ⟨v, H', o1, o2, un, ok, rv, qv⟩ := e
  have qv : v = .bl true := qv
  rw [qv] at rv
  exact ⟨by rw [show u = Value.bool true from rv], o1, o2, H', un, ok⟩
/-- the end of a law whose def wants that no repr is under way -/
theorem walkG {l : PySem.W.OpenLaw} {k : Nat} {q : Program} {ls : List Str} {XP : (Str → Option Value) → Heap → Prop} {Y : World → Heap → Prop} {d : DefRec} {K : Params → PySem.W.Frag} {sp : PySem.W.Frag → Sp} (t : Tells sp) (m : l.most = some 63) (nd : d.params.defaults = []) (room : Room k callerA)
    (inK : ∀ w h, Y w h → (K w.params).In h) (L : ∀ w mg fa h, (K w.params).In h → h.Ns mainGlobals mg → mg d.name = some (.ref fa) → LawAt l.prog w (K w.params) mg k fa (sp (K w.params))) :
    PySem.W.WalkO q ls XP Y l.row.toRowW d [] (fun f vs => PySem.call f vs) := by
  apply Att.attach_call m nd
  intro w _ z mg _ fa _ _ _ _ a vs ns G y _ _ _ here obj hi few gens
  obtain ⟨fd, one, keeps⟩ := L w mg fa _ (inK w _ y) G.T.g here
  obtain ⟨H, b, hS, kb, gb, en, old⟩ := top_state (P := l.prog) (w := w) (inK w _ y) G.T.g G.T.b G.T.builtins G.T.nolimit gens obj hi (Nat.le_trans few (by decide))
  have c := (keeps b kb gb).go callerA [] z H ⟨[.ref a], []⟩ [.ref a] [.ref a] (fun v _ => v = .bl true) rfl room en (one z (.ref a)) (.cons rfl .nil) (t _ H a ns few hS)
  exact codeAny_mono c fun r z' e => by
    have e := told e
    obtain ⟨H', un, ok⟩ := e.st
    exact ⟨e.res, old H' z' un ok, e.os, e.bare⟩
end Fw
namespace Fw
open PySem PySem.Spec PyProof.Rows L2
/-- a house as data -/
def hd (n : Int) (D : List (Int × Int)) : PyData := .tuple [.int n, .tuple (D.map pd)]
theorem log_small {i : Int} (h0 : 0 ≤ i) (h1 : i ≤ 100) : i.natAbs.log2 < 1920 := by
  by_cases h : i.natAbs = 0
  · rw [h]; decide
  · exact (Nat.log2_lt h).mpr (Nat.lt_of_le_of_lt (show i.natAbs ≤ 2 ^ 7 by omega) (Nat.pow_lt_pow_right (by decide) (by decide)))
theorem pds_show : ∀ {D : List (Int × Int)}, (∀ d ∈ D, 0 ≤ d.1 ∧ d.1 ≤ 100 ∧ 0 ≤ d.2 ∧ d.2 ≤ 100) → PyData.showableAll (D.map pd) = true ∧ PyData.leavesShortAll 13 (D.map pd) = true
  | [], _ => by simp [PyData.showableAll, PyData.leavesShortAll]
  | d :: D, h => by
    obtain ⟨i1, i2⟩ := pds_show (D := D) fun x hx => h x (List.mem_cons_of_mem _ hx)
    obtain ⟨a0, a1, b0, b1⟩ := h d (List.mem_cons_self ..)
    have s1 := PyData.shown_int_le2 (i := d.1) (by omega) (by omega)
    have s2 := PyData.shown_int_le2 (i := d.2) (by omega) (by omega)
    rw [List.map_cons, PyData.showableAll, PyData.leavesShortAll, i1, i2]
    simp only [pd, PyData.showable, PyData.showableAll, PyData.leavesShort, PyData.leavesShortAll, Bool.and_true]
    exact ⟨by rw [decide_eq_true (log_small a0 a1), decide_eq_true (log_small b0 b1)]; rfl, by rw [decide_eq_true s1, decide_eq_true s2]; rfl⟩
theorem pds_nodict : ∀ D : List (Int × Int), PyData.hasDictAll (D.map pd) = false
  | [] => by simp [PyData.hasDictAll]
  | d :: D => by
    rw [List.map_cons, PyData.hasDictAll, pds_nodict D]
    simp [pd, PyData.hasDict, PyData.hasDictAll]
theorem pds_bulk : ∀ D : List (Int × Int), PyData.bulkAll (D.map pd) = 3 * D.length
  | [] => by simp [PyData.bulkAll]
  | d :: D => by
    rw [List.map_cons, PyData.bulkAll, pds_bulk D]
    simp [pd, PyData.bulk, PyData.bulkAll]
    omega
structure Shows (d : PyData) : Prop where
  s : d.showable = true
  n : d.hasDict = false
  p : d.depth ≤ 60
  z : d.shown.length ≤ sizeLine
theorem hd_shows {n : Int} {D : List (Int × Int)} (n0 : 0 ≤ n) (n1 : n ≤ 100) (h : ∀ d ∈ D, 0 ≤ d.1 ∧ d.1 ≤ 100 ∧ 0 ≤ d.2 ∧ d.2 ≤ 100) (hl : D.length ≤ 100) : Shows (hd n D) := by
  obtain ⟨i1, i2⟩ := pds_show h
  have s1 := PyData.shown_int_le2 (i := n) (by omega) (by omega)
  have dp := pd_deep D
  refine ⟨?_, ?_, ?_, PyData.shown_fits_bulk (B := 13) (by decide) (by decide) ?_ ?_⟩
  · simp only [hd, PyData.showable, PyData.showableAll, Bool.and_true, i1]
    rw [decide_eq_true (log_small n0 n1)]
  · simp only [hd, PyData.hasDict, PyData.hasDictAll, Bool.or_false, Bool.false_or]
    exact pds_nodict D
  · simp only [hd, PyData.depth, PyData.depthAll]
    omega
  · simp only [hd, PyData.leavesShort, PyData.leavesShortAll, Bool.and_true, i2]
    rw [decide_eq_true s1]
  · simp only [hd, PyData.bulk, PyData.bulkAll, pds_bulk]
    omega
theorem Forest.shows {n : Int} {D : List (Int × Int)} (f : Forest n D) (n0 : 0 ≤ n) (n1 : n ≤ 8) : Shows (hd n D) := by
  refine hd_shows n0 (by omega) (fun d hd => ?_) (Nat.le_trans f.len (by decide))
  have := f.ends (a := d.1) (b := d.2) hd
  omega
theorem HouseAt.dp {K : PySem.W.Frag} {H : Hp} {h : Addr} {n : Int} {D : List (Int × Int)} (x : HouseAt H h n D) : Dp K H (.ref h) (hd n D) := by
  obtain ⟨q, ps, h1, h2, h3, h4⟩ := x
  rw [h3]
  exact .tup (SqT.of h1) (.cons (.int n) (.cons (.tup (SqT.of h2) (dp_pairs h4)) .nil))
end Fw
namespace Fw
open PySem PySem.Spec PyProof.Rows L2
/-- a def of the text, wherever it stands -/
def DefE (K : PySem.W.Frag) (mg : Str → Option Value) (x : Str) (st : Stmt) (ps : List Str) : Prop := ∃ f fd, Def K mg x st f fd ps
/-- a def that keeps a promise, by its name -/
def Cal (P : Program) (w : World) (K : PySem.W.Frag) (mg : Str → Option Value) (base : Heap) (k : Nat) (x : Str) (ps : List Str) (sp : Sp) : Prop :=
  ∃ f fd, mg x = some (.ref f) ∧ PySem.W.keepIn K (.ref f) = true ∧ Binds K fd ps [] ∧ FnOk P w K mg base CX0 k f fd ps sp
def CalG (P : Program) (w : World) (K : PySem.W.Frag) (mg : Str → Option Value) (base : Heap) (k : Nat) (x : Str) (ps : List Str) (sp : Sp) : Prop :=
  ∃ f fd, mg x = some (.ref f) ∧ PySem.W.keepIn K (.ref f) = true ∧ Binds K fd ps [] ∧ FnG P w K mg base k f fd ps sp
section
variable {P : Program} {w : World} {K : PySem.W.Frag} {mg : Str → Option Value} {base : Heap}
theorem Def.cal {x : Str} {st : Stmt} {f : Addr} {fd : FuncData} {ps : List Str} {k : Nat} {sp : Sp} (D : Def K mg x st f fd ps) (h : FnOk P w K mg base CX0 k f fd ps sp) : Cal P w K mg base k x ps sp :=
  ⟨f, fd, D.g, D.F.kp, D.b, h⟩
theorem Def.calG {x : Str} {st : Stmt} {f : Addr} {fd : FuncData} {ps : List Str} {k : Nat} {sp : Sp} (D : Def K mg x st f fd ps) (h : FnG P w K mg base k f fd ps sp) : CalG P w K mg base k x ps sp :=
  ⟨f, fd, D.g, D.F.kp, D.b, h⟩
theorem DefE.cal {x : Str} {st : Stmt} {ps : List Str} {k : Nat} {sp : Sp} (D : DefE K mg x st ps) (h : ∀ f fd, Def K mg x st f fd ps → FnOk P w K mg base CX0 k f fd ps sp) : Cal P w K mg base k x ps sp := by
  obtain ⟨f, fd, d⟩ := D
  exact d.cal (h f fd d)
theorem DefE.calG {x : Str} {st : Stmt} {ps : List Str} {k : Nat} {sp : Sp} (D : DefE K mg x st ps) (h : ∀ f fd, Def K mg x st f fd ps → FnG P w K mg base k f fd ps sp) : CalG P w K mg base k x ps sp := by
  obtain ⟨f, fd, d⟩ := D
  exact d.calG (h f fd d)
theorem Cal.imp {x : Str} {ps : List Str} {k : Nat} {sp sp' : Sp} (C : Cal P w K mg base k x ps sp) (h : ∀ vs H Q E, sp' vs H Q E → sp vs H Q E) : Cal P w K mg base k x ps sp' := by
  obtain ⟨f, fd, a, b, c, d⟩ := C
  exact ⟨f, fd, a, b, c, d.imp h⟩
theorem Cal.up {x : Str} {ps : List Str} {j k : Nat} {sp : Sp} (C : Cal P w K mg base j x ps sp) (h : j ≤ k) : Cal P w K mg base k x ps sp := by
  obtain ⟨f, fd, a, b, c, d⟩ := C
  exact ⟨f, fd, a, b, c, d.mono h⟩
theorem pe_cal {X : Cx} {k : Nat} {ps : List Str} {sp : Sp} {x : Str} {p pos : Pos} {e : Expr} {es : List Expr} {t : TA} (C : Cal X.prog X.w X.K X.mg X.base k x ps sp) (hr : Room k X.A) (hg : Gl X x) (ha : PA X (e :: es) t) (hdb : (x == ("__debug__" : Str)) = false := by decide)
    (h1 : starEach (e :: es) X.env = (false, eval e X.env) :: starEach es X.env := by rfl) (h2 : (backTo pos (starEach es X.env)).any (·.1) = false := by rfl) : PE X (.Call (.Name x p) (e :: es) [] pos) (tCall sp [] E0 t) := by
  obtain ⟨f, fd, a, b, c, d⟩ := C
  exact pe_call d hr hg a b c .nil pass0 ha hdb h1 h2
theorem pe_calG {X : Cx} {k : Nat} {ps : List Str} {sp : Sp} {x : Str} {p pos : Pos} {e : Expr} {es : List Expr} {t : TA} (C : CalG X.prog X.w X.K X.mg X.base k x ps sp) (gd : X.A.guards = some []) (hr : Room k X.A) (hg : Gl X x) (ha : PA X (e :: es) t) (hdb : (x == ("__debug__" : Str)) = false := by decide)
    (h1 : starEach (e :: es) X.env = (false, eval e X.env) :: starEach es X.env := by rfl) (h2 : (backTo pos (starEach es X.env)).any (·.1) = false := by rfl) : PE X (.Call (.Name x p) (e :: es) [] pos) (tCall sp [] E0 t) := by
  obtain ⟨f, fd, a, b, c, d⟩ := C
  exact pe_callG d gd hr hg a b c ha hdb h1 h2
end
def tTru (K : PySem.W.Frag) (ta : TE) : TT := fun σ H Q => ta σ H fun x H' => ∃ k, TruV K x H' k ∧ Q k H'
/-! ### the rules with the written part told (so that they can stand in a comprehension) -/
section
variable {X : Cx} (K : PySem.W.Frag) (h : X.K = K)
include h
theorem op_inK : OpR X (compareOp .In) (rIn K false) := by subst h; exact op_in_seq
theorem op_notInK : OpR X (compareOp .NotIn) (rIn K true) := by subst h; exact op_notIn_seq
theorem ix_listK : IxR X (rIxL K) := by subst h; exact ix_list
theorem ix_tupK : IxR X (rIxT K) := by subst h; exact ix_tup
theorem call_lenK : CallR X (.builtin "len") (fun xs H Q => ∃ p ys, xs = [.ref p] ∧ (SqL K H p ys ∨ SqT K H p ys) ∧ Q (.int ys.length) H) := by subst h; exact call_len_seq
theorem call_listK : CallR X (.type "list") (fun xs H Q => ∃ p ys, xs = [.ref p] ∧ (SqL K H p ys ∨ SqT K H p ys) ∧ ∀ l, H l = none → Q (.ref l) (upd H l (.lst ys))) := by subst h; exact call_list_of
theorem call_tupleK : CallR X (.type "tuple") (fun xs H Q => ∃ p ys, xs = [.ref p] ∧ ((SqL K H p ys ∧ ∀ l, H l = none → Q (.ref l) (upd H l (.tup ys))) ∨ (SqT K H p ys ∧ Q (.ref p) H))) := by subst h; exact call_tuple_of
theorem call_tupleF : CallR X (.type "tuple") (fun xs H Q => ∃ p ys, xs = [.ref p] ∧ SqL K H p ys ∧ ∀ (l : Addr) (ob : Obj), H l = none → ob.dict = none → Q (.ref l) (upd H l (.frz ob (.tup ys)))) := by
  subst h
  intro pins s σ H xs us Q I r h
  obtain ⟨p, ys, rfl, hq, q⟩ := h
  obtain ⟨u, rfl, ru⟩ := vals1 r
  cases ru
  obtain ⟨its, rel, pl, hz⟩ := I.list hq
  have hlen := rel.length
  refine call_tuple_list pl.isList (fun h' kp => ?_) (by simp only [List.size_toArray] <;> omega)
  have I1 : Inv X pins σ H { s with heap := h' } := I.kept (t' := s.toks) kp
  have J : Inv X pins σ (upd H h'.objs.size (.frz { cls := .type "tuple", data := .seq its.toArray } (.tup ys))) { s with heap := h'.push { cls := .type "tuple", data := .seq its.toArray } } :=
    I1.laid (t' := s.toks) (fun b o e => Heap.get?_push_of_some _ e) (Nat.le_refl _) (show ObjOk X.prog X.w _ _ _ (.frz _ (.tup ys)) from ⟨Heap.get?_push_size _ rfl, hz, its, rel, IsTup.new _ _⟩)
  exact ⟨.ref h'.objs.size, _, J, rfl, q _ _ (I1.hok.fresh (Nat.le_refl _)) rfl⟩
theorem pi_tupK {tg l : Expr} {tl : TE} (hl : PE X l tl) : PI X tg l (iTup K tl) := by subst h; exact pi_tup hl
theorem pi_listK {tg l : Expr} {tl : TE} (hl : PE X l tl) : PI X tg l (iList K tl) := by subst h; exact pi_list hl
theorem op_eqDK (hu : X.A.units + 64 < cLine) : OpR X (compareOp .Eq) (rEqD K) := by subst h; exact op_eqD hu
theorem op_neDK (hu : X.A.units + 64 < cLine) : OpR X (compareOp .NotEq) (rNeD K) := by subst h; exact op_neD hu
theorem pt_truthK {a : Expr} {ta : TE} (ha : PE X a ta) (he : ∀ whole, isTrue a X.env whole = (do let v ← whole; standAt a.pos; holding [v] (truthy v))) : PT X a (tTru K ta) := by subst h; exact pt_truth ha he
end
end Fw
namespace Fw
open PySem PySem.Spec PyProof.Rows L2
/-! ### names: texts of small letters -/
def Low (m : Nat) (s : Str) : Prop := s.length ≤ m ∧ ∀ c ∈ s.cps.toList, 97 ≤ c ∧ c ≤ 122
def Nam (s : Str) : Prop := 1 ≤ s.length ∧ Low 8 s
def ltS (a b : Str) : Prop := a.cps.toList < b.cps.toList
structure Names (ns : List Str) : Prop where
  nam : ∀ x ∈ ns, Nam x
  up : ns.Pairwise ltS
theorem str_ext {a b : Str} (h : a.cps.toList = b.cps.toList) : a = b := by
  cases a with
  | mk x => cases b with
    | mk y =>
      have : x = y := Array.toList_inj.mp h
      rw [this]
theorem app_list (a b : Str) : (a ++ b).cps.toList = a.cps.toList ++ b.cps.toList := by
  show (a.cps ++ b.cps).toList = _
  rw [Array.toList_append]
theorem app_len (a b : Str) : (a ++ b).length = a.length + b.length := Str.length_append a b
theorem len_list (a : Str) : a.length = a.cps.toList.length := by
  show a.cps.size = _
  rw [Array.length_toList]
theorem Low.app {m n : Nat} {a b : Str} (h : Low m a) (k : Low n b) : Low (m + n) (a ++ b) := by
  refine ⟨by rw [app_len]; have := h.1; have := k.1; omega, fun c hc => ?_⟩
  rw [app_list, List.mem_append] at hc
  exact hc.elim (h.2 c) (k.2 c)
theorem Low.mono {m n : Nat} {a : Str} (h : Low m a) (k : m ≤ n) : Low n a := ⟨Nat.le_trans h.1 k, h.2⟩
def let1 (i : Int) : Str := ⟨#[97 + i.toNat]⟩
theorem let1_low {i : Int} (h0 : 0 ≤ i) (h1 : i < 26) : Low 1 (let1 i) := by
  refine ⟨Nat.le_refl _, fun c hc => ?_⟩
  have : c = 97 + i.toNat := by simpa [let1] using hc
  omega
theorem join_low {sep : Str} (hs : sep.cps.toList = []) : ∀ {ys : List Str}, (∀ y ∈ ys, Low 1 y) → Low ys.length (Txt.join sep ys) := by
  intro ys h
  show Low ys.length (Builtin.Str.glued sep ys)
  rw [StrLaws.glued_eq_join]
  induction ys with
  | nil => exact ⟨Nat.le_refl _, fun c hc => by cases (show c ∈ ([] : List Nat) from hc)⟩
  | cons y r ih =>
    cases r with
    | nil => exact h y (List.mem_cons_self ..)
    | cons z r =>
      have i1 := ih fun x hx => h x (List.mem_cons_of_mem _ hx)
      have i0 := h y (List.mem_cons_self ..)
      have e : Str.join sep (y :: z :: r) = y ++ sep ++ Str.join sep (z :: r) := rfl
      have e2 : y ++ sep = y := str_ext (by rw [app_list, hs, List.append_nil])
      rw [e, e2]
      refine ((i0.app i1).mono ?_)
      simp only [List.length_cons]
      omega
theorem join_fits {sep : Str} (hs : sep.cps.toList = []) {ys : List Str} (h : ∀ y ∈ ys, Low 1 y) (hl : ys.length ≤ 100) : (ys.map (·.length)).sum + ys.length * sep.length ≤ 16777216 := by
  have e : sep.length = 0 := by rw [len_list, hs]; rfl
  rw [e, Nat.mul_zero, Nat.add_zero]
  have : ∀ zs : List Str, (∀ y ∈ zs, Low 1 y) → (zs.map (·.length)).sum ≤ zs.length := by
    intro zs hz
    induction zs with
    | nil => exact Nat.le_refl _
    | cons z r ih =>
      have := ih fun x hx => hz x (List.mem_cons_of_mem _ hx)
      have := (hz z (List.mem_cons_self ..)).1
      simp only [List.map_cons, List.sum_cons, List.length_cons]
      omega
  have := this ys h
  omega
def nmk (h t : Str) (r : Int) (k : Nat) : Str := h ++ let1 ((r + 7 * (0 + (k : Int))).fmod 26) ++ t
theorem fm26 (x : Int) : 0 ≤ x.fmod 26 ∧ x.fmod 26 < 26 := by
  rw [Int.fmod_eq_emod_of_nonneg x (by decide)]
  omega
theorem nmk_nam {h t : Str} {r : Int} {k : Nat} (a : Low 3 h) (b : Low 3 t) : Nam (nmk h t r k) := by
  have l := let1_low (fm26 (r + 7 * (0 + (k : Int)))).1 (fm26 _).2
  have := ((a.app l).app b).mono (show 3 + 1 + 3 ≤ 8 by decide)
  refine ⟨?_, this⟩
  unfold nmk
  rw [app_len, app_len]
  show 1 ≤ h.length + 1 + t.length
  omega
theorem nmk_len {h t : Str} {r : Int} {k : Nat} (a : Low 3 h) (b : Low 3 t) : (nmk h t r k).length ≤ 7 := ((a.app (let1_low (fm26 (r + 7 * (0 + (k : Int)))).1 (fm26 _).2)).app b).1
theorem nmk_inj {h t : Str} {r : Int} {i j : Nat} (hi : i < 26) (hj : j < 26) (e : nmk h t r i = nmk h t r j) : i = j := by
  have e1 := congrArg (fun s : Str => s.cps.toList) e
  simp only [nmk, app_list] at e1
  have e2 := List.append_cancel_right e1
  have e3 := List.append_cancel_left e2
  have e4 : 97 + ((r + 7 * (0 + (i : Int))).fmod 26).toNat = 97 + ((r + 7 * (0 + (j : Int))).fmod 26).toNat := by simpa [let1] using e3
  have a := fm26 (r + 7 * (0 + (i : Int)))
  have b := fm26 (r + 7 * (0 + (j : Int)))
  rw [Int.fmod_eq_emod_of_nonneg _ (by decide)] at a b e4
  rw [Int.fmod_eq_emod_of_nonneg _ (by decide)] at e4
  omega
theorem nmk_nodup {h t : Str} {r : Int} {m : Nat} (hm : m ≤ 26) : ((List.range m).map (nmk h t r)).Nodup := by
  rw [List.nodup_iff_pairwise_ne, List.pairwise_map]
  refine (List.nodup_iff_pairwise_ne.mp List.nodup_range).imp_of_mem fun {a b} ha hb ne e => ne ?_
  rw [List.mem_range] at ha hb
  exact nmk_inj (by omega) (by omega) e
theorem risingS_le : ∀ {ys : List Str} {p : Str}, risingS p ys = true → (∀ x ∈ ys, ¬ ltS x p) ∧ ys.Pairwise (fun a b => ¬ ltS b a)
  | [], _, _ => ⟨fun _ h => absurd h List.not_mem_nil, .nil⟩
  | x :: r, p, h => by
    rw [risingS, Bool.and_eq_true, Bool.not_eq_true', ltCps_eq, decide_eq_false_iff_not] at h
    obtain ⟨h1, h2⟩ := h
    obtain ⟨i1, i2⟩ := risingS_le h2
    refine ⟨fun y hy => ?_, .cons i1 i2⟩
    rcases List.mem_cons.mp hy with rfl | hy
    · exact h1
    · have h3 := i1 y hy
      exact fun z => List.le_trans (α := Nat) (Std.not_lt.mp h1) (Std.not_lt.mp h3) z
theorem sortedS_le {ys : List Str} (h : sortedS ys = true) : ys.Pairwise (fun a b => ¬ ltS b a) := by
  cases ys with
  | nil => exact .nil
  | cons x r => exact .cons (risingS_le h).1 (risingS_le h).2
theorem ltS_of {a b : Str} (h : ¬ ltS b a) (n : a ≠ b) : ltS a b := by
  have h : a.cps.toList ≤ b.cps.toList := Std.not_lt.mp h
  by_cases l : ltS a b
  · exact l
  · exact absurd (str_ext (List.le_antisymm h (Std.not_lt.mp l))) n
theorem sorted_names {ns ys : List Str} (p : ys.Perm ns) (h : sortedS ys = true) (n : ns.Nodup) (a : ∀ x ∈ ns, Nam x) : Names ys := by
  refine ⟨fun x hx => a x (p.mem_iff.mp hx), ?_⟩
  have nd : ys.Nodup := p.nodup_iff.mpr n
  exact ((sortedS_le h).and (List.nodup_iff_pairwise_ne.mp nd)).imp fun {a b} h => ltS_of h.1 h.2
theorem ltS_irr (a : Str) : ¬ ltS a a := fun h => List.lt_irrefl _ h
theorem ltS_trans {a b c : Str} (h : ltS a b) (k : ltS b c) : ltS a c := List.lt_trans h k
theorem Names.nodup {ns : List Str} (h : Names ns) : ns.Nodup := List.nodup_iff_pairwise_ne.mpr (h.up.imp fun {a b} l => fun (e : a = b) => ltS_irr b (by rw [e] at l; exact l))
theorem vs_app (a b : List Str) : (a ++ b).map V.str = a.map V.str ++ b.map V.str := List.map_append
theorem get_vs {ns : List Str} {i : Nat} {x : V} (h : (ns.map V.str)[i]? = some x) : ∃ v, ns[i]? = some v ∧ x = .str v := by
  rw [List.getElem?_map] at h
  cases e : ns[i]? with
  | none => rw [e] at h; cases h
  | some v => rw [e] at h; exact ⟨v, rfl, (Option.some.inj h).symm⟩
theorem abc_at {z : Str} (hz : z.cps.toList = (List.range 26).map (97 + ·)) {i : Int} (h0 : 0 ≤ i) (h1 : i < 26) : atI z.cps.toList i = some (97 + i.toNat) := by
  have := atI_nat (xs := z.cps.toList) (j := i.toNat) (v := 97 + i.toNat) (by rw [hz, List.getElem?_map, List.getElem?_range (by omega)]; rfl)
  rw [show ((i.toNat : Nat) : Int) = i by omega] at this
  exact this

theorem nam_ok {s : Str} (h : Nam s) : PyData.strOk s = true := by
  unfold PyData.strOk
  rw [Array.all_eq_true_iff_forall_mem]
  intro c hc
  have := h.2.2 c (by rw [Array.mem_toList_iff]; exact hc)
  exact decide_eq_true (by omega)
/-! ### a placement, as it stands in memory -/
/-- a tuple that is to be read (the second way: one that is known to have no attributes of its own) -/
def TpAt (H : Hp) (p : Addr) (xs : List V) : Prop := H p = some (.tup xs) ∨ ∃ o : Obj, o.dict = none ∧ H p = some (.frz o (.tup xs))
theorem TpAt.same {H H' : Hp} {p : Addr} {xs : List V} (x : TpAt H p xs) (e : Same H H') : TpAt H' p xs := x.elim (fun h => .inl (e _ _ h)) fun ⟨o, d, h⟩ => .inr ⟨o, d, e _ _ h⟩
theorem TpAt.sq {K : PySem.W.Frag} {H : Hp} {p : Addr} {xs : List V} (x : TpAt H p xs) : SqT K H p xs := x.elim (fun h => SqT.of h) fun ⟨o, _, h⟩ => .inl (.inr ⟨o, h⟩)
def PlAt (H : Hp) (p : Addr) (P : List (Str × Int)) : Prop := ∃ ps : List (Addr × Str × Int), TpAt H p (ps.map fun q => V.ref q.1) ∧ P = ps.map (·.2) ∧ ∀ q ∈ ps, H q.1 = some (.tup [.str q.2.1, .int q.2.2])
theorem PlAt.same {H H' : Hp} {p : Addr} {P : List (Str × Int)} (x : PlAt H p P) (e : Same H H') : PlAt H' p P := by
  obtain ⟨ps, h1, h2, h3⟩ := x
  exact ⟨ps, h1.same e, h2, fun q hq => e _ _ (h3 q hq)⟩
/-- the same, of a tuple of the second way -/
def PlD (H : Hp) (p : Addr) (P : List (Str × Int)) : Prop := ∃ (ps : List (Addr × Str × Int)) (o : Obj), o.dict = none ∧ H p = some (.frz o (.tup (ps.map fun q => V.ref q.1))) ∧ P = ps.map (·.2) ∧ ∀ q ∈ ps, H q.1 = some (.tup [.str q.2.1, .int q.2.2])
theorem PlD.pl {H : Hp} {p : Addr} {P : List (Str × Int)} (x : PlD H p P) : PlAt H p P := by
  obtain ⟨ps, o, d, h1, h2, h3⟩ := x
  exact ⟨ps, .inr ⟨o, d, h1⟩, h2, h3⟩
theorem PlD.same {H H' : Hp} {p : Addr} {P : List (Str × Int)} (x : PlD H p P) (e : Same H H') : PlD H' p P := by
  obtain ⟨ps, o, d, h1, h2, h3⟩ := x
  exact ⟨ps, o, d, e _ _ h1, h2, fun q hq => e _ _ (h3 q hq)⟩
/-- a placement of n rooms -/
structure Pl (n : Int) (P : List (Str × Int)) : Prop where
  nm : Names (P.map (·.1))
  rm : ∀ x ∈ P, 0 ≤ x.2 ∧ x.2 < n
theorem Pl.nodup {n : Int} {P : List (Str × Int)} (h : Pl n P) : (P.map (·.1)).Nodup := h.nm.nodup
/-! ### parameters -/
abbrev pDraw : List Str := ["_law_stream_here", "_law_many"]
abbrev pHP : List Str := ["house", "placement"]
abbrev pIsAsc : List Str := ["sequence"]
abbrev pIsInt : List Str := ["value"]
abbrev pIsRoom : List Str := ["house", "value"]
abbrev pLMoved : List Str := ["_law_placement_here", "_law_name", "_law_room"]
abbrev pLMoves : List Str := ["_law_house_here", "_law_placement_here"]
abbrev pLNb : List Str := ["_law_house_here", "_law_room"]
abbrev pMove : List Str := ["house", "placement", "name", "room"]
abbrev pLeav : List Str := ["placement", "target", "region"]
abbrev pSurp : List Str := ["placement", "region"]
abbrev pLHP : List Str := ["_law_house_here", "_law_placement_here"]
abbrev pFree : List Str := ["house", "placement", "target", "region"]
abbrev pLFree : List Str := ["_law_house_here", "_law_placement_here", "_law_target", "_law_piece"]
abbrev pWith : List Str := ["placement", "name", "room"]
abbrev pNamesOf : List Str := ["placement"]
abbrev pPIn : List Str := ["placement", "room"]
abbrev pPWi : List Str := ["placement", "rooms"]
abbrev pPl : List Str := ["_law_stream_here", "_law_house_here", "_law_most"]
abbrev pRegOf : List Str := ["house", "placement", "room"]
abbrev pRoomOf : List Str := ["placement", "name"]
abbrev pLWithin : List Str := ["_law_one", "_law_others"]
abbrev pLWalk : List Str := ["_law_stream_here", "_law_house_here", "_law_placement_here", "_law_many"]
abbrev pLTarget : List Str := ["_law_stream_here", "_law_house_here", "_law_placement_here"]
abbrev pHPT : List Str := ["house", "placement", "target"]
abbrev pLHPT : List Str := ["_law_house_here", "_law_placement_here", "_law_target"]
abbrev pConn : List Str := ["_law_house_here", "_law_rooms", "_law_room"]
abbrev pPTgt : List Str := ["house", "placement", "target", "name"]
abbrev pPassing : List Str := ["house", "placement", "target", "room"]
abbrev pLPassing : List Str := ["_law_house_here", "_law_placement_here", "_law_target", "_law_room", "_law_some"]
abbrev pSame : List Str := ["_law_found", "_law_expected"]
end Fw
namespace Fw
open PySem PySem.Spec PyProof.Rows L2
section
variable {P : Program} {w : World} {K : PySem.W.Frag} {mg : Str → Option Value} {base : Heap}
theorem cal_draw (D : DefE K mg "_law_draw" sDraw pDraw) (T : Nm mg) : Cal P w K mg base 1 "_law_draw" pDraw spDraw := D.cal fun _ _ d => ok_draw d.F T
theorem StreamAt.frz {s A B : Addr} {c : Nat} {H : Hp} (hS : StreamAt H s A B c) {t : Addr} {o : Obj} {u : HO} (h : H t = some (.frz o u)) : t ≠ s ∧ t ≠ A ∧ t ≠ B := by
  obtain ⟨big, cells, cnt, h1, h2, h3, _⟩ := hS.ex
  exact ⟨ne_of h h1 (by intro q; cases q), ne_of h h2 (by intro q; cases q), ne_of h h3 (by intro q; cases q)⟩
theorem Fr.frz {s A B : Addr} {c : Nat} {H H1 : Hp} (f : Fr s A H H1) (hS : StreamAt H s A B c) {t : Addr} {o : Obj} {u : HO} (h : H t = some (.frz o u)) : H1 t = some (.frz o u) := f t _ (hS.frz h).1 (hS.frz h).2.1 h
theorem TpAt.fr {s A B : Addr} {c : Nat} {H H' : Hp} {p : Addr} {xs : List V} (x : TpAt H p xs) (hS : StreamAt H s A B c) (e : Fr s A H H') : TpAt H' p xs := x.elim (fun h => .inl (e.tup hS h)) fun ⟨o, d, h⟩ => .inr ⟨o, d, e.frz hS h⟩
theorem PlAt.fr {s A B : Addr} {c : Nat} {H H' : Hp} {p : Addr} {P : List (Str × Int)} (x : PlAt H p P) (hS : StreamAt H s A B c) (e : Fr s A H H') : PlAt H' p P := by
  obtain ⟨ps, h1, h2, h3⟩ := x
  exact ⟨ps, h1.fr hS e, h2, fun q hq => e.tup hS (h3 q hq)⟩
theorem PlD.fr {s A B : Addr} {c : Nat} {H H' : Hp} {p : Addr} {P : List (Str × Int)} (x : PlD H p P) (hS : StreamAt H s A B c) (e : Fr s A H H') : PlD H' p P := by
  obtain ⟨ps, o, d, h1, h2, h3⟩ := x
  exact ⟨ps, o, d, e.frz hS h1, h2, fun q hq => e.tup hS (h3 q hq)⟩
def spNames : Sp := fun vs H Q _ => ∃ (s A B : Addr) (c : Nat) (m : Int), vs = [.ref s, .int m] ∧ StreamAt H s A B c ∧ c < 2 ^ 30 ∧ 0 ≤ m ∧ m ≤ 20 ∧
  ∀ H' l ns, StreamAt H' s A B (c + 10) → Fr s A H H' → H l = none → H' l = some (.lst (ns.map V.str)) → ns.length = m.toNat → Names ns → Q (.ref l) H'
/-- the same, with more known of the names -/
def spNamesS (S : List Str → Prop) : Sp := fun vs H Q _ => ∃ (s A B : Addr) (c : Nat) (m : Int), vs = [.ref s, .int m] ∧ StreamAt H s A B c ∧ c < 2 ^ 30 ∧ 0 ≤ m ∧ m ≤ 20 ∧
  ∀ H' l ns, StreamAt H' s A B (c + 10) → Fr s A H H' → H l = none → H' l = some (.lst (ns.map V.str)) → ns.length = m.toNat → Names ns → S ns → Q (.ref l) H'
abbrev spNamesR (R : Str → Prop) : Sp := spNamesS fun ns => ∀ x ∈ ns, R x
/-- short, and all of one length -/
def OneLen (ns : List Str) : Prop := (∀ x ∈ ns, x.length ≤ 7) ∧ ∃ u, ∀ x ∈ ns, x.length = u
theorem nmk_lenE {h t : Str} {r : Int} {k : Nat} : (nmk h t r k).length = h.length + 1 + t.length := by
  unfold nmk
  rw [app_len, app_len]
  rfl
abbrev nNames : List Str := ["_law_stream_here", "_law_many", "_law_letters", "_law_first", "_law_head", "_law_k", "_law_tail"]
theorem scNames : FnScope nNames ["_law_stream_here", "_law_many"] (defScope sNames) := ⟨rfl, rfl, rfl, by decide +kernel, rfl, by decide +kernel, by decide +kernel⟩
theorem ok_namesS {f : Addr} {fd : FuncData} (F : Fun K "_law_names" "_law_names" sNames f fd) (T : Nm mg) (C_law_draw : Cal P w K mg base 1 "_law_draw" pDraw spDraw) : FnOk P w K mg base CX0 2 f fd ["_law_stream_here", "_law_many"] (spNamesS OneLen) := by
  refine F.ok scNames (fun vs H Q E h => ?_) (fun cdv A outer s H vs Q E hr h => ?_)
  · obtain ⟨s, A, B, c, m, rfl, _⟩ := h
    rfl
  · obtain ⟨s, A, B, c, m, rfl, hS, hc, hm0, hm1, q⟩ := h
    refine ⟨_, (pss_cons (ps_set (i := 2) scNames.nd rfl (.inr rfl) pe_str)
      (pss_cons (ps_set (i := 3) scNames.nd rfl (.inr rfl) (pe_cal C_law_draw (hr.mono (by decide)) (by rfl) (pa_cons (pv 0) (pa_cons pe_int pa_nil))))
      (pss_cons (ps_set (i := 4) scNames.nd rfl (.inr rfl) (pe_join pe_str (pe_lc (own := [("_law_k", 5)]) (g := gName 5) (by rfl) scNames.nd (pi_range1 (by rfl) T.range (pa_cons (pe_cal C_law_draw (hr.mono (by decide)) (by rfl) (pa_cons (pv 0) (pa_cons pe_int pa_nil))) pa_nil))
 (blkOk_by (own := [("_law_k", 5)]) (N := nNames) (sc := defScope sNames) (by decide +kernel))
 (fun _ _ _ _ _ => (pg_name (i := 5) scNames.nd rfl (.inl rfl))) (fun _ _ _ _ _ => pts_nil) (fun _ _ _ _ _ => (pe_ix ix_str (pv 2) (pe_cal C_law_draw (hr.mono (by decide)) (by rfl) (pa_cons (pv 0) (pa_cons pe_int pa_nil))) (fun _ _ => rfl))))))
      (pss_cons (ps_set (i := 6) scNames.nd rfl (.inr rfl) (pe_join pe_str (pe_lc (own := [("_law_k", 5)]) (g := gName 5) (by rfl) scNames.nd (pi_range1 (by rfl) T.range (pa_cons (pe_cal C_law_draw (hr.mono (by decide)) (by rfl) (pa_cons (pv 0) (pa_cons pe_int pa_nil))) pa_nil))
 (blkOk_by (own := [("_law_k", 5)]) (N := nNames) (sc := defScope sNames) (by decide +kernel))
 (fun _ _ _ _ _ => (pg_name (i := 5) scNames.nd rfl (.inl rfl))) (fun _ _ _ _ _ => pts_nil) (fun _ _ _ _ _ => (pe_ix ix_str (pv 2) (pe_cal C_law_draw (hr.mono (by decide)) (by rfl) (pa_cons (pv 0) (pa_cons pe_int pa_nil))) (fun _ _ => rfl))))))
      (pss_one (ps_ret (pe_callB cr_sortedS (by rfl) T.sorted (by decide +kernel) (pa_cons (pe_lc (own := [("_law_k", 5)]) (g := gName 5) (by rfl) scNames.nd (pi_range1 (by rfl) T.range (pa_cons (pv 1) pa_nil))
 (blkOk_by (own := [("_law_k", 5)]) (N := nNames) (sc := defScope sNames) (by decide +kernel))
 (fun _ _ _ _ _ => (pg_name (i := 5) scNames.nd rfl (.inl rfl))) (fun _ _ _ _ _ => pts_nil) (fun _ _ _ _ _ => (pe_op op_add_str (pe_op op_add_str (pv 4) (pe_ix ix_str (pv 2) (pe_op op_modN (pe_op op_add (pv 3) (pe_op op_mul pe_int (pv 5))) pe_int) (fun _ _ => rfl))) (pv 6)))) pa_nil)))))))), ?_⟩
    refine ⟨_, rfl, s, A, B, c, _, rfl, hS, by omega, by decide, by decide, fun H1 r hS1 fr1 r0 r1 => ?_⟩
    refine ⟨⟨_, rfl⟩, _, rfl, s, A, B, c + 1, _, rfl, hS1, by omega, by decide, by decide, fun H2 r2 hS2 fr2 r20 r21 => ?_⟩
    have abc : (Str.ofString "abcdefghijklmnopqrstuvwxyz").cps.toList = (List.range 26).map (97 + ·) := by decide +kernel
    have nil : (Str.ofString "").cps.toList = [] := by decide +kernel
    refine ⟨r2, rfl, by omega, by omega, fun L hL => lc_range (lo := 0) (n := r2.toNat) (fun i H' => ∃ ys : List Str, StreamAt H' s A B (c + 1 + 1 + i) ∧ Fr s A H2 H' ∧ H' L = some (.lst (ys.map V.str)) ∧ ys.length = i ∧ ∀ y ∈ ys, Low 1 y)
      ⟨[], hS2.same (same_upd hL), Fr.of (same_upd hL), upd_same, rfl, fun y hy => absurd hy List.not_mem_nil⟩ ?_ ?_⟩
    · rintro i H' hi ⟨ys, hS', fr', e', l', p'⟩
      refine ⟨rfl, ?_⟩
      unfold tYes
      refine iteT ⟨_, rfl, _, rfl, s, A, B, c + 1 + 1 + i, _, rfl, hS', by omega, by decide, by decide, fun H'' x hS'' fr'' x0 x1 => ?_⟩
      have z := hS2.ne hL
      refine ⟨_, x, _, rfl, rfl, by decide +kernel, abc_at abc x0 x1, _, fr'' _ _ z.1.symm z.2.1.symm e', ?_, ys ++ [let1 x], hS''.put z, (fr'.trans fr'').put hL, ?_, ?_, ?_⟩
      · rw [List.length_map]
        exact small1000 (by omega)
      · rw [upd_same, vs_app]
        rfl
      · rw [List.length_append, l']
        rfl
      · intro y hy
        rcases List.mem_append.mp hy with hy | hy
        · exact p' y hy
        · rw [List.mem_singleton.mp hy]
          exact let1_low x0 x1
    rintro H3 ⟨ys, hS3, fr3, e3, l3, p3⟩
    refine ⟨_, L, ys, rfl, rfl, .inl (SqL.of e3), join_fits nil p3 (by omega), ?_⟩
    have hd : Low 3 (Txt.join (Str.ofString "") ys) := (join_low nil p3).mono (by omega)
    generalize Txt.join (Str.ofString "") ys = hd' at *
    have hS3 := hS3.mono (show _ ≤ c + 5 by omega)
    have fr3 : Fr s A H H3 := (fr1.trans fr2).trans fr3
    clear e3 l3 p3 hL fr2 hS2
    refine ⟨⟨_, rfl⟩, _, rfl, s, A, B, c + 5, _, rfl, hS3, by omega, by decide, by decide, fun H4 r4 hS4 fr4 r40 r41 => ?_⟩
    refine ⟨r4, rfl, by omega, by omega, fun M hM => lc_range (lo := 0) (n := r4.toNat) (fun i H' => ∃ ys : List Str, StreamAt H' s A B (c + 5 + 1 + i) ∧ Fr s A H4 H' ∧ H' M = some (.lst (ys.map V.str)) ∧ ys.length = i ∧ ∀ y ∈ ys, Low 1 y)
      ⟨[], hS4.same (same_upd hM), Fr.of (same_upd hM), upd_same, rfl, fun y hy => absurd hy List.not_mem_nil⟩ ?_ ?_⟩
    · rintro i H' hi ⟨ys, hS', fr', e', l', p'⟩
      refine ⟨rfl, ?_⟩
      unfold tYes
      refine iteT ⟨_, rfl, _, rfl, s, A, B, c + 5 + 1 + i, _, rfl, hS', by omega, by decide, by decide, fun H'' x hS'' fr'' x0 x1 => ?_⟩
      have z := hS4.ne hM
      refine ⟨_, x, _, rfl, rfl, by decide +kernel, abc_at abc x0 x1, _, fr'' _ _ z.1.symm z.2.1.symm e', ?_, ys ++ [let1 x], hS''.put z, (fr'.trans fr'').put hM, ?_, ?_, ?_⟩
      · rw [List.length_map]
        exact small1000 (by omega)
      · rw [upd_same, vs_app]
        rfl
      · rw [List.length_append, l']
        rfl
      · intro y hy
        rcases List.mem_append.mp hy with hy | hy
        · exact p' y hy
        · rw [List.mem_singleton.mp hy]
          exact let1_low x0 x1
    rintro H5 ⟨zs, hS5, fr5, e5, l5, p5⟩
    refine ⟨_, M, zs, rfl, rfl, .inl (SqL.of e5), join_fits nil p5 (by omega), ?_⟩
    have td : Low 3 (Txt.join (Str.ofString "") zs) := (join_low nil p5).mono (by omega)
    generalize Txt.join (Str.ofString "") zs = tl' at *
    have hS5 := hS5.mono (show _ ≤ c + 10 by omega)
    have fr5 : Fr s A H H5 := (fr3.trans fr4).trans fr5
    clear e5 l5 p5 hM fr4 hS4 hS3 fr3 fr1 hS1
    refine ⟨_, rfl, m, rfl, by omega, by omega, fun N hN => lc_range (lo := 0) (n := m.toNat) (fun i H' => Same H5 H' ∧ H' N = some (.lst (((List.range i).map (nmk hd' tl' r)).map V.str)))
      ⟨same_upd hN, upd_same⟩ ?_ ?_⟩
    · rintro i H' hi ⟨sm, e'⟩
      refine ⟨rfl, ?_⟩
      unfold tYes
      have g := fm26 (r + 7 * (0 + (i : Int)))
      refine iteT ⟨_, rfl, _, rfl, _, rfl, _, rfl, _, _, rfl, rfl, .inl ⟨by decide, by decide⟩, _, _, rfl, rfl, _, _, rfl, rfl, (by show (26 : Int) ≠ 0; decide), _, _, _, rfl, rfl, by decide +kernel, abc_at abc g.1 g.2, _, _, rfl, rfl, ?_, _, rfl, _, _, rfl, rfl, ?_, _, e', ?_, same_put sm hN, ?_⟩
      · show hd'.length + 1 ≤ sizeLine
        have := hd.1
        exact Nat.le_of_lt (small1000 (by omega))
      · rw [app_len]
        show hd'.length + 1 + tl'.length ≤ sizeLine
        have := hd.1
        have := td.1
        exact Nat.le_of_lt (small1000 (by omega))
      · rw [List.length_map, List.length_map, List.length_range]
        exact small1000 (by omega)
      · rw [upd_same, List.range_succ, List.map_append, vs_app]
        rfl
    rintro H6 ⟨sm6, e6⟩
    refine ⟨N, _, rfl, SqL.of e6, ?_, fun zs p hp hs hpn => ?_⟩
    · rw [List.length_map, List.length_range]
      omega
    have fr7 : Fr s A H (upd H6 p (.lst (zs.map V.str))) := fr5.trans (Fr.of (sm6.trans (same_upd hpn)))
    refine q _ p zs (hS5.same (sm6.trans (same_upd hpn))) fr7 (fr5.free hS5 (sm6.free hpn)) upd_same ?_ (sorted_names hp hs (nmk_nodup (by omega)) ?_) ⟨fun x hx => ?_, hd'.length + 1 + tl'.length, fun x hx => ?_⟩
    · rw [hp.length_eq, List.length_map, List.length_range]
    · intro x hx
      obtain ⟨k, _, rfl⟩ := List.mem_map.mp hx
      exact nmk_nam hd td
    · obtain ⟨k, _, rfl⟩ := List.mem_map.mp (hp.mem_iff.mp hx)
      exact nmk_len hd td
    · obtain ⟨k, _, rfl⟩ := List.mem_map.mp (hp.mem_iff.mp hx)
      exact nmk_lenE
theorem names_imp {S S' : List Str → Prop} {x : Str} {ps : List Str} {k : Nat} (C : Cal P w K mg base k x ps (spNamesS S)) (h : ∀ z, S z → S' z) : Cal P w K mg base k x ps (spNamesS S') :=
  C.imp fun vs H Q E ⟨s, A, B, c, m, e, hS, hc, m0, m1, q⟩ => ⟨s, A, B, c, m, e, hS, hc, m0, m1, fun H' l ns a b c d e f g => q H' l ns a b c d e f (h _ g)⟩
theorem ok_names7 {f : Addr} {fd : FuncData} (F : Fun K "_law_names" "_law_names" sNames f fd) (T : Nm mg) (C_law_draw : Cal P w K mg base 1 "_law_draw" pDraw spDraw) : FnOk P w K mg base CX0 2 f fd ["_law_stream_here", "_law_many"] (spNamesR fun x => x.length ≤ 7) :=
  (ok_namesS F T C_law_draw).imp fun vs H Q E ⟨s, A, B, c, m, e, hS, hc, m0, m1, q⟩ => ⟨s, A, B, c, m, e, hS, hc, m0, m1, fun H' l ns a b c d e f g => q H' l ns a b c d e f g.1⟩
theorem names_all {R : Str → Prop} {x : Str} {ps : List Str} {k : Nat} (C : Cal P w K mg base k x ps spNames) (h : ∀ z, R z) : Cal P w K mg base k x ps (spNamesR R) :=
  C.imp fun vs H Q E ⟨s, A, B, c, m, e, hS, hc, m0, m1, q⟩ => ⟨s, A, B, c, m, e, hS, hc, m0, m1, fun H' l ns a b c d e f => q H' l ns a b c d e f fun _ _ => h _⟩
theorem names_S {S : List Str → Prop} {x : Str} {ps : List Str} {k : Nat} (C : Cal P w K mg base k x ps spNames) (h : ∀ z, S z) : Cal P w K mg base k x ps (spNamesS S) :=
  C.imp fun vs H Q E ⟨s, A, B, c, m, e, hS, hc, m0, m1, q⟩ => ⟨s, A, B, c, m, e, hS, hc, m0, m1, fun H' l ns a b c d e f => q H' l ns a b c d e f (h _)⟩
theorem ok_names {f : Addr} {fd : FuncData} (F : Fun K "_law_names" "_law_names" sNames f fd) (T : Nm mg) (C_law_draw : Cal P w K mg base 1 "_law_draw" pDraw spDraw) : FnOk P w K mg base CX0 2 f fd ["_law_stream_here", "_law_many"] spNames :=
  (ok_names7 F T C_law_draw).imp fun vs H Q E ⟨s, A, B, c, m, e, hS, hc, m0, m1, q⟩ => ⟨s, A, B, c, m, e, hS, hc, m0, m1, fun H' l ns a b c d e f _ => q H' l ns a b c d e f⟩
end
end Fw
namespace Fw
open PySem PySem.Spec PyProof.Rows L2
theorem cut_vi (ns : List Int) (lo hi : Option Int) : ∃ ms : List Int, cutV (vi ns) lo hi = vi ms ∧ (∀ x ∈ ms, x ∈ ns) := by
  refine ⟨(ns.drop (HT.sIx (vi ns).length 0 lo)).take (HT.sIx (vi ns).length (vi ns).length hi - HT.sIx (vi ns).length 0 lo), ?_, fun x hx => List.mem_of_mem_drop (List.mem_of_mem_take hx)⟩
  unfold cutV vi
  rw [List.map_take, List.map_drop]
theorem cut_le (xs : List V) {m : Int} (h : 0 ≤ m) : (cutV xs none (some m)).length ≤ m.toNat := by
  unfold cutV
  rw [List.length_take]
  refine Nat.le_trans (Nat.min_le_left _ _) ?_
  show (if m < 0 then _ else min m.toNat xs.length) - 0 ≤ m.toNat
  rw [if_neg (by omega)]
  omega
theorem atI_in {xs : List Int} {r : Int} (h0 : 0 ≤ r) (h1 : r < (xs.length : Nat)) : ∃ x, x ∈ xs ∧ atI (vi xs) r = some (V.int x) := by
  have hj : r.toNat < xs.length := by omega
  refine ⟨xs[r.toNat], List.getElem_mem hj, ?_⟩
  have := atI_nat (xs := vi xs) (j := r.toNat) (v := V.int xs[r.toNat]) (by rw [List.getElem?_map, List.getElem?_eq_getElem hj]; rfl)
  rw [show ((r.toNat : Nat) : Int) = r by omega] at this
  exact this
theorem seq_by {a b : TS} {D : Ends} {σ : L2.St} {H : Hp} (M : L2.St → Hp → Prop) (h1 : ∀ N : L2.St → Hp → Prop, (∀ σ' H', M σ' H' → N σ' H') → a { D with nx := N } σ H) (h2 : ∀ σ' H', M σ' H' → b D σ' H') : tSeq a b D σ H := h1 _ h2
section
variable {P : Program} {w : World} {K : PySem.W.Frag} {mg : Str → Option Value} {base : Heap}
theorem HouseAt.room0 {H : Hp} {h : Addr} {n : Int} {D : List (Int × Int)} (x : HouseAt H h n D) : ∃ q, H h = some (.tup [.int n, .ref q]) := by
  obtain ⟨q, ps, h1, _⟩ := x
  exact ⟨q, h1⟩
def spPl : Sp := fun vs H Q _ => ∃ (s A B h : Addr) (c : Nat) (n : Int) (D : List (Int × Int)) (m : Int), vs = [.ref s, .ref h, .int m] ∧ StreamAt H s A B c ∧ c < 2 ^ 29 ∧ HouseAt H h n D ∧ 1 ≤ n ∧ n ≤ 8 ∧ 0 ≤ m ∧ m ≤ 12 ∧
  ∀ H' p P, StreamAt H' s A B (c + 60) → Fr s A H H' → PlD H' p P → Pl n P → P.length ≤ m.toNat → Q (.ref p) H'
/-- the same, with more known of the names -/
def spPlS (S : List Str → Prop) : Sp := fun vs H Q _ => ∃ (s A B h : Addr) (c : Nat) (n : Int) (D : List (Int × Int)) (m : Int), vs = [.ref s, .ref h, .int m] ∧ StreamAt H s A B c ∧ c < 2 ^ 29 ∧ HouseAt H h n D ∧ 1 ≤ n ∧ n ≤ 8 ∧ 0 ≤ m ∧ m ≤ 12 ∧
  ∀ H' p P, StreamAt H' s A B (c + 60) → Fr s A H H' → PlD H' p P → Pl n P → P.length ≤ m.toNat → S (P.map (·.1)) → Q (.ref p) H'
def spPlR (R : Str → Prop) : Sp := fun vs H Q _ => ∃ (s A B h : Addr) (c : Nat) (n : Int) (D : List (Int × Int)) (m : Int), vs = [.ref s, .ref h, .int m] ∧ StreamAt H s A B c ∧ c < 2 ^ 29 ∧ HouseAt H h n D ∧ 1 ≤ n ∧ n ≤ 8 ∧ 0 ≤ m ∧ m ≤ 12 ∧
  ∀ H' p P, StreamAt H' s A B (c + 60) → Fr s A H H' → PlD H' p P → Pl n P → P.length ≤ m.toNat → (∀ x ∈ P, R x.1) → Q (.ref p) H'
abbrev nPl : List Str := ["_law_stream_here", "_law_house_here", "_law_most", "_law_share", "_law_held", "_law_room", "_law_spots", "_law_k", "_law_found", "_law_name"]
theorem scPl : FnScope nPl ["_law_stream_here", "_law_house_here", "_law_most"] (defScope sPl) := ⟨rfl, rfl, rfl, by decide +kernel, rfl, by decide +kernel, by decide +kernel⟩
theorem ok_plS {S' : List Str → Prop} {f : Addr} {fd : FuncData} (F : Fun K "_law_placement" "_law_placement" sPl f fd) (T : Nm mg) (C_law_draw : Cal P w K mg base 1 "_law_draw" pDraw spDraw) (C_law_names : Cal P w K mg base 2 "_law_names" pDraw (spNamesS S')) : FnOk P w K mg base CX0 3 f fd pPl (spPlS S') := by
  refine F.ok scPl (fun vs H Q E h => ?_) (fun cdv A outer s H vs Q E hr h => ?_)
  · obtain ⟨s, A, B, h, c, n, D, m, rfl, _⟩ := h
    rfl
  · obtain ⟨s, A, B, h, c, n, D, m, rfl, hS, hc, hH, n0, n1, m0, m1, q⟩ := h
    refine ⟨_, (pss_cons (ps_set (i := 3) scPl.nd rfl (.inr rfl) (pe_cal C_law_draw (hr.mono (by decide)) (by rfl) (pa_cons (pv 0) (pa_cons pe_int pa_nil))))
      (pss_cons (ps_set (i := 4) scPl.nd rfl (.inl rfl) (pe_slice sl_list (pe_lc (own := [("_law_room", 5)]) (g := gName 5) (by rfl) scPl.nd (pi_range1 (by rfl) T.range (pa_cons (pe_ix ix_tup (pv 1) pe_int (fun _ _ => rfl)) pa_nil))
 (blkOk_by (own := [("_law_room", 5)]) (N := nPl) (sc := defScope sPl) (by decide +kernel))
 (fun _ _ _ _ _ => (pg_name (i := 5) scPl.nd rfl (.inl rfl))) (fun _ _ _ _ _ => pts_one (PW.pt (pw_or (pt_cmpR op_eq (pv 3) pe_int (nomark _)) (pw_or1 (pt_cmpR op_gt (pe_cal C_law_draw (hr.mono (by decide)) (by rfl) (pa_cons (pv 0) (pa_cons pe_int pa_nil))) pe_int (nomark _)))))) (fun _ _ _ _ _ => (pv 5))) po_none (po_some (pv 2))))
      (pss_cons (ps_set (i := 6) scPl.nd rfl (.inl rfl) (pe_callTy call_list_of (by rfl) T.list (by decide +kernel) (pa_cons (pv 4) pa_nil)))
      (pss_cons (ps_if (PW.pt (pw_and (pt_cmpR (op_neD hr.units) (pv 4) (pe_lst pa_nil) (nomark _)) (pw_and1 (pt_cmpR op_eq (pe_cal C_law_draw (hr.mono (by decide)) (by rfl) (pa_cons (pv 0) (pa_cons pe_int pa_nil))) pe_int (nomark _)))))
      (pss_one (ps_for PassesOwn.never rfl (pi_range1 (by rfl) T.range (pa_cons (pe_cal C_law_draw (hr.mono (by decide)) (by rfl) (pa_cons (pv 0) (pa_cons (pe_op op_add (pe_op op_sub (pv 2) (pe_callB call_len_seq (by rfl) T.len (by decide +kernel) (pa_cons (pv 4) pa_nil))) pe_int) pa_nil))) pa_nil)) (pg_name (i := 7) scPl.nd rfl (.inl rfl))
       (pss_one (ps_expr (pe_bm PySem.F.plainAttrs_list PySem.F.slot_list_append PySem.F.type_list_append mt_append (pv 6) (pa_cons (pe_ix ix_list (pv 4) (pe_cal C_law_draw (hr.mono (by decide)) (by rfl) (pa_cons (pv 0) (pa_cons (pe_callB call_len_seq (by rfl) T.len (by decide +kernel) (pa_cons (pv 4) pa_nil)) pa_nil))) (fun _ _ => rfl)) pa_nil))))))
      pss_nil)
      (pss_cons (ps_set (i := 8) scPl.nd rfl (.inl rfl) (pe_lst pa_nil))
      (pss_cons (ps_for PassesOwn.never rfl (pi_list (pe_cal C_law_names (hr.mono (by decide)) (by rfl) (pa_cons (pv 0) (pa_cons (pe_callB call_len_seq (by rfl) T.len (by decide +kernel) (pa_cons (pv 6) pa_nil)) pa_nil)))) (pg_name (i := 9) scPl.nd rfl (.inl rfl))
      (pss_one (ps_expr (pe_bm PySem.F.plainAttrs_list PySem.F.slot_list_append PySem.F.type_list_append mt_append (pv 8) (pa_cons (pe_tup (pa_cons (pv 9) (pa_cons (pe_bm PySem.F.plainAttrs_list PySem.F.slot_list_pop PySem.F.type_list_pop mt_popAt (pv 6) (pa_cons (pe_cal C_law_draw (hr.mono (by decide)) (by rfl) (pa_cons (pv 0) (pa_cons (pe_callB call_len_seq (by rfl) T.len (by decide +kernel) (pa_cons (pv 6) pa_nil)) pa_nil))) pa_nil)) pa_nil))) pa_nil)))))
      (pss_one (ps_ret (pe_callTy (call_tupleF K rfl) (by rfl) T.tuple (by decide +kernel) (pa_cons (pv 8) pa_nil)))))))))), ?_⟩
    refine ⟨_, rfl, s, A, B, c, _, rfl, hS, by omega, by decide, by decide, fun H1 sh hS1 fr1 _ _ => ?_⟩
    have hH1 := hH.fr hS fr1
    obtain ⟨qd, eh1⟩ := hH1.room0
    -- held
    refine ⟨_, rfl, h, _, _, _, rfl, rfl, SqT.of eh1, atI0, n, rfl, by omega, by omega, fun L hL => lc_range (lo := 0) (n := n.toNat) (fun i H' => ∃ ys : List Int, StreamAt H' s A B (c + 1 + i) ∧ Fr s A H1 H' ∧ H' L = some (.lst (vi ys)) ∧ ys.length ≤ i ∧ ∀ y ∈ ys, 0 ≤ y ∧ y < n)
      ⟨[], hS1.same (same_upd hL), Fr.of (same_upd hL), upd_same, Nat.le_refl _, fun y hy => absurd hy List.not_mem_nil⟩ ?_ ?_⟩
    · rintro i H' hi ⟨ys, hS', fr', e', l', p'⟩
      have z := hS1.ne hL
      refine ⟨rfl, tt_by (fun b H3 => StreamAt H3 s A B (c + 1 + (i + 1)) ∧ Fr s A H' H3) ?_ ?_⟩
      · intro Q' hQ'
        refine ⟨_, rfl, rfl, _, rfl, ?_⟩
        refine ite2 (fun _ => ?_) (fun _ => ?_)
        · exact hQ' _ _ ⟨hS'.mono (by omega), Fr.refl⟩
        · refine ⟨_, rfl, s, A, B, c + 1 + i, _, rfl, hS', by omega, by decide, by decide, fun H'' x hS'' fr'' x0 x1 => ⟨_, _, rfl, rfl, _, rfl, ?_⟩⟩
          exact hQ' _ _ ⟨hS'', fr''⟩
      · rintro b H3 ⟨hS3, fr3⟩
        have e3 := fr3 _ _ z.1.symm z.2.1.symm e'
        refine ite2 (fun _ => ?_) (fun _ => ?_)
        · refine ⟨_, rfl, _, e3, ?_, ys ++ [0 + (i : Int)], hS3.put z, (fr'.trans fr3).put hL, ?_, ?_, ?_⟩
          · rw [List.length_map]
            exact small1000 (by omega)
          · rw [upd_same, vi_app]
            rfl
          · rw [List.length_append, List.length_singleton]
            omega
          · intro y hy
            rcases List.mem_append.mp hy with hy | hy
            · exact p' y hy
            · rw [List.mem_singleton.mp hy]
              omega
        · exact ⟨ys, hS3, fr'.trans fr3, e3, by omega, p'⟩
    rintro H2 ⟨ys, hS2, fr2, e2, l2, p2⟩
    have hS2 := hS2.mono (show _ ≤ c + 9 by omega)
    refine ⟨_, rfl, m, rfl, L, _, rfl, SqL.of e2, fun M hM => ?_⟩
    have zM := hS2.ne hM
    obtain ⟨held, eh, ph⟩ := cut_vi ys none (some m)
    have lh : held.length ≤ m.toNat := by
      have := cut_le (vi ys) m0
      rw [eh, List.length_map] at this
      exact this
    have ph : ∀ y ∈ held, 0 ≤ y ∧ y < n := fun y hy => p2 y (ph y hy)
    rw [show cutV (vi ys) none (some m) = vi held from eh]
    clear eh
    have hS3 := hS2.same (same_upd (o := .lst (vi held)) hM)
    have fr3 : Fr s A H (upd H2 M (.lst (vi held))) := (fr1.trans fr2).trans (Fr.of (same_upd hM))
    have e3 : (upd H2 M (.lst (vi held))) M = some (.lst (vi held)) := upd_same
    generalize upd H2 M (.lst (vi held)) = H3 at *
    clear e2 p2 l2 fr2 hS2
    -- spots
    refine ⟨_, rfl, M, _, rfl, .inl (SqL.of e3), fun S hS' => ?_⟩
    have fS := fr3.free hS3 hS'
    have zS := hS3.ne hS'
    have nMS : M ≠ S := ne_of_none e3 hS'
    have hS4 := hS3.same (same_upd (o := .lst (vi held)) hS')
    have fr4 : Fr s A H (upd H3 S (.lst (vi held))) := fr3.trans (Fr.of (same_upd hS'))
    have e4 : (upd H3 S (.lst (vi held))) M = some (.lst (vi held)) := same_upd hS' _ _ e3
    have es4 : (upd H3 S (.lst (vi held))) S = some (.lst (vi held)) := upd_same
    generalize upd H3 S (.lst (vi held)) = H4 at *
    clear hS' hS3 fr3 e3
    dsimp only [gName]
    refine seq_by (fun σ' H' => ∃ (y5 y7 : Option V) (c' : Nat) (spots : List Int), σ' = [some (.ref s), some (.ref h), some (.int m), some (.int sh), some (.ref M), y5, some (.ref S), y7, none, none] ∧ StreamAt H' s A B c' ∧ c' ≤ c + 30 ∧ Fr s A H H' ∧ H' S = some (.lst (vi spots)) ∧ spots.length ≤ m.toNat ∧ ∀ y ∈ spots, 0 ≤ y ∧ y < n) ?_ ?_
    · intro N hN
      refine if_by (fun b H' => ∃ c', StreamAt H' s A B c' ∧ c' ≤ c + 10 ∧ Fr s A H H' ∧ H' S = some (.lst (vi held)) ∧ H' M = some (.lst (vi held)) ∧ (b = true → held ≠ [])) ?_ ?_ ?_
      · rintro H5 ⟨c5, hS5, hc5, fr5, es5, e5, ne⟩
        have ne := ne rfl
        have l0 : 0 < held.length := List.length_pos_iff.mpr ne
        refine ⟨_, rfl, _, rfl, _, rfl, M, _, rfl, .inl (SqL.of e5), _, _, rfl, rfl, _, _, rfl, rfl, s, A, B, c5, _, rfl, hS5, by omega, ?_, ?_, fun H6 x hS6 fr6 x0 x1 => ?_⟩
        · rw [List.length_map]; omega
        · rw [List.length_map]; omega
        rw [List.length_map] at x1
        refine ⟨x, rfl, by omega, by omega, for_range (lo := 0) (n := x.toNat) (fun i σ' H' => ∃ (y7 : Option V) (c' : Nat) (spots : List Int), σ' = [some (.ref s), some (.ref h), some (.int m), some (.int sh), some (.ref M), none, some (.ref S), y7, none, none] ∧ StreamAt H' s A B c' ∧ c' ≤ c5 + 1 + i ∧ Fr s A H H' ∧ H' S = some (.lst (vi spots)) ∧ H' M = some (.lst (vi held)) ∧ spots.length = held.length + i ∧ ∀ y ∈ spots, 0 ≤ y ∧ y < n)
          ⟨_, c5 + 1, held, rfl, hS6, by omega, fr5.trans fr6, fr6 _ _ zS.1.symm zS.2.1.symm es5, fr6 _ _ zM.1.symm zM.2.1.symm e5, rfl, ph⟩ ?_ ?_⟩
        · rintro i σ' H7 hi ⟨y7, c7, spots, rfl, hS7, hc7, fr7, es7, e7, l7, p7⟩
          refine ⟨_, rfl, .inl ⟨rfl, _, SqL.of es7⟩, _, rfl, _, rfl, _, rfl, M, _, rfl, .inl (SqL.of e7), s, A, B, c7, _, rfl, hS7, by omega, ?_, ?_, fun H8 y hS8 fr8 y0 y1 => ?_⟩
          · rw [List.length_map]; omega
          · rw [List.length_map]; omega
          rw [List.length_map] at y1
          obtain ⟨v, hv, ev⟩ := atI_in y0 y1
          have es8 := fr8 _ _ zS.1.symm zS.2.1.symm es7
          refine ⟨M, _, _, _, rfl, rfl, SqL.of (fr8 _ _ zM.1.symm zM.2.1.symm e7), ev, S, _, _, rfl, rfl, es8, ?_, _, c7 + 1, spots ++ [v], rfl, hS8.put zS, by omega, (fr7.trans fr8).put fS, ?_, ?_, ?_, ?_⟩
          · rw [List.length_map]
            exact small1000 (by omega)
          · rw [upd_same, vi_app]
            rfl
          · rw [upd_ne nMS]
            exact fr8 _ _ zM.1.symm zM.2.1.symm e7
          · rw [List.length_append, List.length_singleton]
            omega
          · intro z hz
            rcases List.mem_append.mp hz with hz | hz
            · exact p7 z hz
            · rw [List.mem_singleton.mp hz]
              exact ph v hv
        · rintro σ' H7 ⟨y7, c7, spots, rfl, hS7, hc7, fr7, es7, e7, l7, p7⟩
          exact hN _ _ ⟨_, _, c7, spots, rfl, hS7, by omega, fr7, es7, by omega, p7⟩
      · rintro H5 ⟨c5, hS5, hc5, fr5, es5, e5, ne⟩
        exact hN _ _ ⟨_, _, c5, held, rfl, hS5, by omega, fr5, es5, lh, ph⟩
      · intro Q' hQ'
        refine ⟨_, rfl, Nat.zero_le _, fun e he => ?_⟩
        have sm : Same H4 (upd H4 e (.lst [])) := same_upd he
        have hS5 := hS4.same sm
        have fr5 := fr4.trans (Fr.of sm)
        have e5 := sm _ _ e4
        have es5 := sm _ _ es4
        refine ⟨.list (held.map .int), .list [], .lst (SqL.of e5) (dp_ints held), .lst (SqL.of upd_same) .nil, shaped_list held, shaped_list [], _, rfl, ?_⟩
        rw [eqv_nil]
        generalize upd H4 e (.lst []) = H5 at *
        cases held with
        | nil => exact iteF (hQ' _ _ ⟨c + 9, hS5, by omega, fr5, es5, e5, fun h => nomatch h⟩)
        | cons x0 hr0 =>
          refine iteT ⟨_, rfl, s, A, B, c + 9, _, rfl, hS5, by omega, by decide, by decide, fun H6 x hS6 fr6 x0 x1 => ⟨rfl, _, rfl, ?_⟩⟩
          exact hQ' _ _ ⟨c + 9 + 1, hS6, by omega, fr5.trans fr6, fr6 _ _ zS.1.symm zS.2.1.symm es5, fr6 _ _ zM.1.symm zM.2.1.symm e5, fun _ => List.cons_ne_nil _ _⟩
    clear e4 es4 fr4 hS4
    rintro σ' H5 ⟨y5, y7, c5, spots, rfl, hS5, hc5, fr5, es5, l5, p5⟩
    refine ⟨Nat.zero_le _, fun R hR => ?_⟩
    have zR := hS5.ne hR
    have gR := fr5.free hS5 hR
    have nSR : S ≠ R := ne_of_none es5 hR
    have hS6 := hS5.same (same_upd (o := .lst []) hR)
    have fr6 := fr5.trans (Fr.of (same_upd (o := .lst []) hR))
    have es6 := same_upd (o := .lst []) hR _ _ es5
    have eR6 : (upd H5 R (.lst [])) R = some (.lst []) := upd_same
    generalize upd H5 R (.lst []) = H6 at *
    clear hS5 fr5 es5 hR
    refine ⟨_, rfl, _, rfl, S, _, rfl, .inl (SqL.of es6), s, A, B, c5, _, rfl, hS6, by omega, by omega, ?_, fun H7 NL ns hS7 fr7 hNL eN lN nN nR => ?_⟩
    · rw [List.length_map]; omega
    have zN := hS6.ne hNL
    have gN := fr6.free hS6 hNL
    have nSN : S ≠ NL := ne_of_none es6 hNL
    have nRN : R ≠ NL := ne_of_none eR6 hNL
    rw [List.length_map] at lN
    have lN : ns.length = spots.length := by omega
    refine ⟨NL, rfl, ⟨_, SqL.of eN⟩, for_list (K := K) (a := NL) (xs := ns.map V.str) (fun i σ' H' => ∃ (y9 : Option V) (sp : List Int) (ps : List (Addr × Str × Int)), σ' = [some (.ref s), some (.ref h), some (.int m), some (.int sh), some (.ref M), y5, some (.ref S), y7, some (.ref R), y9] ∧ StreamAt H' s A B (c5 + 10 + i) ∧ Fr s A H H' ∧ H' NL = some (.lst (ns.map V.str)) ∧ H' S = some (.lst (vi sp)) ∧ sp.length + i = ns.length ∧ (∀ y ∈ sp, 0 ≤ y ∧ y < n) ∧
        H' R = some (.lst (ps.map fun q => V.ref q.1)) ∧ (ps.map (·.2.1)) = ns.take i ∧ (∀ q ∈ ps, H' q.1 = some (.tup [.str q.2.1, .int q.2.2])) ∧ ∀ q ∈ ps, 0 ≤ q.2.2 ∧ q.2.2 < n)
      ⟨_, spots, [], rfl, hS7, fr6.trans fr7, eN, fr7 _ _ zS.1.symm zS.2.1.symm es6, by omega, p5, fr7 _ _ zR.1.symm zR.2.1.symm eR6, rfl, fun q hq => absurd hq List.not_mem_nil, fun q hq => absurd hq List.not_mem_nil⟩ ?_ ?_ ?_⟩
    · rintro i σ' H' _ ⟨y9, sp, ps, _, _, _, e', _⟩
      exact SqL.of e'
    · rintro i x σ' H8 hx ⟨y9, sp, ps, rfl, hS8, fr8, eN8, es8, l8, p8, eR8, en8, ep8, pr8⟩
      obtain ⟨nm, hnm, rfl⟩ := get_vs hx
      have hi : i < ns.length := (List.getElem?_eq_some_iff.mp hnm).1
      have hps : ps.length = i := by
        have := congrArg List.length en8
        rw [List.length_map, List.length_take] at this
        omega
      refine ⟨_, rfl, .inl ⟨rfl, _, SqL.of eR8⟩, _, rfl, _, rfl, .inl ⟨rfl, _, SqL.of es8⟩, _, rfl, _, rfl, S, _, rfl, .inl (SqL.of es8), s, A, B, c5 + 10 + i, _, rfl, hS8, by omega, ?_, ?_, fun H9 r hS9 fr9 r0 r1 => ?_⟩
      · rw [List.length_map]; omega
      · rw [List.length_map]; omega
      rw [List.length_map] at r1
      have hj : r.toNat < sp.length := by omega
      have ixr : ixN (vi sp).length r = some r.toNat := by
        unfold ixN
        rw [List.length_map, if_pos r0, if_pos r1]
      have gx : (vi sp)[r.toNat]? = some (V.int sp[r.toNat]) := by
        rw [List.getElem?_map, List.getElem?_eq_getElem hj]
        rfl
      have es9 := fr9 _ _ zS.1.symm zS.2.1.symm es8
      refine ⟨S, _, r, r.toNat, _, rfl, rfl, es9, by omega, by omega, (ixN_seq ixr).1, gx, by show 2 ≤ sizeLine; decide, fun t ht => ?_⟩
      have zt := (hS9.put (o := .lst ((vi sp).eraseIdx r.toNat)) zS).ne ht
      have hS10 := (hS9.put (o := .lst ((vi sp).eraseIdx r.toNat)) zS)
      have fr10 := (fr8.trans fr9).put (o := .lst ((vi sp).eraseIdx r.toNat)) fS
      have eR10 : (upd H9 S (.lst ((vi sp).eraseIdx r.toNat))) R = _ := (upd_ne nSR.symm).trans (fr9 _ _ zR.1.symm zR.2.1.symm eR8)
      have eN10 : (upd H9 S (.lst ((vi sp).eraseIdx r.toNat))) NL = _ := (upd_ne nSN.symm).trans (fr9 _ _ zN.1.symm zN.2.1.symm eN8)
      have es10 : (upd H9 S (.lst ((vi sp).eraseIdx r.toNat))) S = some (.lst (vi (sp.eraseIdx r.toNat))) := by rw [upd_same, vi_erase]
      have ep10 : ∀ q ∈ ps, (upd H9 S (.lst ((vi sp).eraseIdx r.toNat))) q.1 = some (.tup [.str q.2.1, .int q.2.2]) := fun q hq => by
        have := fr9.tup hS8 (ep8 q hq)
        rw [upd_ne (ne_of this es9 (by intro z; cases z))]
        exact this
      generalize upd H9 S (.lst ((vi sp).eraseIdx r.toNat)) = H10 at *
      have sm := same_upd (o := .tup [.str nm, .int sp[r.toNat]]) ht
      have eR11 := sm _ _ eR10
      have et : (upd H10 t (.tup [.str nm, .int sp[r.toNat]])) t = some (.tup [.str nm, .int sp[r.toNat]]) := upd_same
      have ep11 : ∀ q ∈ ps, (upd H10 t (.tup [.str nm, .int sp[r.toNat]])) q.1 = some (.tup [.str q.2.1, .int q.2.2]) := fun q hq => sm _ _ (ep10 q hq)
      have hS11 := hS10.same sm
      have fr11 := fr10.trans (Fr.of sm)
      have es11 := sm _ _ es10
      have eN11 := sm _ _ eN10
      generalize upd H10 t (.tup [.str nm, .int sp[r.toNat]]) = H11 at *
      refine ⟨R, _, _, rfl, rfl, eR11, ?_, _, sp.eraseIdx r.toNat, ps ++ [(t, nm, sp[r.toNat])], rfl, (hS11.put zR), fr11.put gR, ?_, ?_, ?_, ?_, ?_, ?_, ?_, ?_⟩
      · rw [List.length_map]
        exact small1000 (by omega)
      · rw [upd_ne nRN.symm]
        exact eN11
      · rw [upd_ne nSR]
        exact es11
      · rw [List.length_eraseIdx, if_pos hj]
        omega
      · intro y hy
        exact p8 y (List.mem_of_mem_eraseIdx hy)
      · rw [upd_same, List.map_append]
        rfl
      · rw [List.map_append, List.take_add_one, hnm, en8]
        rfl
      · intro q hq
        rcases List.mem_append.mp hq with hq | hq
        · rw [upd_ne (ne_of (ep11 q hq) eR11 (by intro z; cases z))]
          exact ep11 q hq
        · rw [List.mem_singleton.mp hq]
          rw [upd_ne (ne_of et eR11 (by intro z; cases z))]
          exact et
      · intro q hq
        rcases List.mem_append.mp hq with hq | hq
        · exact pr8 q hq
        · rw [List.mem_singleton.mp hq]
          exact p8 _ (List.getElem_mem hj)
    · rintro σ' H8 ⟨y9, sp, ps, rfl, hS8, fr8, eN8, es8, l8, p8, eR8, en8, ep8, pr8⟩
      rw [List.length_map, List.take_length] at en8
      rw [List.length_map] at hS8 l8
      refine ⟨_, rfl, R, _, rfl, SqL.of eR8, fun t ob ht od => ?_⟩
      have sm := same_upd (o := .frz ob (.tup (ps.map fun q => V.ref q.1))) ht
      refine q _ t (ps.map (·.2)) ((hS8.same sm).mono (by omega)) (fr8.trans (Fr.of sm)) ⟨ps, ob, od, upd_same, rfl, fun q hq => sm _ _ (ep8 q hq)⟩ ⟨?_, ?_⟩ ?_ ?_
      · rw [List.map_map]
        show Names (ps.map (·.2.1))
        rw [en8]
        exact nN
      · intro x hx
        obtain ⟨q, hq, rfl⟩ := List.mem_map.mp hx
        exact pr8 q hq
      · have := congrArg List.length en8
        rw [List.length_map] at this
        rw [List.length_map]
        omega
      · rw [List.map_map]
        show S' (ps.map (·.2.1))
        rw [en8]
        exact nR
theorem ok_plR {R : Str → Prop} {f : Addr} {fd : FuncData} (F : Fun K "_law_placement" "_law_placement" sPl f fd) (T : Nm mg) (C_law_draw : Cal P w K mg base 1 "_law_draw" pDraw spDraw) (C_law_names : Cal P w K mg base 2 "_law_names" pDraw (spNamesR R)) : FnOk P w K mg base CX0 3 f fd pPl (spPlR R) :=
  (ok_plS F T C_law_draw C_law_names).imp fun vs H Q E ⟨s, A, B, h, c, n, D, m, e, hS, hc, hH, n0, n1, m0, m1, q⟩ => ⟨s, A, B, h, c, n, D, m, e, hS, hc, hH, n0, n1, m0, m1, fun H' p P a b c d e f => q H' p P a b c d e fun x hx => f x.1 (List.mem_map_of_mem (f := (·.1)) hx)⟩
theorem ok_pl {f : Addr} {fd : FuncData} (F : Fun K "_law_placement" "_law_placement" sPl f fd) (T : Nm mg) (C_law_draw : Cal P w K mg base 1 "_law_draw" pDraw spDraw) (C_law_names : Cal P w K mg base 2 "_law_names" pDraw spNames) : FnOk P w K mg base CX0 3 f fd pPl spPl :=
  (ok_plR (R := fun _ => True) F T C_law_draw (names_all C_law_names fun _ => trivial)).imp fun vs H Q E ⟨s, A, B, h, c, n, D, m, e, hS, hc, hH, n0, n1, m0, m1, q⟩ => ⟨s, A, B, h, c, n, D, m, e, hS, hc, hH, n0, n1, m0, m1, fun H' p P a b c d e _ => q H' p P a b c d e⟩
end
end Fw
namespace Fw
open PySem PySem.Spec PyProof.Rows L2
/-! ### what a walk over a placement needs: tuples stay -/
structure Tk (H H' : Hp) : Prop where
  t : ∀ {b : Addr} {xs : List V}, H b = some (.tup xs) → H' b = some (.tup xs)
  f : ∀ {b : Addr} {o : Obj} {xs : List V}, H b = some (.frz o (.tup xs)) → H' b = some (.frz o (.tup xs))
theorem Tk.refl {H : Hp} : Tk H H := ⟨fun e => e, fun e => e⟩
theorem Tk.of {H H' : Hp} (h : Same H H') : Tk H H' := ⟨fun e => h _ _ e, fun e => h _ _ e⟩
theorem Tk.trans {H H1 H2 : Hp} (a : Tk H H1) (b : Tk H1 H2) : Tk H H2 := ⟨fun e => b.t (a.t e), fun e => b.f (a.f e)⟩
theorem Tk.fr {s A B : Addr} {c : Nat} {H H' : Hp} (f : Fr s A H H') (hS : StreamAt H s A B c) : Tk H H' := ⟨fun e => f.tup hS e, fun e => f.frz hS e⟩
theorem Tk.put {H H' : Hp} (a : Tk H H') {L : Addr} {xs : List V} {o : HO} (h : H' L = some (.lst xs)) : Tk H (upd H' L o) := by
  refine ⟨fun e => ?_, fun e => ?_⟩
  · rw [upd_ne (ne_of (a.t e) h (by intro z; cases z))]
    exact a.t e
  · rw [upd_ne (ne_of (a.f e) h (by intro z; cases z))]
    exact a.f e
theorem Tk.putD {H H' : Hp} (a : Tk H H') {L : Addr} {xs : List (Key × V)} {o : HO} (h : H' L = some (.dK xs)) : Tk H (upd H' L o) := by
  refine ⟨fun e => ?_, fun e => ?_⟩
  · rw [upd_ne (ne_of (a.t e) h (by intro z; cases z))]
    exact a.t e
  · rw [upd_ne (ne_of (a.f e) h (by intro z; cases z))]
    exact a.f e
theorem Tk.new {H H' : Hp} (a : Tk H H') {L : Addr} {o : HO} (h : H' L = none) : Tk H (upd H' L o) := a.trans (Tk.of (same_upd h))
theorem HouseAt.tk {H H' : Hp} {h : Addr} {n : Int} {D : List (Int × Int)} (x : HouseAt H h n D) (e : Tk H H') : HouseAt H' h n D := by
  obtain ⟨q, ps, h1, h2, h3, h4⟩ := x
  exact ⟨q, ps, e.t h1, e.t h2, h3, fun p hp => e.t (h4 p hp)⟩
theorem TpAt.tk {H H' : Hp} {p : Addr} {xs : List V} (x : TpAt H p xs) (e : Tk H H') : TpAt H' p xs := x.elim (fun h => .inl (e.t h)) fun ⟨o, d, h⟩ => .inr ⟨o, d, e.f h⟩
theorem PlAt.tk {H H' : Hp} {p : Addr} {P : List (Str × Int)} (x : PlAt H p P) (e : Tk H H') : PlAt H' p P := by
  obtain ⟨ps, h1, h2, h3⟩ := x
  exact ⟨ps, h1.tk e, h2, fun q hq => e.t (h3 q hq)⟩
theorem PlD.tk {H H' : Hp} {p : Addr} {P : List (Str × Int)} (x : PlD H p P) (e : Tk H H') : PlD H' p P := by
  obtain ⟨ps, o, d, h1, h2, h3⟩ := x
  exact ⟨ps, o, d, e.f h1, h2, fun q hq => e.t (h3 q hq)⟩
theorem get_pl {ps : List (Addr × Str × Int)} {i : Nat} {x : V} (h : (ps.map fun p => V.ref p.1)[i]? = some x) : ∃ p, ps[i]? = some p ∧ x = .ref p.1 := by
  rw [List.getElem?_map] at h
  cases e : ps[i]? with
  | none => rw [e] at h; cases h
  | some v => rw [e] at h; exact ⟨v, rfl, (Option.some.inj h).symm⟩
/-- a comprehension over a placement -/
theorem lc_pl {K : PySem.W.Frag} {p : Addr} {P : List (Str × Int)} {i j : Nat} {tt : TT} {te : TE} {vs : List Nat} {σ : L2.St} {H1 : Hp} {D : Addr} {Qd : Hp → Prop} (x : PlAt H1 p P) (Pv : Nat → Hp → Prop) (h0 : Pv 0 (upd H1 D (.lst []))) (hl : ∀ k H, Pv k H → Tk H1 H)
    (hs : ∀ k nm r H, P[k]? = some (nm, r) → Pv k H → wipe (((wipe σ vs).set i (some (.str nm))).set j (some (.int r))) vs = wipe σ vs ∧ tt (((wipe σ vs).set i (some (.str nm))).set j (some (.int r))) H fun b H3 =>
      if b = true then te (((wipe σ vs).set i (some (.str nm))).set j (some (.int r))) H3 fun y H4 => ∃ acc, H4 D = some (.lst acc) ∧ acc.length < sizeLine ∧ Pv (k + 1) (upd H4 D (.lst (acc ++ [y]))) else Pv (k + 1) H3) (hd : ∀ H, Pv P.length H → Qd H) :
    ∃ W : Nat → Nat → Hp → Prop, (∃ m, W 0 m (upd H1 D (.lst []))) ∧ ∀ k m H, W k m H →
      ((Itt K p).stop k H ∧ Qd H) ∨ ((Itt K p).go k H ∧ ∃ Nx : Hp → Prop, (∀ H', Nx H' → ∃ m', m' < m ∧ W (k + 1) m' H') ∧ ∀ x H', (Itt K p).yld k H x H' → gTup K 2 (gCons (gName i) (gCons (gName j) gNil)) x (wipe σ vs) H' fun σ2 H2 => wipe σ2 vs = wipe σ vs ∧ tt σ2 H2 fun b H3 =>
        if b = true then te σ2 H3 fun y H4 => ∃ acc, H4 D = some (.lst acc) ∧ acc.length < sizeLine ∧ Nx (upd H4 D (.lst (acc ++ [y]))) else Nx H3) := by
  obtain ⟨ps, h1, rfl, h3⟩ := x
  refine lc_tup (K := K) (a := p) (xs := ps.map fun q => V.ref q.1) Pv h0 (fun i H _ hp => (h1.tk (hl i H hp)).sq) (fun k x H hx hp => ?_) (fun H hp => hd H (by rw [List.length_map] at hp ⊢; exact hp))
  obtain ⟨q, hq, rfl⟩ := get_pl hx
  refine ⟨q.1, _, rfl, SqT.of ((hl k H hp).t (h3 q (List.mem_of_getElem? hq))), rfl, _, _, rfl, _, _, rfl, rfl, ?_⟩
  exact hs k q.2.1 q.2.2 H (by rw [List.getElem?_map, hq]; rfl) hp
/-- a loop over a placement -/
theorem for_pl {K : PySem.W.Frag} {p : Addr} {P : List (Str × Int)} {i j : Nat} {tb : TS} {D : Ends} {σ : L2.St} {H0 H : Hp} (x : PlAt H0 p P) (Pv : Nat → L2.St → Hp → Prop) (h0 : Pv 0 σ H) (hl : ∀ k σ H, Pv k σ H → Tk H0 H)
    (hs : ∀ k nm r σ H, P[k]? = some (nm, r) → Pv k σ H → tb { D with nx := Pv (k + 1), ct := Pv (k + 1), bk := D.nx } ((σ.set i (some (.str nm))).set j (some (.int r))) H) (hd : ∀ σ H, Pv P.length σ H → D.nx σ H) :
    ∃ W : Nat → Nat → L2.St → Hp → Prop, (∃ m, W 0 m σ H) ∧ ∀ k m σ H, W k m σ H →
      ((Itt K p).stop k H ∧ D.nx σ H) ∨ ((Itt K p).go k H ∧ ∃ N : L2.St → Hp → Prop, (∀ σ' H', N σ' H' → ∃ m', m' < m ∧ W (k + 1) m' σ' H') ∧ ∀ x H', (Itt K p).yld k H x H' → gTup K 2 (gCons (gName i) (gCons (gName j) gNil)) x σ H' fun σ2 H2 => tb { D with nx := N, ct := N, bk := D.nx } σ2 H2) := by
  obtain ⟨ps, h1, rfl, h3⟩ := x
  refine for_tup (K := K) (a := p) (xs := ps.map fun q => V.ref q.1) Pv h0 (fun i σ H _ hp => (h1.tk (hl i σ H hp)).sq) (fun k x σ H hx hp => ?_) (fun σ H hp => hd σ H (by rw [List.length_map] at hp ⊢; exact hp))
  obtain ⟨q, hq, rfl⟩ := get_pl hx
  refine ⟨q.1, _, rfl, SqT.of ((hl k σ H hp).t (h3 q (List.mem_of_getElem? hq))), rfl, _, _, rfl, _, _, rfl, rfl, ?_⟩
  exact hs k q.2.1 q.2.2 σ H (by rw [List.getElem?_map, hq]; rfl) hp
theorem PlAt.sq {K : PySem.W.Frag} {H : Hp} {p : Addr} {P : List (Str × Int)} (x : PlAt H p P) : ∃ xs, SqT K H p xs := by
  obtain ⟨ps, h1, _⟩ := x
  exact ⟨_, h1.sq⟩
theorem inV_vi (x : Int) (R : List Int) : inV (.int x) (vi R) = decide (x ∈ R) := by
  unfold inV
  rw [Bool.eq_iff_iff, List.any_eq_true, decide_eq_true_eq]
  constructor
  · rintro ⟨y, hy, e⟩
    obtain ⟨z, hz, rfl⟩ := List.mem_map.mp hy
    have : z = x := by simpa [eqV] using e
    exact this ▸ hz
  · intro h
    exact ⟨.int x, List.mem_map_of_mem h, by simp [eqV]⟩
theorem flat_vi (R : List Int) : (vi R).all flatV = true := by
  rw [List.all_eq_true]
  intro x hx
  obtain ⟨z, _, rfl⟩ := List.mem_map.mp hx
  rfl
theorem take_snoc {α : Type} {xs : List α} {k : Nat} {x : α} (h : xs[k]? = some x) : xs.take (k + 1) = xs.take k ++ [x] := by
  rw [List.take_add_one, h]
  rfl
theorem filter_snoc {α : Type} (f : α → Bool) (xs : List α) (x : α) : (xs ++ [x]).filter f = xs.filter f ++ if f x = true then [x] else [] := by
  rw [List.filter_append]
  congr 1
  by_cases c : f x = true
  · rw [if_pos c, List.filter_cons_of_pos c]
    rfl
  · rw [if_neg c, List.filter_cons_of_neg c]
    rfl
theorem lt_of_get {α : Type} {xs : List α} {k : Nat} {x : α} (h : xs[k]? = some x) : k < xs.length := (List.getElem?_eq_some_iff.mp h).1
theorem sqT_same {K : PySem.W.Frag} {H H' : Hp} {a : Addr} {xs : List V} (e : Same H H') (h : SqT K H a xs) : SqT K H' a xs :=
  h.imp (Or.imp (e a _) fun ⟨o, x⟩ => ⟨o, e a _ x⟩) id
end Fw
namespace Fw
open PySem PySem.Spec PyProof.Rows L2
/-- who is in the rooms R -/
def inside (P : List (Str × Int)) (R : List Int) : List Str := (P.filter fun x => decide (x.2 ∈ R)).map (·.1)
theorem inside_snoc {P : List (Str × Int)} {R : List Int} {k : Nat} {nm : Str} {r : Int} (h : P[k]? = some (nm, r)) : inside (P.take (k + 1)) R = inside (P.take k) R ++ if r ∈ R then [nm] else [] := by
  unfold inside
  rw [take_snoc h, filter_snoc, List.map_append]
  congr 1
  by_cases c : r ∈ R
  · rw [if_pos c, if_pos (by simpa using c)]
    rfl
  · rw [if_neg c, if_neg (by simpa using c)]
    rfl
theorem inside_len (P : List (Str × Int)) (R : List Int) : (inside P R).length ≤ P.length := by
  unfold inside
  rw [List.length_map]
  exact List.length_filter_le _ _
theorem inside_nil {P : List (Str × Int)} {R : List Int} : inside P R = [] ↔ ∀ x ∈ P, x.2 ∉ R := by
  unfold inside
  rw [List.map_eq_nil_iff, List.filter_eq_nil_iff]
  simp
theorem key_uniq {P : List (Str × Int)} (nd : (P.map (·.1)).Nodup) {x y : Str × Int} (hx : x ∈ P) (hy : y ∈ P) (e : x.1 = y.1) : x = y := by
  induction P with
  | nil => cases hx
  | cons z P ih =>
    rw [List.map_cons, List.nodup_cons] at nd
    rcases List.mem_cons.mp hx with h1 | h1 <;> rcases List.mem_cons.mp hy with h2 | h2
    · rw [h1, h2]
    · exact absurd (List.mem_map_of_mem (f := (·.1)) h2) (by rw [← e, h1]; exact nd.1)
    · exact absurd (List.mem_map_of_mem (f := (·.1)) h1) (by rw [e, h2]; exact nd.1)
    · exact ih nd.2 h1 h2
section
variable {P : Program} {w : World} {K : PySem.W.Frag} {mg : Str → Option Value} {base : Heap}
def spPWi (K : PySem.W.Frag) : Sp := fun vs H Q _ => ∃ (p t : Addr) (P : List (Str × Int)) (R : List Int), vs = [.ref p, .ref t] ∧ PlAt H p P ∧ SqT K H t (vi R) ∧ P.length ≤ 100 ∧
  ∀ H' u, Same H H' → H' u = some (.tup ((inside P R).map V.str)) → Q (.ref u) H'
abbrev nPWi : List Str := ["placement", "rooms", "name", "room"]
theorem scPWi : FnScope nPWi ["placement", "rooms"] (defScope sPWi) := ⟨rfl, rfl, rfl, by decide +kernel, rfl, by decide +kernel, by decide +kernel⟩
theorem ok_pwi {f : Addr} {fd : FuncData} {k : Nat} (F : Fun K "people_within" "people_within" sPWi f fd) (T : Nm mg) : FnOk P w K mg base CX0 (k + 1) f fd pPWi (spPWi K) := by
  refine F.ok scPWi (fun vs H Q E h => ?_) (fun cdv A outer s H vs Q E hr h => ?_)
  · obtain ⟨p, t, P, R, rfl, _⟩ := h
    rfl
  · obtain ⟨p, t, P, R, rfl, hP, hR, hl, q⟩ := h
    refine ⟨_, (pss_one (ps_ret (pe_callTy call_tuple_of (by rfl) T.tuple (by decide +kernel) (pa_cons (pe_lc (own := [("name", 2), ("room", 3)]) (g := gTup K 2 (gCons (gName 2) (gCons (gName 3) gNil))) (by rfl) scPWi.nd (pi_tup (pv 0))
 (blkOk_by (own := [("name", 2), ("room", 3)]) (N := nPWi) (sc := defScope sPWi) (by decide +kernel))
 (fun _ _ _ _ _ => (pg_tup (by rfl) (pgs_cons (pg_name (i := 2) scPWi.nd rfl (.inl rfl)) (pgs_cons (pg_name (i := 3) scPWi.nd rfl (.inl rfl)) pgs_nil)))) (fun _ _ _ _ _ => pts_one (pt_cmpR (op_inK K rfl) (pv 3) (pv 1) (by rfl))) (fun _ _ _ _ _ => (pv 2))) pa_nil)))), ?_⟩
    refine ⟨_, rfl, p, rfl, hP.sq, fun L hL => lc_pl hP (fun i H1 => Same H H1 ∧ H1 L = some (.lst ((inside (P.take i) R).map V.str))) ⟨same_upd hL, upd_same⟩ (fun _ _ h => Tk.of h.1) ?_ ?_⟩
    · rintro k nm r H1 hk ⟨s1, e1⟩
      refine ⟨rfl, _, rfl, _, rfl, t, _, rfl, .inr (sqT_same s1 hR), rfl, flat_vi R, _, rfl, ?_⟩
      rw [if_neg (by decide), inV_vi, inside_snoc hk]
      refine ite2 (fun c => ?_) (fun c => ?_)
      · rw [if_pos (of_decide_eq_true c)]
        refine ⟨_, rfl, _, e1, ?_, same_put s1 hL, ?_⟩
        · rw [List.length_map]
          have h1 := inside_len (P.take k) R
          rw [List.length_take] at h1
          exact small1000 (by omega)
        · rw [upd_same, vs_app]
          rfl
      · rw [if_neg (fun z => c (decide_eq_true z)), List.append_nil]
        exact ⟨s1, e1⟩
    · rintro H1 ⟨s1, e1⟩
      rw [List.take_length] at e1
      exact ⟨L, _, rfl, .inl ⟨SqL.of e1, fun t ht => q _ t (s1.trans (same_upd ht)) upd_same⟩⟩

def spPIn : Sp := fun vs H Q _ => ∃ (p : Addr) (P : List (Str × Int)) (r : Int), vs = [.ref p, .int r] ∧ PlAt H p P ∧ P.length ≤ 100 ∧
  ∀ H' u, Same H H' → H' u = some (.tup ((inside P [r]).map V.str)) → Q (.ref u) H'
abbrev nPIn : List Str := ["placement", "room"]
theorem scPIn : FnScope nPIn ["placement", "room"] (defScope sPIn) := ⟨rfl, rfl, rfl, by decide +kernel, rfl, by decide +kernel, by decide +kernel⟩
theorem ok_pin {f : Addr} {fd : FuncData} {k : Nat} (F : Fun K "people_in" "people_in" sPIn f fd) (T : Nm mg) (Cpeople_within : Cal P w K mg base (k + 1) "people_within" pPWi (spPWi K)) : FnOk P w K mg base CX0 (k + 2) f fd pPIn spPIn := by
  refine F.ok scPIn (fun vs H Q E h => ?_) (fun cdv A outer s H vs Q E hr h => ?_)
  · obtain ⟨p, P, r, rfl, _⟩ := h
    rfl
  · obtain ⟨p, P, r, rfl, hP, hl, q⟩ := h
    refine ⟨_, (pss_one (ps_ret (pe_cal Cpeople_within hr (by rfl) (pa_cons (pv 0) (pa_cons (pe_tup (pa_cons (pv 1) pa_nil)) pa_nil))))), ?_⟩
    refine ⟨_, rfl, _, rfl, by show 1 ≤ sizeLine; decide, fun t ht => ⟨p, t, P, [r], rfl, hP.same (same_upd ht), SqT.of upd_same, hl, fun H' u s1 e1 => q _ u ((same_upd ht).trans s1) e1⟩⟩

end
end Fw
namespace Fw
open PySem PySem.Spec PyProof.Rows L2
/-! ### a list of pairs (name, room) -/
def LsAt (H : Hp) (l : Addr) (X : List (Str × Int)) : Prop := ∃ ps : List (Addr × Str × Int), H l = some (.lst (ps.map fun q => V.ref q.1)) ∧ X = ps.map (·.2) ∧ ∀ q ∈ ps, H q.1 = some (.tup [.str q.2.1, .int q.2.2])
theorem LsAt.nil {H : Hp} {l : Addr} (h : H l = some (.lst [])) : LsAt H l [] := ⟨[], h, rfl, fun q hq => absurd hq List.not_mem_nil⟩
theorem LsAt.same {H H' : Hp} {l : Addr} {X : List (Str × Int)} (x : LsAt H l X) (e : Same H H') : LsAt H' l X := by
  obtain ⟨ps, h1, h2, h3⟩ := x
  exact ⟨ps, e _ _ h1, h2, fun q hq => e _ _ (h3 q hq)⟩
theorem LsAt.fr {s A B : Addr} {c : Nat} {H H' : Hp} {l : Addr} {X : List (Str × Int)} (x : LsAt H l X) (hS : StreamAt H s A B c) (e : Fr s A H H') (z : s ≠ l ∧ A ≠ l ∧ B ≠ l) : LsAt H' l X := by
  obtain ⟨ps, h1, h2, h3⟩ := x
  exact ⟨ps, e _ _ z.1.symm z.2.1.symm h1, h2, fun q hq => e.tup hS (h3 q hq)⟩
theorem LsAt.snoc {H : Hp} {l t : Addr} {X : List (Str × Int)} {a : Str} {b : Int} (x : LsAt H l X) (ht : H t = some (.tup [.str a, .int b])) : ∃ acc, H l = some (.lst acc) ∧ acc.length = X.length ∧ LsAt (upd H l (.lst (acc ++ [.ref t]))) l (X ++ [(a, b)]) := by
  obtain ⟨ps, h1, h2, h3⟩ := x
  refine ⟨_, h1, by rw [h2, List.length_map, List.length_map], ps ++ [(t, a, b)], ?_, by rw [h2, List.map_append]; rfl, fun q hq => ?_⟩
  · rw [upd_same, List.map_append]
    rfl
  · have : H q.1 = some (.tup [.str q.2.1, .int q.2.2]) := by
      rcases List.mem_append.mp hq with hq | hq
      · exact h3 q hq
      · rw [List.mem_singleton.mp hq]
        exact ht
    rw [upd_ne (ne_of this h1 (by intro z; cases z))]
    exact this
theorem LsAt.tup {H : Hp} {l : Addr} {X : List (Str × Int)} (x : LsAt H l X) : ∃ xs, H l = some (.lst xs) ∧ ∀ (t : Addr) (ob : Obj), H t = none → ob.dict = none → PlD (upd H t (.frz ob (.tup xs))) t X := by
  obtain ⟨ps, h1, h2, h3⟩ := x
  exact ⟨_, h1, fun t ob ht od => ⟨ps, ob, od, upd_same, h2, fun q hq => same_upd ht _ _ (h3 q hq)⟩⟩
/-- the placement after a move -/
def mvd (P : List (Str × Int)) (nm : Str) (r : Int) : List (Str × Int) := P.map fun x => (x.1, if x.1 = nm then r else x.2)
theorem mvd_len (P : List (Str × Int)) (nm : Str) (r : Int) : (mvd P nm r).length = P.length := by unfold mvd; rw [List.length_map]
theorem mvd_names (P : List (Str × Int)) (nm : Str) (r : Int) : (mvd P nm r).map (·.1) = P.map (·.1) := by
  unfold mvd
  rw [List.map_map]
  rfl
theorem mvd_get {P : List (Str × Int)} {nm : Str} {r : Int} {k : Nat} {n' : Str} {r' : Int} (h : P[k]? = some (n', r')) : (mvd P nm r)[k]? = some (n', if n' = nm then r else r') := by
  unfold mvd
  rw [List.getElem?_map, h]
  rfl
theorem Pl.mvd {n : Int} {P : List (Str × Int)} (h : Pl n P) {nm : Str} {r : Int} (h0 : 0 ≤ r) (h1 : r < n) : Pl n (mvd P nm r) := by
  refine ⟨by rw [mvd_names]; exact h.nm, fun x hx => ?_⟩
  obtain ⟨y, hy, rfl⟩ := List.mem_map.mp hx
  show 0 ≤ (if y.1 = nm then r else y.2) ∧ (if y.1 = nm then r else y.2) < n
  split
  · exact ⟨h0, h1⟩
  · exact h.rm y hy
/-- all moves -/
def mvs (n : Int) (D : List (Int × Int)) (P : List (Str × Int)) (X : List (Str × Int)) : List (Str × Int) := X.flatMap fun x => ((nb n D x.2).filter fun t => decide (t ∈ P.map (·.2))).map fun t => (x.1, t)
theorem str_dec (a b : Str) : decide (V.str a = V.str b) = decide (a = b) := by
  rw [Bool.eq_iff_iff, decide_eq_true_eq, decide_eq_true_eq]
  exact ⟨V.str.inj, fun e => by rw [e]⟩
theorem k_ii' : kitB "int" "int" = some true := by decide +kernel
theorem k_ib' : kitB "int" "bool" = some false := by decide +kernel
section
variable {P : Program} {w : World} {K : PySem.W.Frag} {mg : Str → Option Value} {base : Heap}
def spLMoved : Sp := fun vs H Q _ => ∃ (p : Addr) (P : List (Str × Int)) (nm : Str) (r : Int), vs = [.ref p, .str nm, .int r] ∧ PlAt H p P ∧ P.length ≤ 100 ∧ ∀ H' u, Same H H' → PlD H' u (mvd P nm r) → Q (.ref u) H'
abbrev nLMoved : List Str := ["_law_placement_here", "_law_name", "_law_room", "_law_one", "_law_here"]
theorem scLMoved : FnScope nLMoved ["_law_placement_here", "_law_name", "_law_room"] (defScope sLMoved) := ⟨rfl, rfl, rfl, by decide +kernel, rfl, by decide +kernel, by decide +kernel⟩
theorem ok_lmoved {f : Addr} {fd : FuncData} {k : Nat} (F : Fun K "_law_moved" "_law_moved" sLMoved f fd) (T : Nm mg) : FnOk P w K mg base CX0 (k + 1) f fd pLMoved spLMoved := by
  refine F.ok scLMoved (fun vs H Q E h => ?_) (fun cdv A outer s H vs Q E hr h => ?_)
  · obtain ⟨p, P, nm, r, rfl, _⟩ := h
    rfl
  · obtain ⟨p, P, nm, r, rfl, hP, hl, q⟩ := h
    refine ⟨_, (pss_one (ps_ret (pe_callTy (call_tupleF K rfl) (by rfl) T.tuple (by decide +kernel) (pa_cons (pe_lc (own := [("_law_one", 3), ("_law_here", 4)]) (g := gTup K 2 (gCons (gName 3) (gCons (gName 4) gNil))) (by rfl) scLMoved.nd (pi_tup (pv 0))
 (blkOk_by (own := [("_law_one", 3), ("_law_here", 4)]) (N := nLMoved) (sc := defScope sLMoved) (by decide +kernel))
 (fun _ _ _ _ _ => (pg_tup (by rfl) (pgs_cons (pg_name (i := 3) scLMoved.nd rfl (.inl rfl)) (pgs_cons (pg_name (i := 4) scLMoved.nd rfl (.inl rfl)) pgs_nil)))) (fun _ _ _ _ _ => pts_nil) (fun _ _ _ _ _ => (pe_tup (pa_cons (pv 3) (pa_cons (pe_ix (ix_listK K rfl) (pe_lst (pa_cons (pv 4) (pa_cons (pv 2) pa_nil))) (pe_callTy call_int1 (by rfl) T.int (by decide +kernel) (pa_cons (pe_cmpR op_eq (pv 3) (pv 1) (nomark _)) pa_nil)) (fun _ _ => rfl)) pa_nil))))) pa_nil)))), ?_⟩
    refine ⟨_, rfl, p, rfl, hP.sq, fun L hL => lc_pl hP (fun i H1 => Same H H1 ∧ LsAt H1 L ((mvd P nm r).take i)) ⟨same_upd hL, .nil upd_same⟩ (fun _ _ h => Tk.of h.1) ?_ ?_⟩
    · rintro k n' r' H1 hk ⟨s1, e1⟩
      refine ⟨rfl, ?_⟩
      unfold tYes
      refine iteT ⟨_, rfl, _, rfl, _, rfl, by show 2 ≤ sizeLine; decide, fun a ha => ⟨_, rfl, _, rfl, rfl, .inr ⟨_, rfl, ?_⟩⟩⟩
      rw [str_dec]
      have ix : atI [V.int r', V.int r] (if decide (n' = nm) = true then 1 else 0) = some (.int (if n' = nm then r else r')) := by
        by_cases c : n' = nm
        · rw [if_pos (decide_eq_true c), if_pos c]
          exact atI1
        · rw [if_neg (by simpa using c), if_neg c]
          exact atI0
      refine ⟨a, _, _, _, rfl, rfl, SqL.of upd_same, ix, by show 2 ≤ sizeLine; decide, fun t ht => ?_⟩
      have sm := (same_upd (o := .lst [V.int r', V.int r]) ha).trans (same_upd (o := .tup [V.str n', V.int (if n' = nm then r else r')]) ht)
      obtain ⟨acc, e2, l2, e3⟩ := (e1.same sm).snoc (t := t) upd_same
      refine ⟨acc, e2, ?_, same_put (s1.trans sm) hL, ?_⟩
      · rw [l2, List.length_take, mvd_len]
        exact small1000 (by omega)
      · rw [take_snoc (mvd_get hk)]
        exact e3
    · rintro H1 ⟨s1, e1⟩
      rw [← mvd_len P nm r, List.take_length] at e1
      obtain ⟨xs, e2, e3⟩ := e1.tup
      exact ⟨L, _, rfl, SqL.of e2, fun t ob ht od => q _ t (s1.trans (same_upd ht)) (e3 t ob ht od)⟩
end
end Fw
namespace Fw
open PySem PySem.Spec PyProof.Rows L2
theorem mvs_snoc {n : Int} {D : List (Int × Int)} {P X : List (Str × Int)} {k : Nat} {nm : Str} {r : Int} (h : X[k]? = some (nm, r)) : mvs n D P (X.take (k + 1)) = mvs n D P (X.take k) ++ ((nb n D r).filter fun t => decide (t ∈ P.map (·.2))).map fun t => (nm, t) := by
  unfold mvs
  rw [take_snoc h, List.flatMap_append]
  congr 1
  show List.flatMap _ [(nm, r)] = _
  rw [List.flatMap_cons, List.flatMap_nil, List.append_nil]
theorem mvs_len (n : Int) (D : List (Int × Int)) (P X : List (Str × Int)) (n1 : n ≤ 8) : (mvs n D P X).length ≤ 8 * X.length := by
  unfold mvs
  induction X with
  | nil => exact Nat.le_refl _
  | cons x X ih =>
    rw [List.flatMap_cons, List.length_append, List.length_map, List.length_cons]
    have h1 := List.length_filter_le (fun t => decide (t ∈ P.map (·.2))) (nb n D x.2)
    have h2 := nb_len n D x.2
    omega
theorem LsAt.app {H : Hp} {l m : Addr} {X Y : List (Str × Int)} (x : LsAt H l X) (y : LsAt H m Y) : ∃ xs ys, H l = some (.lst xs) ∧ H m = some (.lst ys) ∧ xs.length = X.length ∧ ys.length = Y.length ∧ LsAt (upd H l (.lst (xs ++ ys))) l (X ++ Y) := by
  obtain ⟨ps, h1, h2, h3⟩ := x
  obtain ⟨qs, g1, g2, g3⟩ := y
  refine ⟨_, _, h1, g1, by rw [h2, List.length_map, List.length_map], by rw [g2, List.length_map, List.length_map], ps ++ qs, ?_, by rw [h2, g2, List.map_append], fun q hq => ?_⟩
  · rw [upd_same, List.map_append]
  · have : H q.1 = some (.tup [.str q.2.1, .int q.2.2]) := by
      rcases List.mem_append.mp hq with hq | hq
      · exact h3 q hq
      · exact g3 q hq
    rw [upd_ne (ne_of this h1 (by intro z; cases z))]
    exact this
theorem rooms_snoc {P : List (Str × Int)} {k : Nat} {nm : Str} {r : Int} (h : P[k]? = some (nm, r)) : (P.take (k + 1)).map (·.2) = (P.take k).map (·.2) ++ [r] := by
  rw [take_snoc h, List.map_append]
  rfl
theorem mvs_mem {n : Int} {D : List (Int × Int)} {P X : List (Str × Int)} {nm : Str} {t : Int} (h : (nm, t) ∈ mvs n D P X) : ∃ c, (nm, c) ∈ X ∧ t ∈ nb n D c ∧ t ∈ P.map (·.2) := by
  unfold mvs at h
  obtain ⟨x, hx, h⟩ := List.mem_flatMap.mp h
  obtain ⟨t', ht, e⟩ := List.mem_map.mp h
  cases e
  obtain ⟨h1, h2⟩ := List.mem_filter.mp ht
  exact ⟨x.2, hx, h1, of_decide_eq_true h2⟩
/-- a loop over a list of pairs -/
theorem for_ls {K : PySem.W.Frag} {l : Addr} {X : List (Str × Int)} {i j : Nat} {tb : TS} {D : Ends} {σ : L2.St} {H0 H : Hp} (x : LsAt H0 l X) (Pv : Nat → L2.St → Hp → Prop) (h0 : Pv 0 σ H) (hl : ∀ k σ H, Pv k σ H → Same H0 H)
    (hs : ∀ k nm r σ H, X[k]? = some (nm, r) → Pv k σ H → tb { D with nx := Pv (k + 1), ct := Pv (k + 1), bk := D.nx } ((σ.set i (some (.str nm))).set j (some (.int r))) H) (hd : ∀ σ H, Pv X.length σ H → D.nx σ H) :
    ∃ W : Nat → Nat → L2.St → Hp → Prop, (∃ m, W 0 m σ H) ∧ ∀ k m σ H, W k m σ H →
      ((Itl K l).stop k H ∧ D.nx σ H) ∨ ((Itl K l).go k H ∧ ∃ N : L2.St → Hp → Prop, (∀ σ' H', N σ' H' → ∃ m', m' < m ∧ W (k + 1) m' σ' H') ∧ ∀ x H', (Itl K l).yld k H x H' → gTup K 2 (gCons (gName i) (gCons (gName j) gNil)) x σ H' fun σ2 H2 => tb { D with nx := N, ct := N, bk := D.nx } σ2 H2) := by
  obtain ⟨ps, h1, rfl, h3⟩ := x
  refine for_list (K := K) (a := l) (xs := ps.map fun q => V.ref q.1) Pv h0 (fun i σ H _ hp => SqL.of (hl i σ H hp _ _ h1)) (fun k x σ H hx hp => ?_) (fun σ H hp => hd σ H (by rw [List.length_map] at hp ⊢; exact hp))
  obtain ⟨q, hq, rfl⟩ := get_pl hx
  refine ⟨q.1, _, rfl, SqT.of (hl k σ H hp _ _ (h3 q (List.mem_of_getElem? hq))), rfl, _, _, rfl, _, _, rfl, rfl, ?_⟩
  exact hs k q.2.1 q.2.2 σ H (by rw [List.getElem?_map, hq]; rfl) hp
theorem LsAt.sq {K : PySem.W.Frag} {H : Hp} {l : Addr} {X : List (Str × Int)} (x : LsAt H l X) : ∃ xs, SqL K H l xs ∧ xs.length = X.length := by
  obtain ⟨ps, h1, h2, _⟩ := x
  exact ⟨_, SqL.of h1, by rw [h2, List.length_map, List.length_map]⟩
theorem LsAt.at {K : PySem.W.Frag} {H : Hp} {l : Addr} {X : List (Str × Int)} (x : LsAt H l X) {r : Int} (h0 : 0 ≤ r) (h1 : r < (X.length : Nat)) : ∃ xs t nm v, SqL K H l xs ∧ atI xs r = some (.ref t) ∧ H t = some (.tup [.str nm, .int v]) ∧ (nm, v) ∈ X := by
  obtain ⟨ps, e1, e2, e3⟩ := x
  have hj : r.toNat < ps.length := by rw [e2, List.length_map] at h1; omega
  have hm := List.getElem_mem hj
  refine ⟨_, ps[r.toNat].1, ps[r.toNat].2.1, ps[r.toNat].2.2, SqL.of e1, ?_, e3 _ hm, by rw [e2]; exact List.mem_map_of_mem (f := (·.2)) hm⟩
  have := atI_nat (xs := ps.map fun q => V.ref q.1) (j := r.toNat) (v := V.ref ps[r.toNat].1) (by rw [List.getElem?_map, List.getElem?_eq_getElem hj]; rfl)
  rw [show ((r.toNat : Nat) : Int) = r by omega] at this
  exact this
end Fw
namespace Fw
open PySem PySem.Spec PyProof.Rows L2
section
variable {P : Program} {w : World} {K : PySem.W.Frag} {mg : Str → Option Value} {base : Heap}
def spLMoves : Sp := fun vs H Q _ => ∃ (h p : Addr) (n : Int) (D : List (Int × Int)) (P : List (Str × Int)), vs = [.ref h, .ref p] ∧ HouseAt H h n D ∧ Forest n D ∧ n ≤ 8 ∧ PlAt H p P ∧ P.length ≤ 100 ∧
  ∀ H' l, Same H H' → H l = none → LsAt H' l (mvs n D P P) → Q (.ref l) H'
abbrev nLMoves : List Str := ["_law_house_here", "_law_placement_here", "_law_held", "_law_name", "_law_room", "_law_found", "_law_here", "_law_there"]
theorem scLMoves : FnScope nLMoves ["_law_house_here", "_law_placement_here"] (defScope sLMoves) := ⟨rfl, rfl, rfl, by decide +kernel, rfl, by decide +kernel, by decide +kernel⟩
theorem ok_lmoves {f : Addr} {fd : FuncData} {k : Nat} (F : Fun K "_law_moves" "_law_moves" sLMoves f fd) (T : Nm mg) (C_law_neighbors : Cal P w K mg base (k + 1) "_law_neighbors" pLNb spLNb) : FnOk P w K mg base CX0 (k + 2) f fd pLMoves spLMoves := by
  refine F.ok scLMoves (fun vs H Q E h => ?_) (fun cdv A outer s H vs Q E hr h => ?_)
  · obtain ⟨h, p, n, D, P, rfl, _⟩ := h
    rfl
  · obtain ⟨h, p, n, D, P, rfl, hH, hF, n1, hP, lP, q⟩ := h
    refine ⟨_, (pss_cons (ps_set (i := 2) scLMoves.nd rfl (.inr rfl) (pe_lc (own := [("_law_name", 3), ("_law_room", 4)]) (g := gTup K 2 (gCons (gName 3) (gCons (gName 4) gNil))) (by rfl) scLMoves.nd (pi_tup (pv 1))
 (blkOk_by (own := [("_law_name", 3), ("_law_room", 4)]) (N := nLMoves) (sc := defScope sLMoves) (by decide +kernel))
 (fun _ _ _ _ _ => (pg_tup (by rfl) (pgs_cons (pg_name (i := 3) scLMoves.nd rfl (.inl rfl)) (pgs_cons (pg_name (i := 4) scLMoves.nd rfl (.inl rfl)) pgs_nil)))) (fun _ _ _ _ _ => pts_nil) (fun _ _ _ _ _ => (pv 4))))
      (pss_cons (ps_set (i := 5) scLMoves.nd rfl (.inl rfl) (pe_lst pa_nil))
      (pss_cons (ps_for PassesOwn.never rfl (pi_tup (pv 1)) (pg_tup (by rfl) (pgs_cons (pg_name (i := 3) scLMoves.nd rfl (.inr rfl)) (pgs_cons (pg_name (i := 6) scLMoves.nd rfl (.inl rfl)) pgs_nil)))
      (pss_one (ps_expr (pe_bm PySem.F.plainAttrs_list PySem.F.slot_list_extend PySem.F.type_list_extend mt_extend (pv 5) (pa_cons (pe_lc (own := [("_law_there", 7)]) (g := gName 7) (by rfl) scLMoves.nd (pi_list (pe_cal C_law_neighbors hr (by rfl) (pa_cons (pv 0) (pa_cons (pv 6) pa_nil))))
 (blkOk_by (own := [("_law_there", 7)]) (N := nLMoves) (sc := defScope sLMoves) (by decide +kernel))
 (fun _ _ _ _ _ => (pg_name (i := 7) scLMoves.nd rfl (.inl rfl))) (fun _ _ _ _ _ => pts_one (pt_cmpR (op_inK K rfl) (pv 7) (pv 2) (by rfl))) (fun _ _ _ _ _ => (pe_tup (pa_cons (pv 3) (pa_cons (pv 7) pa_nil))))) pa_nil)))))
      (pss_one (ps_ret (pv 5)))))), ?_⟩
    refine ⟨_, rfl, p, rfl, hP.sq, fun L hL => lc_pl hP (fun i H1 => Same H H1 ∧ H1 L = some (.lst (vi ((P.take i).map (·.2))))) ⟨same_upd hL, upd_same⟩ (fun _ _ h => Tk.of h.1) ?_ ?_⟩
    · rintro k nm r H1 hk ⟨s1, e1⟩
      refine ⟨rfl, ?_⟩
      unfold tYes
      refine iteT ⟨_, rfl, _, e1, ?_, same_put s1 hL, ?_⟩
      · rw [List.length_map, List.length_map, List.length_take]
        exact small1000 (by omega)
      · rw [upd_same, rooms_snoc hk, vi_app]
        rfl
    rintro H1 ⟨s1, e1⟩
    rw [List.take_length] at e1
    refine ⟨Nat.zero_le _, fun R hR => ?_⟩
    have nLR : L ≠ R := ne_of_none e1 hR
    have gR := s1.free hR
    have sm := same_upd (o := .lst []) hR
    refine ⟨_, rfl, p, rfl, ((hP.same s1).same sm).sq, for_pl hP (fun i σ' H' => ∃ y3 y4 y6 y7, σ' = [some (.ref h), some (.ref p), some (.ref L), y3, y4, some (.ref R), y6, y7] ∧ Same H H' ∧ H' L = some (.lst (vi (P.map (·.2)))) ∧ LsAt H' R (mvs n D P (P.take i)))
      ⟨_, _, _, _, rfl, s1.trans sm, sm _ _ e1, .nil upd_same⟩ ?_ ?_ ?_⟩
    · rintro k σ' H' ⟨_, _, _, _, _, s', _⟩
      exact Tk.of s'
    · rintro k nm r σ' H2 hk ⟨y3, y4, y6, y7, rfl, s2, e2, x2⟩
      obtain ⟨xs2, er2, _⟩ := x2.tup
      refine ⟨_, rfl, .inl ⟨rfl, _, SqL.of er2⟩, _, rfl, _, rfl, h, n, D, r, rfl, hH.same s2, hF, fun H3 l s3 hl e3 => ?_⟩
      refine ⟨l, rfl, ⟨_, SqL.of e3⟩, fun M hM => lc_list (K := K) (a := l) (xs := vi (nb n D r)) (fun i H' => Same H3 H' ∧ LsAt H' M ((((nb n D r).take i).filter fun t => decide (t ∈ P.map (·.2))).map fun t => (nm, t)))
        ⟨same_upd hM, .nil upd_same⟩ (fun i H' _ hh => SqL.of (hh.1 _ _ e3)) ?_ ?_⟩
      · rintro i x H4 hx ⟨s4, x4⟩
        obtain ⟨t, ht, rfl⟩ := get_vi hx
        have e4 := (s3.trans s4) _ _ e2
        refine ⟨rfl, _, rfl, _, rfl, L, _, rfl, .inl (SqL.of e4), rfl, flat_vi _, _, rfl, ?_⟩
        have ef : (((nb n D r).take (i + 1)).filter fun t => decide (t ∈ P.map (·.2))).map (fun t => (nm, t)) = (((nb n D r).take i).filter fun t => decide (t ∈ P.map (·.2))).map (fun t => (nm, t)) ++ if t ∈ P.map (·.2) then [(nm, t)] else [] := by
          rw [take_snoc ht, filter_snoc, List.map_append]
          congr 1
          by_cases c : t ∈ P.map (·.2)
          · rw [if_pos c, if_pos (decide_eq_true c)]
            rfl
          · rw [if_neg c, if_neg (by simpa using c)]
            rfl
        rw [if_neg (by decide), inV_vi]
        refine ite2 (fun c => ?_) (fun c => ?_)
        · rw [if_pos (of_decide_eq_true c)] at ef
          refine ⟨_, rfl, _, rfl, by show 2 ≤ sizeLine; decide, fun u hu => ?_⟩
          have sm := same_upd (o := .tup [.str nm, .int t]) hu
          obtain ⟨acc, a1, a2, a3⟩ := (x4.same sm).snoc (t := u) upd_same
          refine ⟨acc, a1, ?_, same_put (s4.trans sm) hM, by rw [ef]; exact a3⟩
          rw [a2, List.length_map]
          have h1 := List.length_filter_le (fun t => decide (t ∈ P.map (·.2))) ((nb n D r).take i)
          have h2 := nb_len n D r
          rw [List.length_take] at h1
          exact small1000 (by omega)
        · rw [if_neg (fun z => c (decide_eq_true z)), List.append_nil] at ef
          rw [ef]
          exact ⟨s4, x4⟩
      · rintro H4 ⟨s4, x4⟩
        rw [List.length_map, List.take_length] at x4
        have s34 := s3.trans s4
        obtain ⟨xs, ys, a1, a2, a3, a4, a5⟩ := (x2.same s34).app x4
        refine ⟨R, M, _, _, rfl, rfl, a1, a2, ?_, ?_⟩
        · rw [a3, a4, List.length_map]
          have h1 := List.length_filter_le (fun t => decide (t ∈ P.map (·.2))) (nb n D r)
          have h2 := nb_len n D r
          have h3 := mvs_len n D P (P.take k) n1
          rw [List.length_take] at h3
          exact Nat.le_of_lt (small1000 (by omega))
        · refine ⟨_, _, _, _, rfl, same_put (s2.trans s34) gR, ?_, ?_⟩
          · rw [upd_ne nLR]
            exact s34 _ _ e2
          · rw [mvs_snoc hk]
            exact a5
    · rintro σ' H2 ⟨y3, y4, y6, y7, rfl, s2, e2, x2⟩
      rw [List.take_length] at x2
      exact ⟨_, rfl, q _ R s2 gR x2⟩
end
end Fw
namespace Fw
open PySem PySem.Spec PyProof.Rows L2

/-- what a dict of rooms holds at a room -/
def lk (kvs : List (Key × V)) (v : Int) : Option V := valV kvs (Sum.inl v)
theorem lk_put (kvs : List (Key × V)) (k j : Int) (y : V) : lk (putK kvs (Sum.inl k) y) j = if j = k then some y else lk kvs j := by
  unfold lk
  rw [valV_put]
  by_cases e : j = k
  · rw [if_pos e, if_pos (by rw [e])]
  · rw [if_neg e, if_neg (fun z => e (Sum.inl.inj z))]
def isK (kvs : List (Key × V)) (v : Int) : Bool := (lk kvs v).isSome
theorem isK_put (kvs : List (Key × V)) (k j : Int) (y : V) : isK (putK kvs (Sum.inl k) y) j = (decide (j = k) || isK kvs j) := by
  unfold isK
  rw [lk_put]
  by_cases e : j = k
  · rw [if_pos e, decide_eq_true e]; rfl
  · rw [if_neg e, decide_eq_false e]; rfl

/-- the way from a room along the steps -/
inductive Ch (D : List (Int × Int)) (L : Int → Option V) (g : Int) : Int → List Int → Prop
  | goal : L g = some .non → Ch D L g g [g]
  | step {v u : Int} {p : List Int} : L v = some (.int u) → adj D v u → Ch D L g u p → v ∉ p → Ch D L g v (v :: p)
theorem Ch.mono {D : List (Int × Int)} {L L' : Int → Option V} {g v : Int} {p : List Int} (h : Ch D L g v p) (m : ∀ y x, L y = some x → L' y = some x) : Ch D L' g v p := by
  induction h with
  | goal e => exact .goal (m _ _ e)
  | step e a _ n ih => exact .step (m _ _ e) a ih n
theorem Ch.keys {D : List (Int × Int)} {L : Int → Option V} {g v : Int} {p : List Int} (h : Ch D L g v p) : ∀ y ∈ p, (L y).isSome = true := by
  induction h with
  | goal e =>
    intro y hy
    rw [List.mem_singleton.mp hy, e]
    rfl
  | step e _ _ _ ih =>
    intro y hy
    rcases List.mem_cons.mp hy with rfl | hy
    · rw [e]; rfl
    · exact ih y hy
theorem Ch.sp {D : List (Int × Int)} {L : Int → Option V} {g v : Int} {p : List Int} (h : Ch D L g v p) : SP (adj D) v g p := by
  induction h with
  | goal _ => exact .one _
  | step _ a _ n ih => exact .cons a ih n

/-- the dict of steps, at any time -/
structure SInv (n : Int) (D : List (Int × Int)) (R : List Int) (g : Int) (kvs : List (Key × V)) : Prop where
  goal : lk kvs g = some .non
  way : ∀ v x, lk kvs v = some x → ∃ p, Ch D (lk kvs) g v p
  rng : ∀ v, isK kvs v = true → v = g ∨ v ∈ R
  keys : ∃ ks : List Int, kvs.map (·.1) = ks.map Sum.inl ∧ ks.Nodup ∧ ∀ v, v ∈ ks ↔ isK kvs v = true
  len : kvs.length + left n.toNat (isK kvs) ≤ n.toNat + 1
theorem SInv.start {n g : Int} {D : List (Int × Int)} {R : List Int} : SInv n D R g [(Sum.inl g, V.non)] := by
  have e0 : ∀ v, lk [(Sum.inl g, V.non)] v = if v = g then some .non else none := fun v => by
    unfold lk
    by_cases e : v = g
    · rw [if_pos e, e]; exact valV_pos rfl
    · rw [if_neg e, valV_neg (fun z => e (Sum.inl.inj z).symm)]; rfl
  have e1 : lk [(Sum.inl g, V.non)] g = some .non := by rw [e0, if_pos rfl]
  have e2 : ∀ v, isK [(Sum.inl g, V.non)] v = true → v = g := fun v h => by
    unfold isK at h
    rw [e0] at h
    by_cases e : v = g
    · exact e
    · rw [if_neg e] at h; cases h
  refine ⟨e1, fun v x h => ?_, fun v h => .inl (e2 v h), ⟨[g], rfl, by simp, fun v => ⟨fun h => ?_, fun h => ?_⟩⟩, ?_⟩
  · have : isK [(Sum.inl g, V.non)] v = true := by unfold isK; rw [h]; rfl
    rw [e2 v this]
    exact ⟨[g], .goal e1⟩
  · rw [List.mem_singleton.mp h]; unfold isK; rw [e1]; rfl
  · rw [e2 v h]; simp
  · have := left_le n.toNat (isK [(Sum.inl g, V.non)])
    simp only [List.length_cons, List.length_nil]
    omega
theorem SInv.put {n g o v : Int} {D : List (Int × Int)} {R : List Int} {kvs : List (Key × V)} (S : SInv n D R g kvs) (hv : isK kvs v = true) (ho : isK kvs o = false) (a : adj D v o) (hR : o ∈ R) (h0 : 0 ≤ o) (h1 : o < n) :
    SInv n D R g (putK kvs (Sum.inl o) (.int v)) ∧ left n.toNat (isK (putK kvs (Sum.inl o) (.int v))) < left n.toNat (isK kvs) := by
  have eo : lk kvs o = none := by
    unfold isK at ho
    cases e : lk kvs o with
    | none => rfl
    | some x => rw [e] at ho; cases ho
  have m : ∀ y x, lk kvs y = some x → lk (putK kvs (Sum.inl o) (.int v)) y = some x := fun y x h => by
    rw [lk_put, if_neg (fun e => ?_)]
    · exact h
    · rw [e, eo] at h; cases h
  have hl : left n.toNat (isK (putK kvs (Sum.inl o) (.int v))) < left n.toNat (isK kvs) := by
    refine left_lt (o := o) (fun x hx => ?_) h0 (by omega) ho ?_
    · rw [isK_put, hx, Bool.or_true]
    · rw [isK_put, decide_eq_true rfl, Bool.true_or]
  refine ⟨⟨m _ _ S.goal, fun y x h => ?_, fun y h => ?_, ?_, ?_⟩, hl⟩
  · rw [lk_put] at h
    by_cases e : y = o
    · subst e
      cases hx : lk kvs v with
      | none => unfold isK at hv; rw [hx] at hv; cases hv
      | some z =>
        obtain ⟨p, hp⟩ := S.way v z hx
        refine ⟨y :: p, .step (by rw [lk_put, if_pos rfl]) (adj_symm a) (hp.mono m) fun hm => ?_⟩
        have := hp.keys y hm
        rw [eo] at this
        cases this
    · rw [if_neg e] at h
      obtain ⟨p, hp⟩ := S.way y x h
      exact ⟨p, hp.mono m⟩
  · rw [isK_put, Bool.or_eq_true, decide_eq_true_eq] at h
    rcases h with h | h
    · exact .inr (h ▸ hR)
    · exact S.rng y h
  · obtain ⟨ks, e1, e2, e3⟩ := S.keys
    refine ⟨ks ++ [o], ?_, ?_, fun y => ?_⟩
    · rw [putK_new _ eo, List.map_append, e1, List.map_append]; rfl
    · rw [List.nodup_append]
      refine ⟨e2, by simp, fun x hx y hy e => ?_⟩
      rw [List.mem_singleton.mp hy] at e
      rw [e, e3, ho] at hx
      cases hx
    · rw [List.mem_append, List.mem_singleton, e3, isK_put, Bool.or_eq_true, decide_eq_true_eq]
      exact or_comm
  · have := length_putK kvs (Sum.inl o) (V.int v)
    have := S.len
    omega

theorem inV_ints (x : Int) (R : List Int) : inV (.int x) (vi R) = decide (x ∈ R) := by
  unfold inV
  rw [Bool.eq_iff_iff, List.any_eq_true, decide_eq_true_eq]
  constructor
  · rintro ⟨y, hy, e⟩
    obtain ⟨z, hz, rfl⟩ := List.mem_map.mp hy
    have e : (z == x) = true := e
    rw [beq_iff_eq] at e
    exact e ▸ hz
  · intro h
    exact ⟨.int x, List.mem_map_of_mem h, by show (x == x) = true; simp⟩
theorem flat_ints (R : List Int) : (vi R).all flatV = true := by
  rw [List.all_eq_true]
  intro y hy
  obtain ⟨z, hz, rfl⟩ := List.mem_map.mp hy
  rfl
theorem vi_snoc_last {xs : List Int} {x : Int} : (vi (xs ++ [x]))[(vi (xs ++ [x])).length - 1]? = some (.int x) := by
  rw [vi_app, List.length_append]
  show (vi xs ++ [V.int x])[(vi xs).length + 1 - 1]? = _
  rw [Nat.add_sub_cancel, List.getElem?_append_right (Nat.le_refl _), Nat.sub_self]
  rfl
theorem vi_dropLast {xs : List Int} {x : Int} : (vi (xs ++ [x])).dropLast = vi xs := by
  rw [vi_app]
  show (vi xs ++ [V.int x]).dropLast = _
  rw [List.dropLast_concat]
theorem snoc_cases : ∀ (xs : List Int), xs = [] ∨ ∃ ys y, xs = ys ++ [y]
  | [] => .inl rfl
  | x :: xs => by
    rcases snoc_cases xs with rfl | ⟨ys, y, rfl⟩
    · exact .inr ⟨[], x, rfl⟩
    · exact .inr ⟨x :: ys, y, rfl⟩

section
variable {P : Program} {w : World} {K : PySem.W.Frag} {mg : Str → Option Value} {base : Heap}
/-- what the finished steps are -/
structure SDone (n : Int) (D : List (Int × Int)) (R : List Int) (g : Int) (kvs : List (Key × V)) : Prop where
  inv : SInv n D R g kvs
  closed : ∀ v o, isK kvs v = true → adj D v o → o ∈ R → isK kvs o = true
theorem Same.sqT {K : PySem.W.Frag} {H H' : Hp} {a : Addr} {xs : List V} (e : Same H H') (h : SqT K H a xs) : SqT K H' a xs :=
  h.imp (Or.imp (e a _) fun ⟨o, x⟩ => ⟨o, e a _ x⟩) id
def spSteps (K : PySem.W.Frag) : Sp := fun vs H Q _ => ∃ (h rl : Addr) (n : Int) (D : List (Int × Int)) (g : Int) (R : List Int), vs = [.ref h, .int g, .ref rl] ∧ HouseAt H h n D ∧ Forest n D ∧ 0 ≤ n ∧ n ≤ 8 ∧
  (SqL K H rl (vi R) ∨ SqT K H rl (vi R)) ∧ ∀ H' d kvs, Same H H' → H d = none → H' d = some (.dK kvs) → SDone n D R g kvs → Q (.ref d) H'

structure SAt (H : Hp) (d wl : Addr) (n : Int) (D : List (Int × Int)) (R : List Int) (g : Int) (kvs : List (Key × V)) (wt : List Int) (H' : Hp) : Prop where
  sm : Same H H'
  ed : H' d = some (.dK kvs)
  ew : H' wl = some (.lst (vi wt))
  inv : SInv n D R g kvs
  wk : ∀ v ∈ wt, isK kvs v = true
  wlen : wt.length + left n.toNat (isK kvs) ≤ n.toNat + 1
theorem SAt.same {H : Hp} {d wl : Addr} {n : Int} {D : List (Int × Int)} {R : List Int} {g : Int} {kvs : List (Key × V)} {wt : List Int} {H1 H2 : Hp} (S : SAt H d wl n D R g kvs wt H1) (e : Same H1 H2) : SAt H d wl n D R g kvs wt H2 :=
  ⟨S.sm.trans e, e _ _ S.ed, e _ _ S.ew, S.inv, S.wk, S.wlen⟩
abbrev nSteps : List Str := ["house", "goal", "rooms", "steps", "waiting", "room", "other"]
theorem scSteps : FnScope nSteps ["house", "goal", "rooms"] (defScope sSteps) := ⟨rfl, rfl, rfl, by decide +kernel, rfl, by decide +kernel, by decide +kernel⟩
theorem ok_steps {f fN : Addr} {fd fdN : FuncData} (F : Fun K "steps_toward" "steps_toward" sSteps f fd) (T : Nm mg) (DN : Def K mg "neighbors" sNb fN fdN ["house", "room"]) : FnOk P w K mg base CX0 2 f fd ["house", "goal", "rooms"] (spSteps K) := by
  have GN : FnOk P w K mg base CX0 1 fN fdN ["house", "room"] spNb := ok_nb DN.F T
  refine F.ok scSteps (fun vs H Q E h => ?_) (fun cdv A outer s H vs Q E hr h => ?_)
  · obtain ⟨h, rl, n, D, g, R, rfl, _⟩ := h
    rfl
  · obtain ⟨h, rl, n, D, g, R, rfl, hH, hF, hn0, hn1, hR, q⟩ := h
    have hu := hu_of hr
    refine ⟨_, pss_cons (ps_set (i := 3) scSteps.nd rfl (.inl rfl) (pe_disp (pps_cons (pv 1) pe_non pps_nil) (by rfl) (by rfl) (fun z => by cases z) (by decide)))
      (pss_cons (ps_set (i := 4) scSteps.nd rfl (.inl rfl) (pe_lst (pa_cons (pv 1) pa_nil)))
      (pss_cons (ps_while PassesOwn.never (pt_truth (pv 4) (by intro _; rfl))
        (pss_cons (ps_set (i := 5) scSteps.nd rfl (.inl rfl) (pe_bm0 PySem.F.plainAttrs_list PySem.F.slot_list_pop PySem.F.type_list_pop mt_pop (pv 4)))
        (pss_one (ps_for PassesOwn.never rfl (pi_tup (pe_call GN hr (by rfl) DN.g DN.F.kp DN.b .nil pass0 (pa_cons (pv 0) (pa_cons (pv 5) pa_nil)))) (pg_name (i := 6) scSteps.nd rfl (Or.inl rfl))
          (pss_one (ps_if (PW.pt (pw_and (pt_cmpR op_in_seq (pv 6) (pv 2) (by rfl)) (pw_and1 (pt_cmp (pc_dnotin hu (pv 6) (pv 3))))))
            (pss_cons (ps_dput hu (pv 3) (pv 6) (pv 5) rfl)
            (pss_one (ps_expr (pe_bm PySem.F.plainAttrs_list PySem.F.slot_list_append PySem.F.type_list_append mt_append (pv 4) (pa_cons (pv 6) pa_nil)))))
            pss_nil))))))
      (pss_one (ps_ret (pv 3))))), ?_⟩
    refine fun d hd => ⟨_, rfl, upd_same, [(Sum.inl g, .non)], rfl, by show 1 ≤ 15; decide, ?_⟩
    rw [upd_upd]
    refine ⟨_, rfl, by show 1 ≤ sizeLine; decide, fun wl hw => ?_⟩
    have ed0 : (upd H d (.dK (mergeK [] [(Sum.inl g, V.non)]))) d = some (.dK [(Sum.inl g, V.non)]) := upd_same
    have nwd : d ≠ wl := ne_of_none ed0 hw
    have gw : H wl = none := (same_upd hd).free hw
    have clos0 : ∀ v o, isK [(Sum.inl g, V.non)] v = true → v ∉ [g] → adj D v o → o ∈ R → isK [(Sum.inl g, V.non)] o = true := fun v o hv hn _ _ => by
      obtain ⟨ks, e1, _, e3⟩ := (SInv.start (n := n) (D := D) (R := R) (g := g)).keys
      have e4 : ks = [g] := by
        cases ks with
        | nil => cases e1
        | cons k r =>
          cases r with
          | nil =>
            injection e1 with e1 _
            rw [← Sum.inl.inj e1]
          | cons k2 r =>
            injection e1 with _ e1
            cases e1
      rw [e4] at e3
      exact absurd ((e3 v).mpr hv) hn
    refine ⟨fun m σ H' => ∃ (kvs : List (Key × V)) (wt : List Int) (y5 y6 : Option V), σ = [some (.ref h), some (.int g), some (.ref rl), some (.ref d), some (.ref wl), y5, y6] ∧ SAt H d wl n D R g kvs wt H' ∧
        (∀ v o, isK kvs v = true → v ∉ wt → adj D v o → o ∈ R → isK kvs o = true) ∧ m = 2 * left n.toNat (isK kvs) + wt.length, ⟨_, [(Sum.inl g, V.non)], [g], none, none, rfl, ⟨?_, ?_, upd_same, SInv.start, ?_, ?_⟩, clos0, rfl⟩, ?_⟩
    · exact (same_upd hd).trans (same_upd hw)
    · rw [upd_ne nwd]
      exact ed0
    · intro v hv
      rw [List.mem_singleton.mp hv]
      unfold isK
      rw [SInv.start (n := n) (D := D) (R := R) |>.goal]
      rfl
    · have := left_le n.toNat (isK [(Sum.inl g, V.non)])
      simp only [List.length_cons, List.length_nil]
      omega
    clear clos0 ed0
    rintro m σ H1 ⟨kvs, wt, y5, y6, rfl, S1, clos, rfl⟩
    refine ⟨_, rfl, _, .inl ⟨_, SqL.of S1.ew, rfl⟩, ?_⟩
    rcases snoc_cases wt with rfl | ⟨ys, v, rfl⟩
    · refine iteF ?_
      exact ⟨_, rfl, q _ d kvs S1.sm hd S1.ed ⟨S1.inv, fun v o h1 h2 h3 => clos v o h1 (by simp) h2 h3⟩⟩
    · have ne : (!(vi (ys ++ [v])).isEmpty) = true := by
        cases ys <;> rfl
      rw [ne]
      refine iteT ⟨_, fun _ _ hh => hh, ?_⟩
      have hv : isK kvs v = true := S1.wk v (by simp)
      refine ⟨_, rfl, .inl ⟨rfl, _, SqL.of S1.ew⟩, wl, _, _, rfl, rfl, S1.ew, vi_snoc_last, ?_⟩
      rw [vi_dropLast]
      have l1 := S1.wlen
      rw [List.length_append, List.length_singleton] at l1
      have S2 : SAt H d wl n D R g kvs ys (upd H1 wl (.lst (vi ys))) := ⟨same_put S1.sm gw, (upd_ne nwd).trans S1.ed, upd_same, S1.inv, fun x hx => S1.wk x (List.mem_append_left _ hx), by omega⟩
      refine ⟨_, rfl, _, rfl, h, n, D, v, rfl, hH.same S2.sm, hF, fun H3 t s3 et => ?_⟩
      have S3 := S2.same s3
      refine ⟨t, rfl, ⟨_, SqT.of et⟩, for_tup (K := K) (a := t) (xs := vi (nb n D v)) (fun i σ H' => ∃ (kvs' : List (Key × V)) (wt : List Int) (y6 : Option V), σ = [some (.ref h), some (.int g), some (.ref rl), some (.ref d), some (.ref wl), some (.int v), y6] ∧
          SAt H d wl n D R g kvs' wt H' ∧ H' t = some (.tup (vi (nb n D v))) ∧ isK kvs' v = true ∧ (∀ x o, isK kvs' x = true → x ∉ wt → x ≠ v → adj D x o → o ∈ R → isK kvs' o = true) ∧
          (∀ o ∈ (nb n D v).take i, o ∈ R → isK kvs' o = true) ∧ 2 * left n.toNat (isK kvs') + wt.length < 2 * left n.toNat (isK kvs) + (ys ++ [v]).length) ⟨kvs, ys, y6, rfl, S3, et, hv, ?_, ?_, ?_⟩ ?_ ?_ ?_⟩
      · intro x o h1 h2 h3 h4 h5
        exact clos x o h1 (by simp [h2, h3]) h4 h5
      · intro o ho
        simp at ho
      · rw [List.length_append, List.length_singleton]
        omega
      · rintro i σ H' _ ⟨kvs', wt, y6, rfl, _, et', _⟩
        exact SqT.of et'
      · rintro i x σ H4 hx ⟨kvs', wt, y6, rfl, S4, et4, hv4, cl4, pre4, lt4⟩
        obtain ⟨o, eo, rfl⟩ := get_vi hx
        have mo := List.mem_of_getElem? eo
        have ao : adj D v o := hF.mem_nb.mp mo
        have ro := hF.adj ao
        have pre5 : ∀ kvs2 : List (Key × V), (∀ y, isK kvs' y = true → isK kvs2 y = true) → (o ∈ R → isK kvs2 o = true) → ∀ z ∈ (nb n D v).take (i + 1), z ∈ R → isK kvs2 z = true := fun kvs2 hm ho z hz hzR => by
          rw [List.take_add_one, eo, List.mem_append] at hz
          rcases hz with hz | hz
          · exact hm _ (pre4 z hz hzR)
          · have : z = o := by simpa using hz
            rw [this] at hzR ⊢
            exact ho hzR
        dsimp only [gName]
        refine if_by (fun b H5 => H5 = H4 ∧ (b = true → o ∈ R ∧ isK kvs' o = false) ∧ (b = false → o ∈ R → isK kvs' o = true)) ?_ ?_ ?_
        · rintro H5 ⟨rfl, hb, _⟩
          obtain ⟨oR, ok⟩ := hb rfl
          obtain ⟨I5, lt5⟩ := S4.inv.put hv4 ok ao oR ro.2.2.1 ro.2.2.2
          have lk4 := S4.inv.len
          have lw4 := S4.wlen
          refine ⟨_, rfl, _, rfl, _, rfl, d, _, rfl, DPut.k (k := Sum.inl o) S4.ed (small1000 (by omega)), ?_⟩
          have ew5 : (upd H5 d (.dK (putK kvs' (Sum.inl o) (V.int v)))) wl = some (.lst (vi wt)) := (upd_ne nwd.symm).trans S4.ew
          refine ⟨_, rfl, .inl ⟨rfl, _, SqL.of ew5⟩, _, rfl, wl, _, _, rfl, rfl, ew5, by rw [List.length_map]; exact small1000 (by omega), ?_⟩
          refine ⟨putK kvs' (Sum.inl o) (V.int v), wt ++ [o], _, rfl, ⟨same_put (same_put S4.sm hd) gw, (upd_ne nwd).trans upd_same, ?_, I5, ?_, ?_⟩, ?_, ?_, ?_, ?_, ?_⟩
          · rw [upd_same, vi_app]
            rfl
          · intro y hy
            rw [isK_put]
            rcases List.mem_append.mp hy with hy | hy
            · rw [S4.wk y hy, Bool.or_true]
            · rw [List.mem_singleton.mp hy, decide_eq_true rfl, Bool.true_or]
          · rw [List.length_append, List.length_singleton]
            omega
          · rw [upd_ne (ne_of et4 S4.ew (by intro z; cases z)), upd_ne (ne_of et4 S4.ed (by intro z; cases z))]
            exact et4
          · rw [isK_put, hv4, Bool.or_true]
          · intro y z h1 h2 h3 h4 h5
            rw [isK_put, Bool.or_eq_true, decide_eq_true_eq] at h1
            rw [List.mem_append, not_or, List.mem_singleton] at h2
            rcases h1 with h1 | h1
            · exact absurd h1 h2.2
            · rw [isK_put, cl4 y z h1 h2.1 h3 h4 h5, Bool.or_true]
          · refine pre5 _ (fun y hy => by rw [isK_put, hy, Bool.or_true]) fun _ => ?_
            rw [isK_put, decide_eq_true rfl, Bool.true_or]
          · rw [List.length_append, List.length_singleton]
            omega
        · rintro H5 ⟨rfl, _, hb⟩
          exact ⟨kvs', wt, _, rfl, S4, et4, hv4, cl4, pre5 kvs' (fun _ hh => hh) (hb rfl), lt4⟩
        · intro QQ hQ
          have hR4 : SqL K H4 rl (vi R) ∨ SqT K H4 rl (vi R) := hR.imp (fun z => S4.sm.seq z) (fun z => Same.sqT S4.sm z)
          refine ⟨_, rfl, _, rfl, rl, _, rfl, hR4, rfl, flat_ints R, _, rfl, ?_⟩
          show if (inV (.int o) (vi R)) = true then _ else _
          rw [inV_ints]
          refine ite2 (fun c => ?_) (fun c => ?_)
          · have c : o ∈ R := of_decide_eq_true c
            refine ⟨_, rfl, _, rfl, d, _, rfl, DGet.k (k := Sum.inl o) S4.ed, _, rfl, ?_⟩
            refine hQ _ _ ⟨rfl, fun e => ⟨c, ?_⟩, fun e _ => ?_⟩
            · show isK kvs' o = false
              unfold isK lk
              simpa using e
            · show isK kvs' o = true
              unfold isK lk
              simpa using e
          · exact hQ _ _ ⟨rfl, fun e => (by cases e), fun _ e => absurd (decide_eq_true e) c⟩
      · rintro σ H4 ⟨kvs', wt, y6, rfl, S4, et4, hv4, cl4, pre4, lt4⟩
        rw [List.length_map, List.take_length] at pre4
        refine ⟨_, lt4, kvs', wt, _, _, rfl, S4, fun x o h1 h2 h3 h4 => ?_, rfl⟩
        by_cases e : x = v
        · subst e
          exact pre4 o (hF.mem_nb.mpr h3) h4
        · exact cl4 x o h1 h2 e h3 h4
end
end Fw
namespace Fw
open PySem PySem.Spec PyProof.Rows L2
theorem HouseAt.top {H : Hp} {h : Addr} {n : Int} {D : List (Int × Int)} (x : HouseAt H h n D) : ∃ q, H h = some (.tup [.int n, .ref q]) := by
  obtain ⟨q, ps, h1, _⟩ := x
  exact ⟨q, h1⟩

/-- a nodup list of rooms below n is no longer than n -/
theorem short {n : Nat} : ∀ {p : List Int}, p.Nodup → (∀ x ∈ p, 0 ≤ x ∧ x < n) → p.length ≤ n := by
  induction n with
  | zero =>
    intro p _ h
    cases p with
    | nil => exact Nat.le_refl _
    | cons x r => have := h x (List.mem_cons_self ..); omega
  | succ n ih =>
    intro p nd h
    have h2 : (p.erase (n : Int)).length ≤ n := by
      refine ih (nd.erase _) fun x hx => ?_
      have hm := List.mem_of_mem_erase hx
      have hne : x ≠ (n : Int) := fun e => by
        subst e
        exact (List.Nodup.not_mem_erase nd) hx
      have := h x hm
      omega
    have h3 : p.length - 1 ≤ (p.erase (n : Int)).length := List.le_length_erase
    omega
theorem SP.all {R : Int → Int → Prop} {S : Int → Prop} (hs : ∀ x y, R x y → S y) {a b : Int} {p : List Int} (h : SP R a b p) (e : S a) : ∀ x ∈ p, S x := by
  induction h with
  | one a =>
    intro x hx
    rw [List.mem_singleton.mp hx]
    exact e
  | cons r _ _ ih =>
    intro x hx
    rcases List.mem_cons.mp hx with rfl | hx
    · exact e
    · exact ih (hs _ _ r) x hx
theorem Forest.short {n a b : Int} {D : List (Int × Int)} (f : Forest n D) (h8 : n ≤ 8) (h0 : 0 ≤ a) (h1 : a < n) {p : List Int} (h : SP (Fw.adj D) a b p) : p.length ≤ 8 := by
  have h2 : p.length ≤ n.toNat := Fw.short h.nodup fun x hx => by
    have := h.all (S := fun x => 0 ≤ x ∧ x < n) (fun x y r => ⟨(f.adj r).2.2.1, (f.adj r).2.2.2⟩) ⟨h0, h1⟩ x hx
    omega
  omega

end Fw
namespace Fw
open PySem PySem.Spec PyProof.Rows L2

section
variable {P : Program} {w : World} {K : PySem.W.Frag} {mg : Str → Option Value} {base : Heap}
end
end Fw
namespace Fw
open PySem PySem.Spec PyProof.Rows L2 SrtO

section
variable {P : Program} {w : World} {A : Around} {E : Value → Shared → Prop} {s : Shared}
/-- sorted of anything that can be collected, by an order -/
theorem sorted_any {a : Addr} {ltv : Value → Value → Bool} {Q : Value → Shared → Prop} (O : Swo ltv) (good : List Value → Shared → Prop) (col : wpAny (model P w) A.in1 (collect (.ref a)) good E s) (hz : ∀ vs z, good vs z → vs.length ≤ sizeLine)
    (hS : ∀ vs z, good vs z → 2 ≤ vs.length → SortableO P w A.in1.in1 { z with heap := z.heap.push (seqObj "list" vs.toArray 0) } z.heap.objs.size vs ltv)
    (fin : ∀ vs z out, good vs z → Srtd ltv out → Stb ltv out vs → Q (.ref z.heap.objs.size) { z with heap := sortedHeap (z.heap.push (seqObj "list" vs.toArray 0)) z.heap.objs.size vs out.toArray }) :
    wpAny (model P w) A (call (.builtin "sorted") [.ref a]) Q E s := by
  refine Calls.call_function_entry kind_sorted plain_sorted entry_sorted (args_sorted1 _) ?_
  show wpAny (model P w) A.in1 (Builtin.«sorted» _) _ _ _
  unfold Builtin.«sorted»
  refine wpAny_bind (m := checkCount "sorted" 1 1 _) (wpAny_pure (wpAny_bind (wpAny_mono col (fun vs z g => ?_) fun _ _ e => e)))
  refine wpAny_bind (wpAny_newList ?_ (hz vs z g))
  have at0 : (z.heap.push (seqObj "list" vs.toArray 0)).get? z.heap.objs.size = some (seqObj "list" vs.toArray 0) := Heap.get?_push_size _ rfl
  refine wpAny_bind (wpAny_holding (wpAny_call_entry slot_list_sort ⟨_, at0, rfl⟩ entry_list_sort (list_sort_ord O at0 (hz vs z g) (hS vs z g) fun out h1 h2 => ?_) (args_list_sort _)))
  exact ⟨_, rfl, wpAny_pure ⟨_, rfl, fin vs z out g h1 h2⟩⟩
end

/-- sorted(d), the keys of d ints -/
def rSortedDI : List V → Hp → VK → Prop := fun xs H Q => ∃ (a : Addr) (kvs : List (Key × V)) (ks : List Int), xs = [.ref a] ∧ H a = some (.dK kvs) ∧ kvs.map (·.1) = ks.map Sum.inl ∧
  ∀ (ys : List Int) (p : Addr), ys.Perm ks → ys.Pairwise (· ≤ ·) → H p = none → Q (.ref p) (upd H p (.lst (vi ys)))
theorem cr_sortedDI {X : Cx} (hc : X.calm = true) : CallR X (.builtin "sorted") rSortedDI := by
  intro pins s σ H xs us Q I r h
  obtain ⟨a, kvs, ks, rfl, ha, hk, q⟩ := h
  rw [Vals.ref1 r]
  obtain ⟨len, lo, vs, rel, dd⟩ := dk_of I.hok ha
  obtain ⟨ep, hat⟩ := dd.dictAt
  have ek : vs.map (·.1) = ks.map Sum.inl := rel.keys.symm.trans hk
  have el : vs.length = ks.length := by simpa using congrArg List.length ek
  have ez : ks.length ≤ sizeLine := by
    have := congrArg List.length hk
    rw [List.length_map, List.length_map] at this
    omega
  refine sorted_any swo_int (fun us z => IntsAre us ks ∧ Inv X pins σ H z ∧ z = { s with heap := z.heap, toks := z.toks }) ?_ ?_ ?_ ?_
  · refine PySem.W.kdu_collect (PySem.W.kdl_dict (knd := mixKind X.prog X.w) (kvs := vs) (ep := ep) lo) (I.ok.hd hc) hat (by omega) fun h' tk acc keep items => ⟨?_, I.kept keep, rfl⟩
    have lena : acc.toList.length = vs.length := by
      rw [Array.length_toList]
      exact items.1
    have rv := keys_at (us := acc.toList) (vs := vs) lena fun j v e => by
      obtain ⟨k, x, e1, e2⟩ := items.2 j v (by rw [← Array.getElem?_toList]; exact e)
      exact ⟨k, x, e1, e2⟩
    have e3 : (vs.map fun p => kV p.1) = ks.map V.int := by
      have := congrArg (List.map kV) ek
      rw [List.map_map, List.map_map] at this
      exact this
    rw [e3] at rv
    exact rv.ints
  · intro us z g
    rw [g.1.length]
    exact ez
  · intro us z g h2
    exact ints_sortable g.1 h2
  · rintro us z out ⟨hi, J, ez'⟩ h1 h2
    obtain ⟨k1, k2, k3⟩ := ints_out hi h1 h2
    have at0 : (z.heap.push (seqObj "list" us.toArray 0)).get? z.heap.objs.size = some (seqObj "list" us.toArray 0) := Heap.get?_push_size _ rfl
    obtain ⟨e', he'⟩ := sortedHeap_at (vs := us) (out := out.toArray) at0
    refine ⟨.ref z.heap.objs.size, upd H z.heap.objs.size (.lst (vi (out.map iv))), J.laid (t' := z.toks) (fun b u e => ?_) (Nat.le_refl _) ⟨?_, out, e', vals_of_ints k1, he'⟩, rfl, q _ _ k2 k3 (J.hok.fresh (Nat.le_refl _))⟩
    · have lt := Heap.lt_size e
      rw [sortedHeap_old (Nat.ne_of_lt lt) (by rw [size_push']; exact Nat.lt_succ_of_lt lt)]
      exact Heap.get?_push_of_some _ e
    · rw [List.length_map, k2.length_eq]
      exact ez
end Fw
namespace Fw
open PySem PySem.Spec PyProof.Rows L2 SrtO

/-! ### lists of ints in the order of tuples -/
def lexI : List Int → List Int → Bool
  | [], [] => false
  | [], _ :: _ => true
  | _ :: _, [] => false
  | x :: xs, y :: ys => if x = y then lexI xs ys else decide (x < y)
theorem lexI_asym : ∀ {xs ys : List Int}, lexI xs ys = true → lexI ys xs = false
  | [], [], h => by cases h
  | [], _ :: _, _ => rfl
  | _ :: _, [], h => by cases h
  | x :: xs, y :: ys, h => by
    unfold lexI at h ⊢
    by_cases e : x = y
    · rw [if_pos e] at h
      rw [if_pos e.symm]
      exact lexI_asym h
    · rw [if_neg e, decide_eq_true_eq] at h
      rw [if_neg (fun z => e z.symm)]
      exact decide_eq_false (by omega)
theorem lexI_tr : ∀ {xs ys zs : List Int}, lexI ys xs = false → lexI zs ys = false → lexI zs xs = false
  | [], [], [], _, _ => rfl
  | [], [], _ :: _, _, _ => rfl
  | [], _ :: _, [], _, h => by cases h
  | [], _ :: _, _ :: _, _, _ => rfl
  | _ :: _, [], _, h, _ => by cases h
  | _ :: _, _ :: _, [], _, h => by cases h
  | x :: xs, y :: ys, z :: zs, h1, h2 => by
    unfold lexI at h1 h2 ⊢
    by_cases e1 : y = x
    · rw [if_pos e1] at h1
      by_cases e2 : z = y
      · rw [if_pos e2] at h2
        rw [if_pos (e2.trans e1)]
        exact lexI_tr h1 h2
      · rw [if_neg e2, decide_eq_false_iff_not] at h2
        rw [if_neg (fun q => e2 (q.trans e1.symm))]
        exact decide_eq_false (by omega)
    · rw [if_neg e1, decide_eq_false_iff_not] at h1
      by_cases e2 : z = y
      · rw [if_neg (fun q => e1 (e2.symm.trans q))]
        exact decide_eq_false (by omega)
      · rw [if_neg e2, decide_eq_false_iff_not] at h2
        rw [if_neg (by omega)]
        exact decide_eq_false (by omega)
theorem lexI_total : ∀ {xs ys : List Int}, lexI xs ys = false → xs ≠ ys → lexI ys xs = true
  | [], [], _, h => absurd rfl h
  | [], _ :: _, h, _ => by cases h
  | _ :: _, [], _, _ => rfl
  | x :: xs, y :: ys, h, n => by
    unfold lexI at h ⊢
    by_cases e : x = y
    · rw [if_pos e] at h
      rw [if_pos e.symm]
      exact lexI_total h fun z => n (by rw [e, z])
    · rw [if_neg e, decide_eq_false_iff_not] at h
      rw [if_neg (fun z => e z.symm)]
      exact decide_eq_true (by omega)
theorem lexI_head {x y : Int} {xs ys : List Int} (h : x < y) : lexI (x :: xs) (y :: ys) = true := by
  unfold lexI
  rw [if_neg (by omega)]
  exact decide_eq_true h
/-- two lists that rise strictly, with the same members, are one -/
theorem rise_ext {α : Type} {lt : α → α → Prop} (as : ∀ a b, lt a b → ¬ lt b a) : ∀ {xs ys : List α}, xs.Pairwise lt → ys.Pairwise lt → (∀ x, x ∈ xs ↔ x ∈ ys) → xs = ys
  | [], [], _, _, _ => rfl
  | [], y :: ys, _, _, h => absurd ((h y).mpr (List.mem_cons_self ..)) (by simp)
  | x :: xs, [], _, _, h => absurd ((h x).mp (List.mem_cons_self ..)) (by simp)
  | x :: xs, y :: ys, hx, hy, h => by
    obtain ⟨hx1, hx2⟩ := List.pairwise_cons.mp hx
    obtain ⟨hy1, hy2⟩ := List.pairwise_cons.mp hy
    have e : x = y := by
      rcases List.mem_cons.mp ((h x).mp (List.mem_cons_self ..)) with h1 | h1
      · exact h1
      · rcases List.mem_cons.mp ((h y).mpr (List.mem_cons_self ..)) with h2 | h2
        · exact h2.symm
        · exact absurd (hy1 _ h1) (as _ _ (hx1 _ h2))
    subst e
    rw [rise_ext as hx2 hy2 fun z => ?_]
    constructor
    · intro m
      rcases List.mem_cons.mp ((h z).mp (List.mem_cons_of_mem _ m)) with e | e
      · subst e; exact absurd (hx1 _ m) (as _ _ (hx1 _ m))
      · exact e
    · intro m
      rcases List.mem_cons.mp ((h z).mpr (List.mem_cons_of_mem _ m)) with e | e
      · subst e; exact absurd (hy1 _ m) (as _ _ (hy1 _ m))
      · exact e

/-! ### the machine's comparison of two tuples of ints -/
def lexF (fin : Bool) : List Int → List Int → Bool
  | x :: xs, y :: ys => if x = y then lexF fin xs ys else decide (x < y)
  | _, _ => fin
theorem lexF_eq : ∀ (xs ys : List Int), lexF (decide (xs.length < ys.length)) xs ys = lexI xs ys
  | [], [] => rfl
  | [], _ :: _ => by unfold lexF lexI; simp
  | _ :: _, [] => by unfold lexF lexI; simp
  | x :: xs, y :: ys => by
    unfold lexF lexI
    have e : decide ((x :: xs).length < (y :: ys).length) = decide (xs.length < ys.length) := by simp
    rw [e, lexF_eq xs ys]
section
variable {P : Program} {w : World} {A : Around} {s : Shared}
theorem kat_ints {fin : Bool} : ∀ {xs ys : List Value} {ns ms : List Int} (i : Nat), IntsAre xs ns → IntsAre ys ms → PySem.W.KatLex P w A true fin (fun r s' => s' = s ∧ r = lexF fin ns ms) (xs.zip ys) i s := by
  intro xs ys ns ms i hx
  induction hx generalizing ys ms i with
  | nil => intro _; exact PySem.W.kat_nil ⟨rfl, by cases ms <;> rfl⟩
  | cons x t hx ih =>
    intro hy
    cases hy with
    | nil => exact PySem.W.kat_nil ⟨rfl, rfl⟩
    | cons y u hy =>
      refine PySem.W.kat_cons (SeqAt.EqAt.int_int x t y u P w _ _ (PySem.W.kat_go (fun e => ?_) fun e => ?_))
      · have e : x = y := by simpa using e
        subst e
        unfold lexF
        rw [if_pos rfl]
        exact PySem.W.kat_yes (ih (i + 1) hy)
      · have e : ¬ x = y := by simpa using e
        unfold lexF
        rw [if_neg e]
        refine PySem.W.kat_no ?_
        cases hb : (true && i == 0) with
        | true => exact oneLt_int ⟨rfl, rfl⟩
        | false => exact PySem.W.kat_one _ _ (PyProof.Rows.lt_int (show s = s ∧ decide (x < y) = decide (x < y) from ⟨rfl, rfl⟩))
theorem swo_lexI (k : Value → List Int) : Swo fun v u => lexI (k v) (k u) := ⟨fun _ _ h => lexI_asym h, fun _ _ _ h1 h2 => lexI_tr h1 h2⟩
/-- tuples of ints, none empty, sort by their order -/
theorem tups_sortable {a : Addr} {vs : List Value} {k : Value → List Int} (h0 : 0 < vs.length) (hp : ∀ v ∈ vs, TS.TupInts s.heap v (k v) ∧ k v ≠ []) (ha : ∀ o, s.heap.get? a = some o → o.cls ≠ .type "tuple") : SortableO P w A s a vs fun v u => lexI (k v) (k u) := by
  intro h' keep
  have hp' : ∀ v ∈ vs, TS.TupInts h' v (k v) := fun v hv => (hp v hv).1.keeps fun b o e c => keep b o (fun z => ha o (z ▸ e) c) e
  have firsts : ∀ us : List Value, (∀ v ∈ us, v ∈ vs) → ∃ fs : List Value, PySem.W.KatTups h' us fs ∧ fs.length = us.length ∧ ∀ f ∈ fs, ∃ x t, f = Value.int x t := by
    intro us
    induction us with
    | nil => exact fun _ => ⟨[], PySem.W.KatTups.nil, rfl, fun _ hm => nomatch hm⟩
    | cons v us ih =>
      intro hu
      obtain ⟨fs, g1, g2, g3⟩ := ih fun z hz => hu z (List.mem_cons_of_mem _ hz)
      have hv := hu v (List.mem_cons_self ..)
      obtain ⟨b, xs, rfl, ⟨o, ho, hc, n, hd⟩, hi⟩ := hp' v hv
      have ne := (hp _ hv).2
      generalize k (.ref b) = kb at hi ne
      obtain ⟨l⟩ := xs
      cases l with
      | nil =>
        have hi : IntsAre [] kb := hi
        cases hi
        exact absurd rfl ne
      | cons f l =>
        have hf : ∃ x t, f = Value.int x t := by
          have hi : IntsAre (f :: l) kb := hi
          cases hi
          exact ⟨_, _, rfl⟩
        refine ⟨f :: fs, PySem.W.KatTups.cons ho hc hd rfl g1, by rw [List.length_cons, List.length_cons, g2], fun z hz => ?_⟩
        rcases List.mem_cons.mp hz with rfl | hz
        · exact hf
        · exact g3 z hz
  obtain ⟨fs, g1, g2, g3⟩ := firsts vs fun _ h => h
  refine ⟨tuples' true, fun Q E hq => ?_, fun p q hm hm' => ?_⟩
  · refine PySem.W.kat_kind (T := .type "int") g1 (by omega) (fun f hf => ?_) (by rfl) ?_
    · obtain ⟨x, t, rfl⟩ := g3 f hf
      exact PySem.W.Looks.now
    · rw [show (Value.type "int" != Value.type "tuple") = true by decide +kernel]
      exact hq
  · obtain ⟨b, xs, e1, ⟨o, ho, hc, n, hd⟩, hi⟩ := hp' p.1 hm
    obtain ⟨b2, xs2, e2, ⟨o2, ho2, hc2, n2, hd2⟩, hi2⟩ := hp' q.1 hm'
    have fe : (lt2 fun v u => lexI (k v) (k u)) p q = lexI (k p.1) (k q.1) := rfl
    rw [fe, ← lexF_eq]
    have l1 : (k p.1).length = xs.size := by rw [← hi.length]; simp
    have l2 : (k q.1).length = xs2.size := by rw [← hi2.length]; simp
    rw [l1, l2]
    generalize k p.1 = ns at hi
    generalize k q.1 = ms at hi2
    rw [e1, e2]
    exact PySem.W.kat_lt ho hd ho2 hd2 (kat_ints 0 hi hi2)
end

/-- sorted(set), the members tuples of ints, none empty -/
def rSortedTV (K : PySem.W.Frag) (P : Program) (w : World) : List V → Hp → VK → Prop := fun vs H Q => ∃ (a : Addr) (L : List (Addr × List Int)), vs = [V.ref a] ∧ H a = some (SetTO P w a L) ∧ (∀ p ∈ L, SqT K H p.1 (vi p.2) ∧ p.2 ≠ []) ∧
  ∀ (L' : List (Addr × List Int)) (p : Addr), (∀ q, q ∈ L' ↔ q ∈ L) → (L'.map (·.2)).Pairwise (fun x y => lexI x y = true) → H p = none → Q (.ref p) (upd H p (.lst (L'.map fun q => V.ref q.1)))
theorem cr_sortedTV {X : Cx} (hc : X.calm = true) : CallR X (.builtin "sorted") (rSortedTV X.K X.prog X.w) := by
  intro pins s σ H vs us Q I r h
  obtain ⟨a, L, rfl, ha, hk, q⟩ := h
  rw [Vals.ref1 r]
  have R0 : SetT0 X.prog X.w s.heap a L := (I.hok a _ ha).1
  obtain ⟨es, ep, t, R⟩ := R0.full fun p hp => I.isT (hk p hp).1
  have few := R.few
  have rows : es.toList.map (·.2) = L.map fun q => Value.ref q.1 := by
    rw [R.rows]
    unfold rowsOf
    rw [List.map_map]
    rfl
  have one : ∀ q ∈ L, ∀ r ∈ L, q.1 = r.1 → q = r := fun q hq r hr e => by
    have a1 := R.tup q hq
    rw [e] at a1
    exact Prod.ext e (a1.inj (R.tup r hr))
  have tup : ∀ (h' : Heap), (∀ b o, s.heap.get? b = some o → h'.get? b = some o) → ∀ q ∈ L, TS.TupInts h' (.ref q.1) q.2 := fun h' kk q hq => tupInts_of (P := X.prog) (w := X.w) (isT_keep (R.tup q hq) kk)
  obtain ⟨o, ho, hex, hd⟩ := R.ob
  have hsz := R.size
  refine sorted_any (swo_lexI (TS.intsOf s.heap)) (fun us z => (∀ b o, s.heap.get? b = some o → z.heap.get? b = some o) ∧ s.heap.objs.size ≤ z.heap.objs.size ∧ z.gens = s.gens ∧ z.os = s.os ∧ us.Perm (L.map fun q => Value.ref q.1))
    (collect_set (A := X.A.in1) (I.ok.hd hc) ⟨o, ho, hex.1, hd⟩ R.fits (by unfold scanBound; omega) R.tab.ris R.led fun z out k1 k2 k3 k4 k5 => ⟨k1, k2, k3, k4, by rw [← rows]; exact k5⟩) ?_ ?_ ?_
  · rintro us z ⟨_, _, _, _, pm⟩
    rw [pm.length_eq, List.length_map, sizeLine_eq]
    omega
  · rintro us z ⟨k1, _, _, _, pm⟩ h2
    refine tups_sortable (by omega) (fun v hv => ?_) fun o' e => ?_
    · obtain ⟨p, hp, rfl⟩ := List.mem_map.mp (pm.mem_iff.mp hv)
      have e0 : TS.intsOf s.heap (.ref p.1) = p.2 := (tup s.heap (fun _ _ e => e) p hp).ints
      rw [e0]
      exact ⟨tup _ (fun b o e => Heap.get?_push_of_some _ (k1 b o e)) p hp, (hk p hp).2⟩
    · have e' : some o' = some (seqObj "list" us.toArray 0) := e.symm.trans (Heap.get?_push_size _ rfl)
      cases e'
      intro c
      exact absurd (Value.type.inj c) (by decide)
  · rintro us z out ⟨k1, k2, k3, k4, pm⟩ h1 h2
    have pm2 := h2.perm.trans pm
    obtain ⟨L', pL, eL⟩ := perm_map_inv pm2 rfl
    have at0 : (z.heap.push (seqObj "list" us.toArray 0)).get? z.heap.objs.size = some (seqObj "list" us.toArray 0) := Heap.get?_push_size _ rfl
    obtain ⟨e', he'⟩ := sortedHeap_at (vs := us) (out := out.toArray) at0
    have hn : H z.heap.objs.size = none := I.hok.fresh k2
    have kk : ∀ b o, s.heap.get? b = some o → (sortedHeap (z.heap.push (seqObj "list" us.toArray 0)) z.heap.objs.size us out.toArray).get? b = some o := fun b o e => by
      have lt := Heap.lt_size (k1 b o e)
      rw [sortedHeap_old (Nat.ne_of_lt lt) (by rw [size_push']; exact Nat.lt_succ_of_lt lt)]
      exact Heap.get?_push_of_some _ (k1 b o e)
    have rise : (L'.map (·.2)).Pairwise (fun x y => lexI x y = true) := by
      rw [eL] at h1
      have p1 := List.pairwise_map.mp h1
      have nd : (L'.map (·.2)).Nodup := (pL.map _).nodup_iff.mpr R.nd
      refine List.pairwise_map.mpr (List.Pairwise.imp_of_mem ?_ (p1.and (List.pairwise_map.mp nd)))
      rintro q r hq hr ⟨g1, g2⟩
      have f1 : TS.intsOf s.heap (.ref q.1) = q.2 := (tup s.heap (fun _ _ e => e) q (pL.mem_iff.mp hq)).ints
      have f2 : TS.intsOf s.heap (.ref r.1) = r.2 := (tup s.heap (fun _ _ e => e) r (pL.mem_iff.mp hr)).ints
      have g1 : lexI (TS.intsOf s.heap (.ref r.1)) (TS.intsOf s.heap (.ref q.1)) = false := g1
      rw [f1, f2] at g1
      exact lexI_total g1 fun e => g2 e.symm
    have J : Inv X pins σ (upd H z.heap.objs.size (.lst (L'.map fun q => V.ref q.1))) { s with heap := sortedHeap (z.heap.push (seqObj "list" us.toArray 0)) z.heap.objs.size us out.toArray, gens := z.gens, drawn := z.drawn, toks := z.toks } :=
      I.call (ch := []) (Un.laid kk k2 hn) (I.hok.laid kk k2 ⟨by rw [List.length_map, pL.length_eq, sizeLine_eq]; omega, out, e', by rw [eL]; exact vals_of_refs L', he'⟩) (by rw [k3]; exact I.bare) (fun _ z => nomatch z)
    have ez : ({ z with heap := sortedHeap (z.heap.push (seqObj "list" us.toArray 0)) z.heap.objs.size us out.toArray } : Shared) = { s with heap := sortedHeap (z.heap.push (seqObj "list" us.toArray 0)) z.heap.objs.size us out.toArray, gens := z.gens, drawn := z.drawn, toks := z.toks } := by
      cases z
      cases k4
      rfl
    rw [ez]
    exact ⟨.ref z.heap.objs.size, _, J, rfl, q L' _ (fun x => pL.mem_iff) rise hn⟩
end Fw
namespace Fw
open PySem PySem.Spec PyProof.Rows L2

/-- what can be reached from g over rooms of R -/
inductive Wk (D : List (Int × Int)) (R : List Int) (g : Int) : Int → Prop
  | base : Wk D R g g
  | step {v o : Int} : Wk D R g v → adj D v o → o ∈ R → Wk D R g o
section
variable {D : List (Int × Int)} {R : List Int} {g : Int}
theorem Wk.mem {v : Int} (h : Wk D R g v) : v = g ∨ v ∈ R := by
  cases h with
  | base => exact .inl rfl
  | step _ _ m => exact .inr m
theorem Wk.trans {a b c : Int} (h : Wk D R a b) (k : Wk D R b c) : Wk D R a c := by
  induction k with
  | base => exact h
  | step _ r m ih => exact .step ih r m
theorem Wk.symm {v : Int} (hg : g ∈ R) (h : Wk D R g v) : Wk D R v g := by
  induction h with
  | base => exact .base
  | @step v o k r m ih =>
    have mv : v ∈ R := by
      rcases k.mem with e | e
      · rw [e]; exact hg
      · exact e
    exact (Wk.step .base (adj_symm r) mv).trans ih
theorem SDone.wk {n : Int} {kvs : List (Key × V)} (S : SDone n D R g kvs) (v : Int) : isK kvs v = true ↔ Wk D R g v := by
  constructor
  · intro h
    unfold isK at h
    cases e : lk kvs v with
    | none => rw [e] at h; cases h
    | some x =>
      obtain ⟨p, c⟩ := S.inv.way v x e
      clear e h
      induction c with
      | goal _ => exact .base
      | @step v u p e a _ _ ih =>
        rcases S.inv.rng v (by unfold isK; rw [e]; rfl) with e2 | m
        · rw [e2]; exact .base
        · exact .step ih (adj_symm a) m
  · intro h
    induction h with
    | base => unfold isK; rw [S.inv.goal]; rfl
    | step _ r m ih => exact S.closed _ _ ih r m
/-- the component of g, ascending -/
structure IsC (D : List (Int × Int)) (R : List Int) (g : Int) (l : List Int) : Prop where
  up : l.Pairwise (· < ·)
  mem : ∀ v, v ∈ l ↔ Wk D R g v
theorem IsC.one {l l' : List Int} (a : IsC D R g l) (b : IsC D R g l') : l = l' := up_ext a.up b.up fun v => (a.mem v).trans (b.mem v).symm
theorem IsC.of {l ks : List Int} (p : l.Perm ks) (s : l.Pairwise (· ≤ ·)) (n : ks.Nodup) (m : ∀ v, v ∈ ks ↔ Wk D R g v) : IsC D R g l := ⟨up_of s (p.nodup_iff.mpr n), fun v => by rw [p.mem_iff]; exact m v⟩
end
theorem rg_filter_len {n : Int} {p : Int → Bool} : ((rg n).filter p).length ≤ n.toNat := by
  refine Nat.le_trans (List.length_filter_le _ _) ?_
  rw [rg_len]
  exact Nat.le_refl _

end Fw
namespace Fw
open PySem PySem.Spec PyProof.Rows L2
/-- the components of the first i rooms -/
structure CInv (D : List (Int × Int)) (R : List Int) (i : Nat) (Cs : List (Addr × List Int)) : Prop where
  a : ∀ c ∈ Cs, ∃ r ∈ R.take i, IsC D R r c.2
  b : ∀ r ∈ R.take i, ∃ c ∈ Cs, r ∈ c.2
  up : (Cs.map (·.2)).Pairwise (fun x y => lexI x y = true)
  n : Cs.length ≤ i
section
variable {D : List (Int × Int)} {R : List Int}
theorem IsC.has {g : Int} {l : List Int} (h : IsC D R g l) : g ∈ l := (h.mem g).mpr .base
theorem take_succ_mem {R : List Int} {i : Nat} {r x : Int} (e : R[i]? = some r) : x ∈ R.take (i + 1) ↔ x ∈ R.take i ∨ x = r := by
  rw [List.take_add_one, e, List.mem_append]
  simp
theorem CInv.skip {i : Nat} {Cs : List (Addr × List Int)} (C : CInv D R i Cs) {r : Int} (e : R[i]? = some r) (h : ∃ c ∈ Cs, r ∈ c.2) : CInv D R (i + 1) Cs := by
  refine ⟨fun c hc => ?_, fun x hx => ?_, C.up, Nat.le_succ_of_le C.n⟩
  · obtain ⟨r', h1, h2⟩ := C.a c hc
    exact ⟨r', (take_succ_mem e).mpr (.inl h1), h2⟩
  · rcases (take_succ_mem e).mp hx with hx | hx
    · exact C.b x hx
    · rw [hx]; exact h
theorem CInv.add {i : Nat} {Cs : List (Addr × List Int)} (C : CInv D R i Cs) {r : Int} (e : R[i]? = some r) (upR : R.Pairwise (· < ·)) (no : ∀ c ∈ Cs, r ∉ c.2) {t : Addr} {l : List Int} (hl : IsC D R r l) : CInv D R (i + 1) (Cs ++ [(t, l)]) := by
  have hi : i < R.length := (List.getElem?_eq_some_iff.mp e).1
  have er : R[i] = r := (List.getElem?_eq_some_iff.mp e).2
  have mr : r ∈ R := List.mem_of_getElem? e
  have low : ∀ v ∈ R, v < r → v ∈ R.take i := fun v hv hlt => by
    obtain ⟨j, hj, ej⟩ := List.mem_iff_getElem.mp hv
    refine List.mem_take_iff_getElem.mpr ⟨j, ?_, ej⟩
    have : ¬ i ≤ j := fun hij => by
      rcases Nat.lt_or_eq_of_le hij with h | h
      · have := (List.pairwise_iff_getElem.mp upR) i j hi hj h
        omega
      · subst h; omega
    omega
  have least : ∀ v ∈ l, r ≤ v := fun v hv => by
    by_cases hlt : v < r
    · have wv := (hl.mem v).mp hv
      have mv : v ∈ R := by
        rcases wv.mem with z | z
        · omega
        · exact z
      obtain ⟨c, hc, hvc⟩ := C.b v (low v mv hlt)
      obtain ⟨r', h1, h2⟩ := C.a c hc
      have w2 : Wk D R r' r := ((h2.mem v).mp hvc).trans (wv.symm mr)
      exact absurd ((h2.mem r).mpr w2) (no c hc)
    · omega
  refine ⟨fun c hc => ?_, fun x hx => ?_, ?_, ?_⟩
  · rcases List.mem_append.mp hc with hc | hc
    · obtain ⟨r', h1, h2⟩ := C.a c hc
      exact ⟨r', (take_succ_mem e).mpr (.inl h1), h2⟩
    · rw [List.mem_singleton.mp hc]
      exact ⟨r, (take_succ_mem e).mpr (.inr rfl), hl⟩
  · rcases (take_succ_mem e).mp hx with hx | hx
    · obtain ⟨c, hc, h⟩ := C.b x hx
      exact ⟨c, List.mem_append_left _ hc, h⟩
    · exact ⟨(t, l), List.mem_append_right _ (List.mem_singleton.mpr rfl), by rw [hx]; exact hl.has⟩
  · rw [List.map_append, List.pairwise_append]
    refine ⟨C.up, List.pairwise_singleton _ _, fun x hx y hy => ?_⟩
    have ey : y = l := List.mem_singleton.mp hy
    obtain ⟨c, hc, ec⟩ := List.mem_map.mp hx
    obtain ⟨r', h1, h2⟩ := C.a c hc
    have rr : r' < r := by
      obtain ⟨j, hj, ej⟩ := List.mem_take_iff_getElem.mp h1
      have := (List.pairwise_iff_getElem.mp upR) j i (by omega) hi (by omega)
      omega
    subst ey
    subst ec
    have hr' := h2.has
    have u2 := h2.up
    have hr := hl.has
    revert hr' u2 hr least
    cases c.2 with
    | nil => intro _ h; cases h
    | cons a as =>
      cases y with
      | nil => intro _ _ _ h; cases h
      | cons b bs =>
        intro ls hr' u2 _
        refine lexI_head ?_
        have h1 : r ≤ b := ls b (List.mem_cons_self ..)
        have h2 : a ≤ r' := by
          rcases List.mem_cons.mp hr' with z | z
          · omega
          · exact Int.le_of_lt ((List.pairwise_cons.mp u2).1 r' z)
        omega
  · rw [List.length_append, List.length_singleton]
    exact Nat.succ_le_succ C.n
theorem CInv.done {Cs : List (Addr × List Int)} (C : CInv D R R.length Cs) (l : List Int) : l ∈ Cs.map (·.2) ↔ ∃ r ∈ R, IsC D R r l := by
  have ha := C.a
  have hb := C.b
  rw [List.take_length] at ha hb
  constructor
  · intro h
    obtain ⟨c, hc, e⟩ := List.mem_map.mp h
    subst e
    exact ha c hc
  · rintro ⟨r, hr, h⟩
    obtain ⟨c, hc, hrc⟩ := hb r hr
    obtain ⟨r', h1, h2⟩ := ha c hc
    have w := (h2.mem r).mp hrc
    have : c.2 = l := up_ext h2.up h.up fun v => by
      rw [h2.mem, h.mem]
      exact ⟨fun k => (w.symm h1).trans k, fun k => w.trans k⟩
    exact this ▸ List.mem_map_of_mem hc
end

section
variable {P : Program} {w : World} {K : PySem.W.Frag} {mg : Str → Option Value} {base : Heap}
def refs (Cs : List (Addr × List Int)) : List V := Cs.map fun c => V.ref c.1
def TupsAt (H : Hp) (Cs : List (Addr × List Int)) : Prop := ∀ c ∈ Cs, H c.1 = some (.tup (vi c.2)) ∧ c.2.length ≤ 20
theorem TupsAt.same {H H' : Hp} {Cs : List (Addr × List Int)} (h : TupsAt H Cs) (e : Same H H') : TupsAt H' Cs := fun c hc => ⟨e _ _ (h c hc).1, (h c hc).2⟩
theorem get_refs {Cs : List (Addr × List Int)} {i : Nat} {x : V} (h : (refs Cs)[i]? = some x) : ∃ c, Cs[i]? = some c ∧ x = .ref c.1 := by
  unfold refs at h
  rw [List.getElem?_map] at h
  cases e : Cs[i]? with
  | none => rw [e] at h; cases h
  | some v => rw [e] at h; exact ⟨v, rfl, (Option.some.inj h).symm⟩
def spComp (K : PySem.W.Frag) : Sp := fun vs H Q _ => ∃ (h rl : Addr) (n : Int) (D : List (Int × Int)) (R : List Int), vs = [.ref h, .ref rl] ∧ HouseAt H h n D ∧ Forest n D ∧ 0 ≤ n ∧ n ≤ 8 ∧ H rl = some (.tup (vi R)) ∧ R.Pairwise (· < ·) ∧ R.length ≤ 8 ∧
  ∀ H' t Cs, Same H H' → H' t = some (.tup (refs Cs)) → TupsAt H' Cs → (Cs.map (·.2)).Pairwise (fun x y => lexI x y = true) → (∀ l, l ∈ Cs.map (·.2) ↔ ∃ r ∈ R, IsC D R r l) → Cs.length ≤ 8 → Q (.ref t) H'
abbrev nComp : List Str := ["house", "rooms", "found", "room", "component"]
theorem scComp : FnScope nComp ["house", "rooms"] (defScope sComp) := ⟨rfl, rfl, rfl, by decide +kernel, rfl, by decide +kernel, by decide +kernel⟩
theorem ok_comp {f fN fS : Addr} {fd fdN fdS : FuncData} (F : Fun K "components" "components" sComp f fd) (T : Nm mg) (Tany : mg "any" = none) (DN : Def K mg "neighbors" sNb fN fdN ["house", "room"]) (DS : Def K mg "steps_toward" sSteps fS fdS ["house", "goal", "rooms"]) : FnOk P w K mg base CX0 3 f fd ["house", "rooms"] (spComp K) := by
  have GS : FnOk P w K mg base CX0 2 fS fdS ["house", "goal", "rooms"] (spSteps K) := ok_steps DS.F T DN
  refine F.ok scComp (fun vs H Q E h => ?_) (fun cdv A outer s H vs Q E hr h => ?_)
  · obtain ⟨h, rl, n, D, R, rfl, _⟩ := h
    rfl
  · obtain ⟨h, rl, n, D, R, rfl, hH, hF, n0, n1, eR, upR, lR, q⟩ := h
    refine ⟨_, pss_cons (ps_set (i := 2) scComp.nd rfl (.inl rfl) (pe_lst pa_nil))
      (pss_cons (ps_for PassesOwn.never rfl (pi_tup (pv 1)) (pg_name (i := 3) scComp.nd rfl (Or.inr rfl))
        (pss_one (ps_if (pt_not (pt_val (pe_callB (cr_any rfl) (by rfl) Tany (by decide +kernel) (pa_cons
            (pe_lc (own := [("component", 4)]) (g := gName 4) (tt := tYes) (te := tOp (rIn K false) (tVar 3) (tVar 4)) (by rfl) scComp.nd (pi_list (pv 2)) (blkOk_by (own := [("component", 4)]) (N := nComp) (sc := defScope sComp) (by decide +kernel))
              (fun _ _ _ _ _ => pg_name (i := 4) scComp.nd rfl (Or.inl rfl)) (fun _ _ _ _ _ => pts_nil) (fun _ _ _ _ _ => pe_cmpR op_in_seq (pv 3) (pv 4) (by rfl))) pa_nil))))
          (pss_one (ps_expr (pe_bm PySem.F.plainAttrs_list PySem.F.slot_list_append PySem.F.type_list_append mt_append (pv 2) (pa_cons (pe_callTy call_tuple_of (by rfl) T.tuple (by decide +kernel) (pa_cons
            (pe_callB (cr_sortedDI rfl) (by rfl) T.sorted (by decide +kernel) (pa_cons (pe_call GS hr (by rfl) DS.g DS.F.kp DS.b .nil pass0 (pa_cons (pv 0) (pa_cons (pv 3) (pa_cons (pv 1) pa_nil)))) pa_nil)) pa_nil)) pa_nil))))
          pss_nil)))
      (pss_one (ps_ret (pe_callTy call_tuple_of (by rfl) T.tuple (by decide +kernel) (pa_cons (pv 2) pa_nil))))), ?_⟩
    refine ⟨Nat.zero_le _, fun fl hfl => ?_⟩
    have t0 : TupsAt (upd H fl (.lst [])) [] := fun c hc => by cases hc
    have c0 : CInv D R 0 [] := ⟨fun c hc => (by cases hc), fun r hr => (by simp at hr), List.Pairwise.nil, Nat.le_refl _⟩
    refine ⟨_, rfl, rl, rfl, ⟨_, SqT.of (same_upd hfl _ _ eR)⟩, for_tup (K := K) (a := rl) (xs := vi R) (fun i σ H' => ∃ (Cs : List (Addr × List Int)) (y3 y4 : Option V), σ = [some (.ref h), some (.ref rl), some (.ref fl), y3, y4] ∧ Same H H' ∧ H' fl = some (.lst (refs Cs)) ∧ TupsAt H' Cs ∧ CInv D R i Cs)
      ⟨[], none, none, rfl, same_upd hfl, upd_same, t0, c0⟩ (fun i σ H' _ ⟨_, _, _, _, sm, _⟩ => SqT.of (sm _ _ eR)) ?_ ?_⟩
    · rintro i x σ H1 hx ⟨Cs, y3, y4, rfl, s1, ef, hT, C⟩
      obtain ⟨r, er, rfl⟩ := get_vi hx
      have hi : i < R.length := (List.getElem?_eq_some_iff.mp er).1
      have Cn := C.n
      dsimp only [gName]
      refine if_by (fun b H2 => Same H1 H2 ∧ (b = true → ∀ c ∈ Cs, r ∉ c.2) ∧ (b = false → ∃ c ∈ Cs, r ∈ c.2)) ?_ ?_ ?_
      · rintro H2 ⟨s2, no, _⟩
        have no := no rfl
        have ef2 := s2 _ _ ef
        refine ⟨_, rfl, .inl ⟨rfl, _, SqL.of ef2⟩, _, rfl, _, rfl, _, rfl, h, rl, n, D, r, R, rfl, hH.same (s1.trans s2), hF, n0, n1, .inr (SqT.of (s2 _ _ (s1 _ _ eR))), fun H3 d kvs s3 hd ed S => ?_⟩
        obtain ⟨ks, k1, k2, k3⟩ := S.inv.keys
        have sl := S.inv.len
        have kl : ks.length = kvs.length := by simpa using (congrArg List.length k1).symm
        refine ⟨d, kvs, ks, rfl, ed, k1, fun ys p pm up hp => ⟨p, _, rfl, .inl ⟨SqL.of upd_same, fun t ht => ?_⟩⟩⟩
        have sA : Same H2 (upd (upd H3 p (.lst (vi ys))) t (.tup (vi ys))) := s3.trans ((same_upd hp).trans (same_upd ht))
        have ef4 := sA _ _ ef2
        have hl : IsC D R r ys := IsC.of pm up k2 fun v => (k3 v).trans (S.wk v)
        refine ⟨fl, _, _, rfl, rfl, ef4, by unfold refs; rw [List.length_map]; exact small1000 (by omega), ?_⟩
        refine ⟨Cs ++ [(t, ys)], _, _, rfl, same_put (s1.trans (s2.trans sA)) hfl, ?_, fun c hc => ?_, C.add er upR no hl⟩
        · rw [upd_same]
          unfold refs
          rw [List.map_append]
          rfl
        · rcases List.mem_append.mp hc with hc | hc
          · have h1 := hT.same (s2.trans sA) c hc
            exact ⟨(upd_ne (ne_of h1.1 ef4 (by intro z; cases z))).trans h1.1, h1.2⟩
          · rw [List.mem_singleton.mp hc]
            have h1 : (upd (upd H3 p (.lst (vi ys))) t (.tup (vi ys))) t = some (.tup (vi ys)) := upd_same
            exact ⟨(upd_ne (ne_of h1 ef4 (by intro z; cases z))).trans h1, by show ys.length ≤ 20; rw [pm.length_eq]; omega⟩
      · rintro H2 ⟨s2, _, yes⟩
        exact ⟨Cs, _, _, rfl, s1.trans s2, s2 _ _ ef, hT.same s2, C.skip er (yes rfl)⟩
      · intro QQ hQ
        refine ⟨_, rfl, fl, rfl, ⟨_, SqL.of ef⟩, fun L hL => lc_list (K := K) (a := fl) (xs := refs Cs) (fun j H2 => Same H1 H2 ∧ H2 L = some (.lst ((Cs.take j).map fun c => V.bl (decide (r ∈ c.2))))) ⟨same_upd hL, upd_same⟩ (fun j H2 _ hh => SqL.of (hh.1 _ _ ef)) ?_ ?_⟩
        · rintro j x H2 hx ⟨s2, e2⟩
          obtain ⟨c, ec, rfl⟩ := get_refs hx
          have hc := hT.same s2 c (List.mem_of_getElem? ec)
          have hj : j < Cs.length := (List.getElem?_eq_some_iff.mp ec).1
          refine ⟨rfl, ?_⟩
          unfold tYes
          refine iteT ?_
          refine ⟨_, rfl, _, rfl, c.1, _, rfl, .inr (SqT.of hc.1), rfl, flat_ints c.2, _, e2, ?_, same_put s2 hL, ?_⟩
          · rw [List.length_map, List.length_take]
            exact small1000 (by omega)
          · rw [upd_same, List.take_add_one, ec, List.map_append]
            show some (HO.lst (_ ++ [V.bl (inV (.int r) (vi c.2))])) = _
            rw [inV_ints]
            rfl
        · rintro H2 ⟨s2, e2⟩
          have el : (refs Cs).length = Cs.length := by unfold refs; rw [List.length_map]
          rw [el, List.take_length] at e2
          refine ⟨L, Cs.map fun c => decide (r ∈ c.2), rfl, SqL.of (by rw [List.map_map]; exact e2), _, rfl, hQ _ _ ⟨s2, fun e c hc m => ?_, fun e => ?_⟩⟩
          · have : ((Cs.map fun c => decide (r ∈ c.2)).any id) = true := List.any_eq_true.mpr ⟨true, List.mem_map.mpr ⟨c, hc, decide_eq_true m⟩, rfl⟩
            rw [this] at e
            cases e
          · have e : ((Cs.map fun c => decide (r ∈ c.2)).any id) = true := by simpa using e
            obtain ⟨b, hb, hb2⟩ := List.any_eq_true.mp e
            obtain ⟨c, hc, e3⟩ := List.mem_map.mp hb
            have hb2 : b = true := hb2
            rw [hb2] at e3
            exact ⟨c, hc, of_decide_eq_true e3⟩
    · rintro σ H1 ⟨Cs, y3, y4, rfl, s1, ef, hT, C⟩
      rw [List.length_map] at C
      have Cn := C.n
      refine ⟨_, rfl, fl, _, rfl, .inl ⟨SqL.of ef, fun t ht => ?_⟩⟩
      exact q _ t Cs (s1.trans (same_upd ht)) upd_same (hT.same (same_upd ht)) C.up C.done (by omega)
end
end Fw
namespace Fw
open PySem PySem.Spec PyProof.Rows L2

/-- the rooms with people; the rooms without -/
def occ (n : Int) (P : List (Str × Int)) : List Int := (rg n).filter fun r => decide (r ∈ P.map (·.2))
def emp (n : Int) (P : List (Str × Int)) : List Int := (rg n).filter fun r => !decide (r ∈ P.map (·.2))
theorem rg_snoc (i : Nat) : (List.range (i + 1)).map (fun (j : Nat) => 0 + (j : Int)) = (List.range i).map (fun (j : Nat) => 0 + (j : Int)) ++ [0 + (i : Int)] := by
  rw [List.range_succ, List.map_append]
  rfl
theorem rg0 (n : Int) : (List.range n.toNat).map (fun (j : Nat) => 0 + (j : Int)) = rg n := List.map_congr_left fun i _ => by omega
theorem mem_occ {n : Int} {P : List (Str × Int)} {r : Int} : r ∈ occ n P ↔ (0 ≤ r ∧ r < n) ∧ r ∈ P.map (·.2) := by
  unfold occ
  rw [List.mem_filter, mem_rg, decide_eq_true_eq]
theorem mem_emp {n : Int} {P : List (Str × Int)} {r : Int} : r ∈ emp n P ↔ (0 ≤ r ∧ r < n) ∧ r ∉ P.map (·.2) := by
  unfold emp
  rw [List.mem_filter, mem_rg, Bool.not_eq_true', decide_eq_false_iff_not]
theorem Pl.mem_occ {n : Int} {P : List (Str × Int)} (h : Pl n P) {r : Int} : r ∈ occ n P ↔ r ∈ P.map (·.2) := by
  rw [Fw.mem_occ]
  refine ⟨fun x => x.2, fun x => ⟨?_, x⟩⟩
  obtain ⟨y, hy, e⟩ := List.mem_map.mp x
  rw [← e]
  exact h.rm y hy
theorem rg_up (n : Int) : (rg n).Pairwise (· < ·) := range_up n.toNat
theorem occ_up (n : Int) (P : List (Str × Int)) : (occ n P).Pairwise (· < ·) := (rg_up n).filter _
theorem emp_up (n : Int) (P : List (Str × Int)) : (emp n P).Pairwise (· < ·) := (rg_up n).filter _
theorem occ_len (n : Int) (P : List (Str × Int)) : (occ n P).length ≤ n.toNat := rg_filter_len
theorem emp_len (n : Int) (P : List (Str × Int)) : (emp n P).length ≤ n.toNat := rg_filter_len
theorem in_empty (P : List (Str × Int)) (r : Int) : ((inside P [r]).map V.str).isEmpty = !decide (r ∈ P.map (·.2)) := by
  rw [Bool.eq_iff_iff, List.isEmpty_iff, List.map_eq_nil_iff, inside_nil, Bool.not_eq_true', decide_eq_false_iff_not]
  constructor
  · intro h m
    obtain ⟨y, hy, e⟩ := List.mem_map.mp m
    exact h y hy (List.mem_singleton.mpr e)
  · intro h x hx m
    rw [List.mem_singleton] at m
    exact h (m ▸ List.mem_map_of_mem (f := (·.2)) hx)
/-- the regions of the rooms R -/
structure Regs (D : List (Int × Int)) (R : List Int) (Ls : List (List Int)) : Prop where
  up : Ls.Pairwise (fun x y => lexI x y = true)
  mem : ∀ l, l ∈ Ls ↔ ∃ r ∈ R, IsC D R r l
def RegsAt (H : Hp) (t : Addr) (D : List (Int × Int)) (R : List Int) (Cs : List (Addr × List Int)) : Prop := H t = some (.tup (refs Cs)) ∧ TupsAt H Cs ∧ Cs.length ≤ 8 ∧ Regs D R (Cs.map (·.2))
theorem RegsAt.same {H H' : Hp} {t : Addr} {D : List (Int × Int)} {R : List Int} {Cs : List (Addr × List Int)} (x : RegsAt H t D R Cs) (e : Same H H') : RegsAt H' t D R Cs := ⟨e _ _ x.1, x.2.1.same e, x.2.2⟩
theorem RegsAt.tk {H H' : Hp} {t : Addr} {D : List (Int × Int)} {R : List Int} {Cs : List (Addr × List Int)} (x : RegsAt H t D R Cs) (e : Tk H H') : RegsAt H' t D R Cs := ⟨e.t x.1, fun c hc => ⟨e.t (x.2.1 c hc).1, (x.2.1 c hc).2⟩, x.2.2⟩
theorem Wk.mono {D : List (Int × Int)} {R R' : List Int} {g v : Int} (h : Wk D R g v) (m : ∀ x ∈ R, x ∈ R') : Wk D R' g v := by
  induction h with
  | base => exact .base
  | step _ a o ih => exact .step ih a (m _ o)
theorem Wk.congr {D : List (Int × Int)} {R R' : List Int} (h : ∀ x, x ∈ R ↔ x ∈ R') {g v : Int} : Wk D R g v ↔ Wk D R' g v := ⟨fun w => w.mono fun x hx => (h x).mp hx, fun w => w.mono fun x hx => (h x).mpr hx⟩
theorem IsC.congr {D : List (Int × Int)} {R R' : List Int} (h : ∀ x, x ∈ R ↔ x ∈ R') {g : Int} {l : List Int} (i : IsC D R g l) : IsC D R' g l := ⟨i.up, fun v => (i.mem v).trans (Wk.congr h)⟩
theorem IsC.re {D : List (Int × Int)} {R : List Int} {g r : Int} {l : List Int} (h : IsC D R g l) (hg : g ∈ R) (hr : r ∈ l) : IsC D R r l := by
  refine ⟨h.up, fun v => ?_⟩
  have w := (h.mem r).mp hr
  rw [h.mem]
  exact ⟨fun k => (w.symm hg).trans k, fun k => w.trans k⟩
theorem IsC.sub {D : List (Int × Int)} {R : List Int} {g : Int} {l : List Int} (h : IsC D R g l) (hg : g ∈ R) : ∀ x ∈ l, x ∈ R := fun x hx => by
  rcases ((h.mem x).mp hx).mem with e | e
  · rw [e]; exact hg
  · exact e
section
variable {D : List (Int × Int)} {R : List Int} {Ls : List (List Int)}
theorem Regs.has (h : Regs D R Ls) {l : List Int} (hl : l ∈ Ls) {r : Int} (hr : r ∈ l) : r ∈ R ∧ IsC D R r l := by
  obtain ⟨g, hg, hc⟩ := (h.mem l).mp hl
  exact ⟨hc.sub hg r hr, hc.re hg hr⟩
theorem Regs.one (h : Regs D R Ls) {l m : List Int} (hl : l ∈ Ls) (hm : m ∈ Ls) {r : Int} (h1 : r ∈ l) (h2 : r ∈ m) : l = m := (h.has hl h1).2.one (h.has hm h2).2
/-- the list of the component of a room: by what can be reached -/
theorem isC_ex (D : List (Int × Int)) {R : List Int} (upR : R.Pairwise (· < ·)) {r : Int} (hr : r ∈ R) : ∃ l, IsC D R r l := by
  classical
  refine ⟨R.filter fun v => decide (Wk D R r v), upR.filter _, fun v => ?_⟩
  rw [List.mem_filter, decide_eq_true_eq]
  refine ⟨fun h => h.2, fun h => ⟨?_, h⟩⟩
  rcases h.mem with e | e
  · rw [e]; exact hr
  · exact e
theorem Regs.ex (h : Regs D R Ls) (upR : R.Pairwise (· < ·)) {r : Int} (hr : r ∈ R) : ∃ l ∈ Ls, r ∈ l := by
  obtain ⟨l, hl⟩ := isC_ex D upR hr
  exact ⟨l, (h.mem l).mpr ⟨r, hr, hl⟩, hl.has⟩
end
theorem IsC.len {D : List (Int × Int)} {n : Int} {P : List (Str × Int)} {r : Int} {l : List Int} (h : IsC D (occ n P) r l) (hr : r ∈ occ n P) (n1 : n ≤ 8) : l.length ≤ 8 := by
  have h1 : l.length ≤ n.toNat := short (h.up.imp fun {a b} z => by omega) fun x hx => by
    have := (Fw.mem_occ.mp (h.sub hr x hx)).1
    omega
  omega
section
variable {P : Program} {w : World} {K : PySem.W.Frag} {mg : Str → Option Value} {base : Heap}

def spFReg : Sp := fun vs H Q _ => ∃ (h p : Addr) (n : Int) (D : List (Int × Int)) (P : List (Str × Int)), vs = [.ref h, .ref p] ∧ HouseAt H h n D ∧ Forest n D ∧ 0 ≤ n ∧ n ≤ 8 ∧ PlAt H p P ∧ P.length ≤ 100 ∧ ∀ H' t Cs, Same H H' → RegsAt H' t D (occ n P) Cs → Q (.ref t) H'
abbrev nFReg : List Str := ["house", "placement", "occupied", "room"]
theorem scFReg : FnScope nFReg ["house", "placement"] (defScope sFReg) := ⟨rfl, rfl, rfl, by decide +kernel, rfl, by decide +kernel, by decide +kernel⟩
theorem ok_freg {f : Addr} {fd : FuncData} {k : Nat} (F : Fun K "find_regions" "find_regions" sFReg f fd) (T : Nm mg) (Cpeople_in : Cal P w K mg base (k + 3) "people_in" pPIn spPIn) (Ccomponents : Cal P w K mg base (k + 3) "components" ["house", "rooms"] (spComp K)) : FnOk P w K mg base CX0 (k + 4) f fd pHP spFReg := by
  refine F.ok scFReg (fun vs H Q E h => ?_) (fun cdv A outer s H vs Q E hr h => ?_)
  · obtain ⟨h, p, n, D, P, rfl, _⟩ := h
    rfl
  · obtain ⟨h, p, n, D, P, rfl, hH, hF, n0, n1, hP, lP, q⟩ := h
    refine ⟨_, (pss_cons (ps_set (i := 2) scFReg.nd rfl (.inl rfl) (pe_callTy (call_tupleK K rfl) (by rfl) T.tuple (by decide +kernel) (pa_cons (pe_lc (own := [("room", 3)]) (g := gName 3) (by rfl) scFReg.nd (pi_range1 (by rfl) T.range (pa_cons (pe_ix (ix_tupK K rfl) (pv 0) pe_int (fun _ _ => rfl)) pa_nil))
 (blkOk_by (own := [("room", 3)]) (N := nFReg) (sc := defScope sFReg) (by decide +kernel))
 (fun _ _ _ _ _ => (pg_name (i := 3) scFReg.nd rfl (.inl rfl))) (fun _ _ _ _ _ => pts_one (pt_truthK K rfl (pe_cal Cpeople_in hr (by rfl) (pa_cons (pv 1) (pa_cons (pv 3) pa_nil))) (by intro _; rfl))) (fun _ _ _ _ _ => (pv 3))) pa_nil)))
      (pss_one (ps_ret (pe_cal Ccomponents hr (by rfl) (pa_cons (pv 0) (pa_cons (pv 2) pa_nil)))))), ?_⟩
    obtain ⟨qd, eh⟩ := hH.room0
    refine ⟨_, rfl, h, _, _, _, rfl, rfl, SqT.of eh, atI0, n, rfl, by omega, by omega, fun L hL => lc_range (lo := 0) (n := n.toNat) (fun i H1 => Same H H1 ∧ H1 L = some (.lst (vi (((List.range i).map fun (j : Nat) => 0 + (j : Int)).filter fun r => decide (r ∈ P.map (·.2))))))
      ⟨same_upd hL, upd_same⟩ ?_ ?_⟩
    · rintro i H1 hi ⟨s1, e1⟩
      refine ⟨rfl, _, rfl, _, rfl, p, P, _, rfl, hP.same s1, lP, fun H2 u s2 e2 => ⟨_, .inr (.inl ⟨_, SqT.of e2, rfl⟩), ?_⟩⟩
      rw [in_empty, rg_snoc, filter_snoc]
      refine ite2 (fun c => ?_) (fun c => ?_)
      · rw [if_pos (by simpa using c)]
        refine ⟨_, rfl, _, s2 _ _ e1, ?_, same_put (s1.trans s2) hL, ?_⟩
        · rw [List.length_map]
          refine small1000 (Nat.le_trans (List.length_filter_le _ _) ?_)
          rw [List.length_map, List.length_range]
          omega
        · rw [upd_same, vi_app]
          rfl
      · rw [if_neg (by simpa using c), List.append_nil]
        exact ⟨s1.trans s2, s2 _ _ e1⟩
    · rintro H1 ⟨s1, e1⟩
      rw [rg0] at e1
      refine ⟨L, _, rfl, .inl ⟨SqL.of e1, fun t ht => ?_⟩⟩
      have s2 := s1.trans (same_upd (o := .tup (vi (occ n P))) ht)
      have lo := occ_len n P
      exact ⟨_, rfl, _, rfl, h, t, n, D, occ n P, rfl, hH.same s2, hF, n0, n1, upd_same, occ_up n P, by omega, fun H' u Cs s' a1 a2 a3 a4 a5 => q _ u Cs (s2.trans s') ⟨a1, a2, a5, a3, a4⟩⟩
end
end Fw
namespace Fw
open PySem PySem.Spec PyProof.Rows L2
theorem upS_ext : ∀ {xs ys : List Str}, xs.Pairwise ltS → ys.Pairwise ltS → (∀ x, x ∈ xs ↔ x ∈ ys) → xs = ys
  | [], [], _, _, _ => rfl
  | [], y :: ys, _, _, h => absurd ((h y).mpr (List.mem_cons_self ..)) List.not_mem_nil
  | x :: xs, [], _, _, h => absurd ((h x).mp (List.mem_cons_self ..)) List.not_mem_nil
  | x :: xs, y :: ys, hx, hy, h => by
    obtain ⟨hx1, hx2⟩ := List.pairwise_cons.mp hx
    obtain ⟨hy1, hy2⟩ := List.pairwise_cons.mp hy
    have e : x = y := by
      rcases List.mem_cons.mp ((h x).mp (List.mem_cons_self ..)) with e | m
      · exact e
      · rcases List.mem_cons.mp ((h y).mpr (List.mem_cons_self ..)) with e | m'
        · exact e.symm
        · exact absurd (ltS_trans (hy1 x m) (hx1 y m')) (ltS_irr y)
    subst e
    rw [upS_ext hx2 hy2 fun z => ?_]
    constructor
    · intro m
      rcases List.mem_cons.mp ((h z).mp (List.mem_cons_of_mem _ m)) with e | m'
      · rw [e] at m
        exact absurd (hx1 x m) (ltS_irr x)
      · exact m'
    · intro m
      rcases List.mem_cons.mp ((h z).mpr (List.mem_cons_of_mem _ m)) with e | m'
      · rw [e] at m
        exact absurd (hy1 x m) (ltS_irr x)
      · exact m'
theorem sorted_same {ns ys : List Str} (h : Names ns) (p : ys.Perm ns) (s : sortedS ys = true) : ys = ns :=
  upS_ext (sorted_names p s h.nodup h.nam).up h.up fun x => p.mem_iff
theorem subset_len {α : Type} [DecidableEq α] : ∀ {xs ys : List α}, xs.Nodup → (∀ x ∈ xs, x ∈ ys) → xs.length ≤ ys.length
  | [], _, _, _ => Nat.zero_le _
  | x :: xs, ys, nd, h => by
    obtain ⟨h1, h2⟩ := List.nodup_cons.mp nd
    have hx := h x (List.mem_cons_self ..)
    have := subset_len (ys := ys.erase x) h2 fun z hz => (List.mem_erase_of_ne (show z ≠ x from fun e => h1 (e ▸ hz))).mpr (h z (List.mem_cons_of_mem _ hz))
    rw [List.length_erase_of_mem hx] at this
    have := List.length_pos_of_mem hx
    simp only [List.length_cons]
    omega
theorem split_len {α : Type} (p : α → Bool) : ∀ xs : List α, (xs.filter p).length + (xs.filter fun x => !p x).length = xs.length
  | [] => rfl
  | x :: xs => by
    have := split_len p xs
    cases h : p x with
    | true =>
      rw [List.filter_cons_of_pos h, List.filter_cons_of_neg (by simp [h])]
      simp only [List.length_cons]
      omega
    | false =>
      rw [List.filter_cons_of_neg (by simp [h]), List.filter_cons_of_pos (by simp [h])]
      simp only [List.length_cons]
      omega
theorem occ_emp (n : Int) (P : List (Str × Int)) : (occ n P).length + (emp n P).length = n.toNat := by
  have := split_len (fun r => decide (r ∈ P.map (·.2))) (rg n)
  rw [rg_len] at this
  exact this
section
variable {D : List (Int × Int)} {R : List Int} {Ls : List (List Int)}
theorem up_nodup {l : List Int} (h : l.Pairwise (· < ·)) : l.Nodup := List.nodup_iff_pairwise_ne.mpr (h.imp fun {a b} z => by omega)
theorem lex_irr : ∀ l : List Int, lexI l l = false
  | [] => rfl
  | x :: l => by
    rw [lexI, if_pos rfl]
    exact lex_irr l
theorem Regs.flat_nodup (h : Regs D R Ls) : Ls.flatten.Nodup := by
  rw [List.nodup_iff_pairwise_ne, List.pairwise_flatten]
  refine ⟨fun l hl => ?_, ?_⟩
  · obtain ⟨g, _, hc⟩ := (h.mem l).mp hl
    exact List.nodup_iff_pairwise_ne.mp (up_nodup hc.up)
  · refine h.up.imp_of_mem fun {a b} ha hb lt x hx y hy e => ?_
    subst e
    have := h.one ha hb hx hy
    subst this
    rw [lex_irr] at lt
    cases lt
theorem Regs.flat_mem (h : Regs D R Ls) (upR : R.Pairwise (· < ·)) (x : Int) : x ∈ Ls.flatten ↔ x ∈ R := by
  rw [List.mem_flatten]
  constructor
  · rintro ⟨l, hl, hx⟩
    exact (h.has hl hx).1
  · intro hx
    exact h.ex upR hx
theorem Regs.total (h : Regs D R Ls) (upR : R.Pairwise (· < ·)) : (Ls.map List.length).sum = R.length := by
  rw [← List.length_flatten]
  have h1 := subset_len h.flat_nodup fun x hx => (h.flat_mem upR x).mp hx
  have h2 := subset_len (up_nodup upR) fun x hx => (h.flat_mem upR x).mpr hx
  omega
theorem lex_ext : ∀ {xs ys : List (List Int)}, xs.Pairwise (fun a b => lexI a b = true) → ys.Pairwise (fun a b => lexI a b = true) → (∀ x, x ∈ xs ↔ x ∈ ys) → xs = ys
  | [], [], _, _, _ => rfl
  | [], y :: ys, _, _, h => absurd ((h y).mpr (List.mem_cons_self ..)) List.not_mem_nil
  | x :: xs, [], _, _, h => absurd ((h x).mp (List.mem_cons_self ..)) List.not_mem_nil
  | x :: xs, y :: ys, hx, hy, h => by
    obtain ⟨hx1, hx2⟩ := List.pairwise_cons.mp hx
    obtain ⟨hy1, hy2⟩ := List.pairwise_cons.mp hy
    have e : x = y := by
      rcases List.mem_cons.mp ((h x).mp (List.mem_cons_self ..)) with e | m
      · exact e
      · rcases List.mem_cons.mp ((h y).mpr (List.mem_cons_self ..)) with e | m'
        · exact e.symm
        · have a := lexI_asym (hy1 x m)
          rw [hx1 y m'] at a
          cases a
    subst e
    rw [lex_ext hx2 hy2 fun z => ?_]
    constructor
    · intro m
      rcases List.mem_cons.mp ((h z).mp (List.mem_cons_of_mem _ m)) with e | m'
      · rw [e] at m
        have a := hx1 x m
        rw [lex_irr] at a
        cases a
      · exact m'
    · intro m
      rcases List.mem_cons.mp ((h z).mpr (List.mem_cons_of_mem _ m)) with e | m'
      · rw [e] at m
        have a := hy1 x m
        rw [lex_irr] at a
        cases a
      · exact m'
theorem Regs.uniq {Ls' : List (List Int)} (h : Regs D R Ls) (k : Regs D R Ls') : Ls = Ls' := lex_ext h.up k.up fun l => (h.mem l).trans (k.mem l).symm
end
/-- a move takes nobody to an empty room -/
theorem mvd_rooms {P : List (Str × Int)} {nm : Str} {t r : Int} (ht : t ∈ P.map (·.2)) (h : r ∈ (mvd P nm t).map (·.2)) : r ∈ P.map (·.2) := by
  obtain ⟨x, hx, e⟩ := List.mem_map.mp h
  obtain ⟨y, hy, rfl⟩ := List.mem_map.mp hx
  have e : (if y.1 = nm then t else y.2) = r := e
  by_cases c : y.1 = nm
  · rw [if_pos c] at e
    rw [← e]
    exact ht
  · rw [if_neg c] at e
    rw [← e]
    exact List.mem_map_of_mem (f := (·.2)) hy
theorem nil_ne {K : PySem.W.Frag} {σ : L2.St} {L : Addr} {H : Hp} {Q : Bool → Hp → Prop} (e : H L = some (.lst [])) (h : ∀ H', Same H H' → Q false H') : tLst tNil σ H fun y H2 => rNeD K (.ref L) y H2 fun x H3 => ∃ k, x = .bl k ∧ Q k H3 :=
  ⟨Nat.zero_le _, fun p hp => ⟨.list [], .list [], .lst (SqL.of (same_upd hp _ _ e)) .nil, .lst (SqL.of upd_same) .nil, shaped_list [], shaped_list [], false, rfl, h _ (same_upd hp)⟩⟩
theorem nil_eq {K : PySem.W.Frag} {σ : L2.St} {L : Addr} {H : Hp} {Q : Bool → Hp → Prop} (e : H L = some (.lst [])) (h : ∀ H', Same H H' → Q true H') : tLst tNil σ H fun y H2 => rEqD K (.ref L) y H2 fun x H3 => ∃ k, x = .bl k ∧ Q k H3 :=
  ⟨Nat.zero_le _, fun p hp => ⟨.list [], .list [], .lst (SqL.of (same_upd hp _ _ e)) .nil, .lst (SqL.of upd_same) .nil, shaped_list [], shaped_list [], true, rfl, h _ (same_upd hp)⟩⟩
/-- texts as data -/
theorem dp_strs {K : PySem.W.Frag} {H : Hp} : ∀ ns : List Str, DpAll K H (ns.map V.str) (ns.map PyData.str)
  | [] => .nil
  | n :: ns => .cons (.str n) (dp_strs ns)
theorem strs_lay {ns : List Str} (h : ∀ x ∈ ns, PyData.strOk x = true) : PyData.canLayAll0 (ns.map PyData.str) = true := by
  rw [canLayAll_strs', List.all_eq_true]
  exact h
theorem strs_deep : ∀ ns : List Str, PyData.depthAll (ns.map PyData.str) = 0
  | [] => by simp [PyData.depthAll]
  | n :: ns => by
    rw [List.map_cons, PyData.depthAll, strs_deep ns, PyData.depth]
    rfl
theorem strs_shaped {ns : List Str} (h : ∀ x ∈ ns, PyData.strOk x = true) : SeqAt.shaped (.list (ns.map PyData.str)) = true := by
  unfold SeqAt.shaped
  rw [PyData.canLay0, strs_lay h, PyData.depth, strs_deep]
  decide
/-- tuples of ints as data -/
theorem dpR {K : PySem.W.Frag} {H : Hp} : ∀ {Cs : List (Addr × List Int)}, (∀ c ∈ Cs, H c.1 = some (.tup (vi c.2))) → DpAll K H (refs Cs) (Cs.map fun c => PyData.tuple (c.2.map PyData.int))
  | [], _ => .nil
  | c :: Cs, h => .cons (.tup (SqT.of (h c (List.mem_cons_self ..))) (dp_ints _)) (dpR fun q hq => h q (List.mem_cons_of_mem _ hq))
theorem layR : ∀ Cs : List (Addr × List Int), PyData.canLayAll0 (Cs.map fun c => PyData.tuple (c.2.map PyData.int)) = true ∧ PyData.depthAll (Cs.map fun c => PyData.tuple (c.2.map PyData.int)) ≤ 1
  | [] => by simp [PyData.canLayAll0, PyData.depthAll]
  | c :: Cs => by
    obtain ⟨h1, h2⟩ := layR Cs
    rw [List.map_cons, PyData.canLayAll0, PyData.depthAll, h1, PyData.canLay0, lay_ints, PyData.depth, deep_ints]
    exact ⟨rfl, by omega⟩
theorem shapedR (Cs : List (Addr × List Int)) : SeqAt.shaped (.tuple (Cs.map fun c => PyData.tuple (c.2.map PyData.int))) = true := by
  obtain ⟨h1, h2⟩ := layR Cs
  unfold SeqAt.shaped
  rw [PyData.canLay0, h1, PyData.depth]
  simp
  omega
theorem shapedRL (Cs : List (Addr × List Int)) : SeqAt.shaped (.list (Cs.map fun c => PyData.tuple (c.2.map PyData.int))) = true := by
  obtain ⟨h1, h2⟩ := layR Cs
  unfold SeqAt.shaped
  rw [PyData.canLay0, h1, PyData.depth]
  simp
  omega
end Fw
namespace Fw
open PySem PySem.Spec PyProof.Rows L2
section
variable {P : Program} {w : World} {K : PySem.W.Frag} {mg : Str → Option Value} {base : Heap}
end
end Fw
namespace Fw
open PySem PySem.Spec PyProof.Rows L2
open RZ
/-- the same value, to a depth -/
inductive Eqs (H : Hp) : Nat → V → V → Prop
  | non (k : Nat) : Eqs H k .non .non
  | int (k : Nat) (i : Int) : Eqs H k (.int i) (.int i)
  | bl (k : Nat) (b : Bool) : Eqs H k (.bl b) (.bl b)
  | str (k : Nat) (z : Str) : Eqs H k (.str z) (.str z)
  | tup {k : Nat} {a b : Addr} {xs ys : List V} : TpAt H a xs → TpAt H b ys → xs.length = ys.length → xs.length ≤ 500 → (∀ (i : Nat) x y, xs[i]? = some x → ys[i]? = some y → Eqs H k x y) → Eqs H (k + 1) (.ref a) (.ref b)
theorem Eqs.same {H H' : Hp} {k : Nat} {x y : V} (h : Eqs H k x y) (e : Same H H') : Eqs H' k x y := by
  induction h with
  | non k => exact .non k
  | int k i => exact .int k i
  | bl k i => exact .bl k i
  | str k i => exact .str k i
  | tup h1 h2 h3 h4 _ ih => exact .tup (h1.same e) (h2.same e) h3 h4 ih
theorem Eqs.ints {H : Hp} {k : Nat} {a b : Addr} {ns : List Int} (h1 : H a = some (.tup (vi ns))) (h2 : H b = some (.tup (vi ns))) (hl : ns.length ≤ 500) : Eqs H (k + 1) (.ref a) (.ref b) :=
  .tup (.inl h1) (.inl h2) rfl (by rw [List.length_map]; exact hl) fun i x y hx hy => by
    obtain ⟨v, _, rfl⟩ := get_vi hx
    rw [hx] at hy
    cases hy
    exact .int _ v
theorem Eqs.strs {H : Hp} {k : Nat} {a b : Addr} {ns : List Str} (h1 : H a = some (.tup (ns.map V.str))) (h2 : H b = some (.tup (ns.map V.str))) (hl : ns.length ≤ 500) : Eqs H (k + 1) (.ref a) (.ref b) :=
  .tup (.inl h1) (.inl h2) rfl (by rw [List.length_map]; exact hl) fun i x y hx hy => by
    obtain ⟨v, _, rfl⟩ := get_vs hx
    rw [hx] at hy
    cases hy
    exact .str _ v
theorem Eqs.pl {H : Hp} {k : Nat} {a b : Addr} {P : List (Str × Int)} (h1 : PlAt H a P) (h2 : PlAt H b P) (hl : P.length ≤ 500) : Eqs H (k + 2) (.ref a) (.ref b) := by
  obtain ⟨ps, e1, e2, e3⟩ := h1
  obtain ⟨qs, f1, f2, f3⟩ := h2
  have el : ps.length = qs.length := by
    have := congrArg List.length (e2.symm.trans f2)
    rw [List.length_map, List.length_map] at this
    exact this
  refine .tup e1 f1 (by rw [List.length_map, List.length_map, el]) (by rw [List.length_map]; rw [e2, List.length_map] at hl; exact hl) fun i x y hx hy => ?_
  rw [List.getElem?_map] at hx hy
  cases u : ps[i]? with
  | none => rw [u] at hx; cases hx
  | some p =>
    cases v : qs[i]? with
    | none => rw [v] at hy; cases hy
    | some q =>
      rw [u] at hx
      rw [v] at hy
      cases hx
      cases hy
      have e : p.2 = q.2 := by
        have h1 : P[i]? = some p.2 := by rw [e2, List.getElem?_map, u]; rfl
        have h2 : P[i]? = some q.2 := by rw [f2, List.getElem?_map, v]; rfl
        rw [h1] at h2
        exact Option.some.inj h2
      have g1 := e3 p (List.mem_of_getElem? u)
      have g2 := f3 q (List.mem_of_getElem? v)
      rw [← e] at g2
      refine .tup (.inl g1) (.inl g2) rfl (by show 2 ≤ 500; decide) fun j x y hx hy => ?_
      rw [hx] at hy
      cases hy
      match j, hx with
      | 0, hx => cases hx; exact .str _ _
      | 1, hx => cases hx; exact .int _ _
/-- how a zip of two tuples of one length walks -/
theorem both_walk {K : PySem.W.Frag} {a b : Addr} {xs ys : List V} (same : ys.length = xs.length) : Walk (ItzT K a b) xs.length (fun H => SqT K H a xs ∧ SqT K H b ys) (YPair (fun i => xs[i]?) fun i => ys[i]?) where
  goes i H lt q := ⟨_, _, _, _, q.1, q.2, List.getElem?_eq_getElem lt, List.getElem?_eq_getElem (same ▸ lt)⟩
  stops H q := ⟨_, _, q.1, q.2, .inl (Nat.le_refl _)⟩
  yields i H v H' _ q y := by
    obtain ⟨t, x, z, e1, e2, e3, e4, e5⟩ := y
    exact ⟨t, x, z, e1, e2, e3, e4 _ q.1, e5 _ q.2⟩

section
variable {P : Program} {w : World} {K : PySem.W.Frag} {mg : Str → Option Value} {base : Heap}
theorem tp_tyS {K : PySem.W.Frag} {H : Hp} {p : Addr} {xs : List V} (h : TpAt H p xs) : TyX K H (.ref p) (.type "tuple") := h.elim (fun h => .base (.tup h)) fun ⟨_, _, h⟩ => .fTuple h
theorem k_it : kitB "int" "tuple" = some false := by decide +kernel
theorem k_ib : kitB "int" "bool" = some false := by decide +kernel
theorem k_ii : kitB "int" "int" = some true := by decide +kernel
theorem k_nt : kitB "NoneType" "tuple" = some false := by decide +kernel
theorem k_tt : kitB "tuple" "tuple" = some true := by decide +kernel
theorem k_bt : kitB "bool" "tuple" = some false := by decide +kernel
theorem k_bb : kitB "bool" "bool" = some true := by decide +kernel
theorem k_st : kitB "str" "tuple" = some false := by decide +kernel
theorem k_sb : kitB "str" "bool" = some false := by decide +kernel
theorem k_si : kitB "str" "int" = some false := by decide +kernel
theorem k_ss2 : kitB "str" "str" = some true := by decide +kernel
end
end Fw
namespace Fw
open PySem PySem.Spec PyProof.Rows L2
/-- data that can be shown -/
structure Sw (b : Nat) (d : PyData) : Prop where
  s : d.showable = true
  n : d.hasDict = false
  p : d.depth ≤ 10
  l : d.leavesShort 13 = true
  k : d.bulk ≤ b
theorem Sw.shows {b : Nat} {d : PyData} (h : Sw b d) (hb : b ≤ 2 ^ 20) : Shows d := ⟨h.s, h.n, Nat.le_trans h.p (by decide), PyData.shown_fits_bulk (B := 13) (by decide) (by decide) h.l (Nat.le_trans h.k hb)⟩
def pp (x : Str × Int) : PyData := .tuple [.str x.1, .int x.2]
def pld (P : List (Str × Int)) : PyData := .tuple (P.map pp)
theorem pps_all {P : List (Str × Int)} (h : ∀ x ∈ P, Nam x.1 ∧ 0 ≤ x.2 ∧ x.2 ≤ 100) : PyData.showableAll (P.map pp) = true ∧ PyData.hasDictAll (P.map pp) = false ∧ PyData.depthAll (P.map pp) ≤ 1 ∧ PyData.leavesShortAll 13 (P.map pp) = true ∧ PyData.bulkAll (P.map pp) ≤ 20 * P.length := by
  induction P with
  | nil => simp [PyData.showableAll, PyData.hasDictAll, PyData.depthAll, PyData.leavesShortAll, PyData.bulkAll]
  | cons x P ih =>
    obtain ⟨i1, i2, i3, i4, i5⟩ := ih fun y hy => h y (List.mem_cons_of_mem _ hy)
    obtain ⟨hn, a0, a1⟩ := h x (List.mem_cons_self ..)
    have s1 := PyData.shown_int_le2 (i := x.2) (by omega) (by omega)
    have sz : x.1.cps.size ≤ 8 := hn.2.1
    have al : (x.1.cps.toList.all fun c => decide (c < 16 ^ 8)) = true := by
      rw [List.all_eq_true]
      intro c hc
      have := hn.2.2 c hc
      exact decide_eq_true (by omega)
    rw [List.map_cons]
    refine ⟨?_, ?_, ?_, ?_, ?_⟩
    · simp only [pp, PyData.showableAll, PyData.showable, i1, Bool.and_true]
      rw [decide_eq_true (log_small a0 a1)]
      rfl
    · simp only [pp, PyData.hasDictAll, PyData.hasDict, i2, Bool.or_false]
    · simp only [pp, PyData.depthAll, PyData.depth]
      omega
    · simp only [pp, PyData.leavesShortAll, PyData.leavesShort, i4, Bool.and_true]
      rw [decide_eq_true s1, al]
      rfl
    · simp only [pp, PyData.bulkAll, PyData.bulk, List.length_cons]
      omega
theorem pld_sw {P : List (Str × Int)} (h : ∀ x ∈ P, Nam x.1 ∧ 0 ≤ x.2 ∧ x.2 ≤ 100) : Sw (20 * P.length) (pld P) := by
  obtain ⟨i1, i2, i3, i4, i5⟩ := pps_all h
  exact ⟨by simp only [pld, PyData.showable, i1], by simp only [pld, PyData.hasDict, i2], by simp only [pld, PyData.depth]; omega, by simp only [pld, PyData.leavesShort, i4], by simp only [pld, PyData.bulk]; exact i5⟩
theorem Pl.sw {n : Int} {P : List (Str × Int)} (h : Pl n P) (hn : n ≤ 8) (lP : P.length ≤ 100) : Sw 2000 (pld P) := by
  have := pld_sw (P := P) fun x hx => ⟨h.nm.nam _ (List.mem_map_of_mem (f := (·.1)) hx), (h.rm x hx).1, by have := (h.rm x hx).2; omega⟩
  exact ⟨this.s, this.n, this.p, this.l, Nat.le_trans this.k (by omega)⟩
theorem hd_sw {n : Int} {D : List (Int × Int)} (f : Forest n D) (n0 : 0 ≤ n) (n1 : n ≤ 8) : Sw 100 (hd n D) := by
  have h : ∀ d ∈ D, 0 ≤ d.1 ∧ d.1 ≤ 100 ∧ 0 ≤ d.2 ∧ d.2 ≤ 100 := fun d hd => by
    have := f.ends (a := d.1) (b := d.2) hd
    omega
  have hl : D.length ≤ 8 := f.len
  obtain ⟨i1, i2⟩ := pds_show h
  have s1 := PyData.shown_int_le2 (i := n) (by omega) (by omega)
  have dp := pd_deep D
  refine ⟨?_, ?_, ?_, ?_, ?_⟩
  · simp only [hd, PyData.showable, PyData.showableAll, Bool.and_true, i1]
    rw [decide_eq_true (log_small n0 (by omega))]
  · simp only [hd, PyData.hasDict, PyData.hasDictAll, Bool.or_false, Bool.false_or]
    exact pds_nodict D
  · simp only [hd, PyData.depth, PyData.depthAll]
    omega
  · simp only [hd, PyData.leavesShort, PyData.leavesShortAll, Bool.and_true, i2]
    rw [decide_eq_true s1]
  · simp only [hd, PyData.bulk, PyData.bulkAll, pds_bulk]
    omega
theorem sw2 {b c : Nat} {d e : PyData} (x : Sw b d) (y : Sw c e) (h1 : d.depth ≤ 8) (h2 : e.depth ≤ 8) : Sw (b + c + 2) (.list [d, e]) := by
  refine ⟨?_, ?_, ?_, ?_, ?_⟩
  · simp only [PyData.showable, PyData.showableAll, x.s, y.s, Bool.and_true]
  · simp only [PyData.hasDict, PyData.hasDictAll, x.n, y.n, Bool.or_false]
  · simp only [PyData.depth, PyData.depthAll]
    omega
  · simp only [PyData.leavesShort, PyData.leavesShortAll, x.l, y.l, Bool.and_true]
  · simp only [PyData.bulk, PyData.bulkAll]
    have := x.k
    have := y.k
    omega
theorem sw3 {a b c : Nat} {d e f : PyData} (x : Sw a d) (y : Sw b e) (z : Sw c f) (h1 : d.depth ≤ 8) (h2 : e.depth ≤ 8) (h3 : f.depth ≤ 8) : Sw (a + b + c + 3) (.list [d, e, f]) := by
  refine ⟨?_, ?_, ?_, ?_, ?_⟩
  · simp only [PyData.showable, PyData.showableAll, x.s, y.s, z.s, Bool.and_true]
  · simp only [PyData.hasDict, PyData.hasDictAll, x.n, y.n, z.n, Bool.or_false]
  · simp only [PyData.depth, PyData.depthAll]
    omega
  · simp only [PyData.leavesShort, PyData.leavesShortAll, x.l, y.l, z.l, Bool.and_true]
  · simp only [PyData.bulk, PyData.bulkAll]
    have := x.k
    have := y.k
    have := z.k
    omega
theorem hd_deep (n : Int) (D : List (Int × Int)) : (hd n D).depth ≤ 8 := by
  have dp := pd_deep D
  simp only [hd, PyData.depth, PyData.depthAll]
  omega
theorem pps_deep (P : List (Str × Int)) : PyData.depthAll (P.map pp) ≤ 1 := by
  induction P with
  | nil => simp [PyData.depthAll]
  | cons x P ih =>
    rw [List.map_cons]
    simp only [pp, PyData.depthAll, PyData.depth]
    omega
theorem pld_deep (P : List (Str × Int)) : (pld P).depth ≤ 8 := by
  have := pps_deep P
  simp only [pld, PyData.depth]
  omega
theorem dp_pps {K : PySem.W.Frag} {H : Hp} : ∀ {ps : List (Addr × Str × Int)}, (∀ p ∈ ps, H p.1 = some (.tup [.str p.2.1, .int p.2.2])) → DpAll K H (ps.map fun p => V.ref p.1) ((ps.map (·.2)).map pp)
  | [], _ => .nil
  | p :: ps, h => .cons (.tup (SqT.of (h p (List.mem_cons_self ..))) (.cons (.str _) (.cons (.int _) .nil))) (dp_pps fun q hq => h q (List.mem_cons_of_mem _ hq))
theorem PlAt.dp {K : PySem.W.Frag} {H : Hp} {p : Addr} {P : List (Str × Int)} (x : PlAt H p P) : Dp K H (.ref p) (pld P) := by
  obtain ⟨ps, h1, h2, h3⟩ := x
  rw [h2]
  exact .tup h1.sq (dp_pps h3)
theorem sw2T {b c : Nat} {d e : PyData} (x : Sw b d) (y : Sw c e) (h1 : d.depth ≤ 8) (h2 : e.depth ≤ 8) : Sw (b + c + 2) (.tuple [d, e]) := by
  refine ⟨?_, ?_, ?_, ?_, ?_⟩
  · simp only [PyData.showable, PyData.showableAll, x.s, y.s, Bool.and_true]
  · simp only [PyData.hasDict, PyData.hasDictAll, x.n, y.n, Bool.or_false]
  · simp only [PyData.depth, PyData.depthAll]
    omega
  · simp only [PyData.leavesShort, PyData.leavesShortAll, x.l, y.l, Bool.and_true]
  · simp only [PyData.bulk, PyData.bulkAll]
    have := x.k
    have := y.k
    omega
/-- (house, placement) -/
def hpT (n : Int) (D : List (Int × Int)) (P : List (Str × Int)) : PyData := .tuple [hd n D, pld P]
theorem hpT_shows {n : Int} {D : List (Int × Int)} {P : List (Str × Int)} (f : Forest n D) (n0 : 0 ≤ n) (n1 : n ≤ 8) (h : Pl n P) (lP : P.length ≤ 100) : Shows (hpT n D P) :=
  (sw2T (hd_sw f n0 n1) (h.sw n1 lP) (hd_deep _ _) (pld_deep _)).shows (by decide)
theorem hpT_dp {K : PySem.W.Frag} {H : Hp} {l h p : Addr} {n : Int} {D : List (Int × Int)} {P : List (Str × Int)} (e : H l = some (.tup [.ref h, .ref p])) (x : HouseAt H h n D) (y : PlAt H p P) : Dp K H (.ref l) (hpT n D P) :=
  .tup (SqT.of e) (.cons x.dp (.cons y.dp .nil))
/-- [house, placement] -/
def hpd (n : Int) (D : List (Int × Int)) (P : List (Str × Int)) : PyData := .list [hd n D, pld P]
theorem hp_shows {n : Int} {D : List (Int × Int)} {P : List (Str × Int)} (f : Forest n D) (n0 : 0 ≤ n) (n1 : n ≤ 8) (h : Pl n P) (lP : P.length ≤ 100) : Shows (hpd n D P) :=
  (sw2 (hd_sw f n0 n1) (h.sw n1 lP) (hd_deep _ _) (pld_deep _)).shows (by decide)
theorem hp_dp {K : PySem.W.Frag} {H : Hp} {l h p : Addr} {n : Int} {D : List (Int × Int)} {P : List (Str × Int)} (e : H l = some (.lst [.ref h, .ref p])) (x : HouseAt H h n D) (y : PlAt H p P) : Dp K H (.ref l) (hpd n D P) :=
  .lst (SqL.of e) (.cons x.dp (.cons y.dp .nil))
theorem pps_lay : ∀ {X : List (Str × Int)}, (∀ x ∈ X, Nam x.1) → PyData.canLayAll0 (X.map pp) = true
  | [], _ => by simp [PyData.canLayAll0]
  | x :: X, h => by
    rw [List.map_cons, PyData.canLayAll0, pps_lay fun y hy => h y (List.mem_cons_of_mem _ hy)]
    simp [pp, PyData.canLay0, PyData.canLayAll0, nam_ok (h x (List.mem_cons_self ..))]
theorem pps_shapedL {X : List (Str × Int)} (h : ∀ x ∈ X, Nam x.1) : SeqAt.shaped (.list (X.map pp)) = true := by
  unfold SeqAt.shaped
  rw [PyData.canLay0, pps_lay h, PyData.depth]
  have := pps_deep X
  simp
  omega
theorem pld_shaped {X : List (Str × Int)} (h : ∀ x ∈ X, Nam x.1) : SeqAt.shaped (pld X) = true := by
  unfold SeqAt.shaped pld
  rw [PyData.canLay0, pps_lay h, PyData.depth]
  have := pps_deep X
  simp
  omega
theorem Pl.nams {n : Int} {P : List (Str × Int)} (h : Pl n P) : ∀ x ∈ P, Nam x.1 := fun x hx => h.nm.nam _ (List.mem_map_of_mem (f := (·.1)) hx)
theorem eqv_nilP (X : List (Str × Int)) : PyData.eqv (.list (X.map pp)) (.list []) = X.isEmpty := by
  rw [PyData.eqv]
  cases X with
  | nil => rw [List.map_nil, PyData.eqvAll]; rfl
  | cons n ns => rw [List.map_cons, PyData.eqvAll]; rfl
/-- [house, placement, target] -/
def hptd (n : Int) (D : List (Int × Int)) (P G : List (Str × Int)) : PyData := .list [hd n D, pld P, pld G]
theorem hpt_shows {n : Int} {D : List (Int × Int)} {P G : List (Str × Int)} (f : Forest n D) (n0 : 0 ≤ n) (n1 : n ≤ 8) (h : Pl n P) (lP : P.length ≤ 100) (k : Pl n G) (lG : G.length ≤ 100) : Shows (hptd n D P G) :=
  (sw3 (hd_sw f n0 n1) (h.sw n1 lP) (k.sw n1 lG) (hd_deep _ _) (pld_deep _) (pld_deep _)).shows (by decide)
theorem hpt_dp {K : PySem.W.Frag} {H : Hp} {l h p g : Addr} {n : Int} {D : List (Int × Int)} {P G : List (Str × Int)} (e : H l = some (.lst [.ref h, .ref p, .ref g])) (x : HouseAt H h n D) (y : PlAt H p P) (z : PlAt H g G) : Dp K H (.ref l) (hptd n D P G) :=
  .lst (SqL.of e) (.cons x.dp (.cons y.dp (.cons z.dp .nil)))
end Fw
namespace Fw
open PySem PySem.Spec PyProof.Rows L2
/-! ### dicts by names -/
def dk (F : List (Str × V)) : List (Key × V) := F.map fun x => (Sum.inr x.1, x.2)
theorem valV_none {F : List (Str × V)} {nm : Str} (h : nm ∉ F.map (·.1)) : valV (dk F) (Sum.inr nm) = none := by
  induction F with
  | nil => rfl
  | cons x F ih =>
    rw [List.map_cons, List.mem_cons, not_or] at h
    show valV ((Sum.inr x.1, x.2) :: dk F) _ = none
    rw [valV_neg (fun e => h.1 (Sum.inr.inj e).symm)]
    exact ih h.2
theorem valV_dk {F : List (Str × V)} (nd : (F.map (·.1)).Nodup) {nm : Str} {v : V} (h : (nm, v) ∈ F) : valV (dk F) (Sum.inr nm) = some v := by
  induction F with
  | nil => cases h
  | cons x F ih =>
    rw [List.map_cons, List.nodup_cons] at nd
    rcases List.mem_cons.mp h with e | m
    · subst e
      exact valV_pos rfl
    · show valV ((Sum.inr x.1, x.2) :: dk F) _ = _
      rw [valV_neg (fun e => nd.1 (by rw [Sum.inr.inj e]; exact List.mem_map_of_mem (f := (·.1)) m))]
      exact ih nd.2 m
theorem merge_app : ∀ {F G : List (Str × V)}, ((F ++ G).map (·.1)).Nodup → mergeK (dk F) (dk G) = dk (F ++ G)
  | F, [], _ => by rw [List.append_nil]; rfl
  | F, x :: G, nd => by
    have n1 : x.1 ∉ F.map (·.1) := fun m => by
      rw [List.map_append, List.map_cons, List.nodup_append] at nd
      exact nd.2.2 x.1 m x.1 (List.mem_cons_self ..) rfl
    show mergeK (putK (dk F) (Sum.inr x.1) x.2) (dk G) = _
    rw [putK_new _ (valV_none n1)]
    have e : dk F ++ [(Sum.inr x.1, x.2)] = dk (F ++ [x]) := by unfold dk; rw [List.map_append]; rfl
    rw [e, merge_app (by rw [List.append_assoc]; exact nd), List.append_assoc]
    rfl
theorem merge_dk {F : List (Str × V)} (nd : (F.map (·.1)).Nodup) : mergeK [] (dk F) = dk F := merge_app (F := []) nd
theorem dk_keys (F : List (Str × V)) : (dk F).map (·.1) = (F.map (·.1)).map Sum.inr := by
  unfold dk
  rw [List.map_map, List.map_map]
  rfl
theorem dk_len (F : List (Str × V)) : (dk F).length = F.length := by unfold dk; rw [List.length_map]
/-- dict(list of pairs) -/
theorem call_dictK {X : Cx} (K : PySem.W.Frag) (h : X.K = K) (hc : X.calm = true) : CallR X (.type "dict") (fun xs H Q => ∃ (a : Addr) (ps : List Addr) (kvs : List (Key × V)), xs = [.ref a] ∧ SqL K H a (ps.map V.ref) ∧ Paired (fun p kv => SqT K H p [kV kv.1, kv.2]) ps kvs ∧
    ∀ p, H p = none → Q (.ref p) (upd H p (.dK (mergeK [] kvs)))) := by subst h; exact call_dictP hc
theorem paired_of {K : PySem.W.Frag} {H : Hp} : ∀ {ps : List (Addr × Str × V)}, (∀ q ∈ ps, H q.1 = some (.tup [.str q.2.1, q.2.2])) → Paired (fun p kv => SqT K H p [kV kv.1, kv.2]) (ps.map (·.1)) (dk (ps.map (·.2)))
  | [], _ => .nil
  | p :: ps, h => .cons (SqT.of (h p (List.mem_cons_self ..))) (paired_of fun q hq => h q (List.mem_cons_of_mem _ hq))
theorem eqv_nilT (X : List (Str × Int)) : PyData.eqv (pld X) (.tuple []) = X.isEmpty := by
  unfold pld
  rw [PyData.eqv]
  cases X with
  | nil => rw [List.map_nil, PyData.eqvAll]; rfl
  | cons n ns => rw [List.map_cons, PyData.eqvAll]; rfl
theorem PlAt.at {K : PySem.W.Frag} {H : Hp} {l : Addr} {X : List (Str × Int)} (x : PlAt H l X) {r : Int} (h0 : 0 ≤ r) (h1 : r < (X.length : Nat)) : ∃ xs t nm v, SqT K H l xs ∧ atI xs r = some (.ref t) ∧ H t = some (.tup [.str nm, .int v]) ∧ (nm, v) ∈ X := by
  obtain ⟨ps, e1, e2, e3⟩ := x
  have hj : r.toNat < ps.length := by rw [e2, List.length_map] at h1; omega
  have hm := List.getElem_mem hj
  refine ⟨_, ps[r.toNat].1, ps[r.toNat].2.1, ps[r.toNat].2.2, e1.sq, ?_, e3 _ hm, by rw [e2]; exact List.mem_map_of_mem (f := (·.2)) hm⟩
  have := atI_nat (xs := ps.map fun q => V.ref q.1) (j := r.toNat) (v := V.ref ps[r.toNat].1) (by rw [List.getElem?_map, List.getElem?_eq_getElem hj]; rfl)
  rw [show ((r.toNat : Nat) : Int) = r by omega] at this
  exact this
theorem PlAt.sq' {K : PySem.W.Frag} {H : Hp} {l : Addr} {X : List (Str × Int)} (x : PlAt H l X) : ∃ xs, SqT K H l xs ∧ xs.length = X.length := by
  obtain ⟨ps, h1, h2, _⟩ := x
  exact ⟨_, h1.sq, by rw [h2, List.length_map, List.length_map]⟩
/-! ### dict(placement) -/
def dkI (P : List (Str × Int)) : List (Key × V) := dk (P.map fun x => (x.1, V.int x.2))
theorem dkI_keys (P : List (Str × Int)) : (P.map fun x => (x.1, V.int x.2)).map (·.1) = P.map (·.1) := by
  rw [List.map_map]
  rfl
theorem valV_dkI {P : List (Str × Int)} (nd : (P.map (·.1)).Nodup) {nm : Str} {r : Int} (h : (nm, r) ∈ P) : valV (dkI P) (Sum.inr nm) = some (.int r) :=
  valV_dk (by rw [dkI_keys]; exact nd) (List.mem_map.mpr ⟨(nm, r), h, rfl⟩)
theorem valV_dkI_none {P : List (Str × Int)} {nm : Str} (h : nm ∉ P.map (·.1)) : valV (dkI P) (Sum.inr nm) = none := valV_none (by rw [dkI_keys]; exact h)
theorem pairs_in {X : Cx} {pins : List (Addr × Obj)} {σ : L2.St} {H : Hp} {s : Shared} (I : Inv X pins σ H s) : ∀ {ps : List (Addr × Str × Int)}, (∀ q ∈ ps, H q.1 = some (.tup [.str q.2.1, .int q.2.2])) →
    ∃ (vs : List (Value × Value)) (kv : List (Key × Value)), vs.length = ps.length ∧ KV (dkI (ps.map (·.2))) kv ∧ kv.length = ps.length ∧
      ∀ (j : Nat) (u v : Value), vs[j]? = some (u, v) → ∃ q k, ps[j]? = some q ∧ PairAt s.heap q.1 u v ∧ kv[j]? = some (k, v) ∧ (mixKind X.prog X.w).is k u = true
  | [], _ => ⟨[], [], rfl, .nil, rfl, fun j u v e => by cases e⟩
  | p :: ps, h => by
    obtain ⟨vs, kv, l1, rel, l2, f⟩ := pairs_in I fun q hq => h q (List.mem_cons_of_mem _ hq)
    obtain ⟨its, rv, ht, _⟩ := I.tuple (SqT.of (h p (List.mem_cons_self ..)))
    obtain ⟨u, y, ei, ru, ry⟩ := vals2 rv
    subst ei
    refine ⟨(u, y) :: vs, (Sum.inr p.2.1, y) :: kv, by rw [List.length_cons, List.length_cons, l1], .cons ⟨rfl, ry⟩ rel, by rw [List.length_cons, List.length_cons, l2], fun j u' v' e => ?_⟩
    cases j with
    | zero =>
      cases e
      exact ⟨p, _, rfl, .inl ht, rfl, kV_is (P := X.prog) (w := X.w) (k := Sum.inr p.2.1) ru⟩
    | succ j => exact f j u' v' (by simpa using e)
theorem call_dictT {X : Cx} (hcalm : X.calm = true) : CallR X (.type "dict") (fun xs H Q => ∃ (a : Addr) (P : List (Str × Int)), xs = [.ref a] ∧ PlD H a P ∧ (P.map (·.1)).Nodup ∧ P.length ≤ 1000 ∧ ∀ p, H p = none → Q (.ref p) (upd H p (.dK (dkI P)))) := by
  intro pins s σ H xs us Q I r q
  obtain ⟨a, P, rfl, ⟨ps, ob, od, hp, eP, hps⟩, nd, lP, q⟩ := q
  obtain ⟨u, rfl, ru⟩ := vals1 r
  obtain rfl : u = Value.ref a := ru
  obtain ⟨ho, hz, its, rel, ⟨o2, ho2, hc2, n2, hd2⟩⟩ := (show ObjOk X.prog X.w H s.heap a (.frz ob (.tup (ps.map fun q => V.ref q.1))) from I.hok a _ hp)
  have e2 : o2 = ob := by
    rw [ho] at ho2
    exact (Option.some.inj ho2).symm
  subst e2
  have ei : its = (ps.map (·.1)).map Value.ref := refs_at (by rw [List.map_map]; exact rel)
  obtain ⟨vs, kv, l1, rk, l2, f⟩ := pairs_in I hps
  have lp : ps.length = P.length := by rw [eP, List.length_map]
  have hlen : (dkI P).length ≤ sizeLine := by
    unfold dkI
    rw [dk_len, List.length_map]
    exact Nat.le_of_lt (small1000 lP)
  have hsz : vs.length ≤ sizeLine := by
    rw [l1, lp]
    exact Nat.le_of_lt (small1000 lP)
  refine PySem.call_dict_pairs (knd := mixKind X.prog X.w) (kvs := kv) (PairArg.tuple a its.toArray (fun j => (ps.map (·.1)).getD j 0) vs) (I.ok.hd hcalm) ⟨⟨o2, n2, ho, hc2, od, hd2⟩, ?_, fun j k v e => ?_⟩ ⟨by rw [l2, l1], fun j key v e => ?_⟩ hsz fun h' tk hd' k => ?_
  · rw [ei, List.size_toArray, List.length_map, List.length_map, l1]
  · obtain ⟨q', k', hq, hpa, _, _⟩ := f j k v e
    have hg : (ps.map (·.1))[j]? = some q'.1 := by rw [List.getElem?_map, hq]; rfl
    have hT : (ps.map (·.1)).getD j 0 = q'.1 := by rw [List.getD_eq_getElem?_getD, hg]; rfl
    show its.toArray[j]? = some (Value.ref ((ps.map (·.1)).getD j 0)) ∧ PairAt s.heap ((ps.map (·.1)).getD j 0) k v
    rw [hT]
    refine ⟨?_, hpa⟩
    rw [ei, List.getElem?_toArray, List.getElem?_map, hg]
    rfl
  · obtain ⟨q', k', _, _, hk, hi⟩ := f j key v e
    exact ⟨k', hk, hi⟩
  · have hm : (s.heap.objs.size == sysModules) = false := beq_eq_false_iff_ne.mpr (Nat.ne_of_gt I.big)
    have em : mergeK [] (dkI P) = dkI P := merge_dk (by rw [dkI_keys]; exact nd)
    have rk' : KV (dkI P) (merged [] kv) := by
      have := KV.merge (kvs := []) (vs := []) rk .nil
      rw [← eP, em] at this
      exact this
    exact ⟨.ref s.heap.objs.size, upd H s.heap.objs.size (.dK (dkI P)), I.laid (t' := tk) (fun b o e => k b o List.not_mem_nil e) (Nat.le_refl _) (show ObjOk X.prog X.w _ _ _ (.dK (dkI P)) from ⟨hlen, hm, merged [] kv, rk', hd'⟩), rfl, q _ (I.hok.fresh (Nat.le_refl _))⟩
end Fw
namespace Fw
open PySem PySem.Spec PyProof.Rows L2

/-- possible moves, one after another -/
inductive Wlk (n : Int) (D : List (Int × Int)) (P : List (Str × Int)) : List (Str × Int) → List (Str × Int) → Prop
  | nil : Wlk n D P [] P
  | snoc {ms P1 : List (Str × Int)} {nm : Str} {t : Int} : Wlk n D P ms P1 → (nm, t) ∈ mvs n D P1 P1 → Wlk n D P (ms ++ [(nm, t)]) (mvd P1 nm t)
theorem Wlk.keep {n : Int} {D : List (Int × Int)} {P ms P' : List (Str × Int)} (w : Wlk n D P ms P') (pl : Pl n P) : Pl n P' ∧ P'.length = P.length ∧ P'.map (·.1) = P.map (·.1) ∧ (∀ r, r ∈ P'.map (·.2) → r ∈ P.map (·.2)) ∧ ∀ x ∈ ms, Nam x.1 ∧ 0 ≤ x.2 ∧ x.2 < n := by
  induction w with
  | nil => exact ⟨pl, rfl, rfl, fun r hr => hr, fun x hx => absurd hx List.not_mem_nil⟩
  | @snoc ms P1 nm t w hm ih =>
    obtain ⟨i1, i2, i3, i4, i5⟩ := ih
    obtain ⟨c, hc, hr1, hr2⟩ := mvs_mem hm
    obtain ⟨y, hy, ey⟩ := List.mem_map.mp hr2
    have rr : 0 ≤ t ∧ t < n := by rw [← ey]; exact i1.rm y hy
    have nn : Nam nm := i1.nm.nam nm (List.mem_map.mpr ⟨(nm, c), hc, rfl⟩)
    refine ⟨i1.mvd rr.1 rr.2, by rw [mvd_len]; exact i2, by rw [mvd_names]; exact i3, fun r hr => i4 r ?_, fun x hx => ?_⟩
    · obtain ⟨z, hz, rfl⟩ := List.mem_map.mp hr
      obtain ⟨z', hz', rfl⟩ := List.mem_map.mp hz
      show (if z'.1 = nm then t else z'.2) ∈ _
      split
      · exact hr2
      · exact List.mem_map_of_mem (f := (·.2)) hz'
    · rcases List.mem_append.mp hx with hx | hx
      · exact i5 x hx
      · rw [List.mem_singleton.mp hx]
        exact ⟨nn, rr⟩
theorem LsAt.dp {K : PySem.W.Frag} {H : Hp} {l : Addr} {X : List (Str × Int)} (x : LsAt H l X) : Dp K H (.ref l) (.list (X.map pp)) := by
  obtain ⟨ps, h1, h2, h3⟩ := x
  rw [h2]
  exact .lst (SqL.of h1) (dp_pps h3)
theorem mvs_nams {n : Int} {D : List (Int × Int)} {P : List (Str × Int)} (pl : Pl n P) : ∀ x ∈ mvs n D P P, Nam x.1 := fun x hx => by
  obtain ⟨c, hc, _⟩ := mvs_mem (nm := x.1) (t := x.2) hx
  exact pl.nams (x.1, c) hc
section
variable {P : Program} {w : World} {K : PySem.W.Frag} {mg : Str → Option Value} {base : Heap}

end
end Fw
namespace Fw
open PySem PySem.Spec PyProof.Rows L2

theorem put_new {G : List (Str × Int)} {nm : Str} {v : Int} (h : nm ∉ G.map (·.1)) : putK (dkI G) (Sum.inr nm) (.int v) = dkI (G ++ [(nm, v)]) := by
  rw [putK_new _ (valV_dkI_none h)]
  unfold dkI dk
  rw [List.map_append, List.map_append]
  rfl
theorem put_old {G : List (Str × Int)} {nm : Str} {v : Int} (h : nm ∈ G.map (·.1)) : putK (dkI G) (Sum.inr nm) (.int v) = dkI (mvd G nm v) := by
  unfold putK
  rw [if_pos]
  · unfold dkI dk mvd
    rw [List.map_map, List.map_map, List.map_map, List.map_map]
    refine List.map_congr_left fun x _ => ?_
    show (if (Sum.inr x.1 : Key) = Sum.inr nm then (Sum.inr x.1, V.int v) else (Sum.inr x.1, V.int x.2)) = (Sum.inr x.1, V.int (if x.1 = nm then v else x.2))
    by_cases c : x.1 = nm
    · rw [if_pos (by rw [c]), if_pos c]
    · rw [if_neg (fun e => c (Sum.inr.inj e)), if_neg c]
  · obtain ⟨x, hx, e⟩ := List.mem_map.mp h
    rw [List.any_eq_true]
    refine ⟨(Sum.inr x.1, V.int x.2), ?_, decide_eq_true (by rw [← e])⟩
    unfold dkI dk
    rw [List.map_map]
    exact List.mem_map.mpr ⟨x, hx, rfl⟩
theorem dkI_len (G : List (Str × Int)) : (dkI G).length = G.length := by
  unfold dkI
  rw [dk_len, List.length_map]
def InR (n : Int) (G : List (Str × Int)) : Prop := ∀ x ∈ G, 0 ≤ x.2 ∧ x.2 < n
theorem InR.mvd {n : Int} {G : List (Str × Int)} (h : InR n G) {nm : Str} {v : Int} (h0 : 0 ≤ v) (h1 : v < n) : InR n (mvd G nm v) := fun x hx => by
  obtain ⟨y, hy, rfl⟩ := List.mem_map.mp hx
  show 0 ≤ (if y.1 = nm then v else y.2) ∧ (if y.1 = nm then v else y.2) < n
  split
  · exact ⟨h0, h1⟩
  · exact h y hy
theorem InR.snoc {n : Int} {G : List (Str × Int)} (h : InR n G) {nm : Str} {v : Int} (h0 : 0 ≤ v) (h1 : v < n) : InR n (G ++ [(nm, v)]) := fun x hx => by
  rcases List.mem_append.mp hx with hx | hx
  · exact h x hx
  · rw [List.mem_singleton.mp hx]
    exact ⟨h0, h1⟩
theorem key_val {G : List (Str × Int)} {nm : Str} (h : nm ∈ G.map (·.1)) : ∃ r, (nm, r) ∈ G := by
  obtain ⟨x, hx, e⟩ := List.mem_map.mp h
  exact ⟨x.2, by rw [← e]; exact hx⟩
theorem two_at {a b : Int} {k : Bool} : ∃ v, atI [V.int a, V.int b] (if k = true then 1 else 0) = some (.int v) ∧ (v = a ∨ v = b) := by
  cases k with
  | true => exact ⟨b, atI1, .inr rfl⟩
  | false => exact ⟨a, atI0, .inl rfl⟩
theorem at_str {xs : List Str} {r : Int} (h0 : 0 ≤ r) (h1 : r < (xs.length : Nat)) : ∃ x, x ∈ xs ∧ atI (xs.map V.str) r = some (V.str x) := by
  have hj : r.toNat < xs.length := by omega
  refine ⟨xs[r.toNat], List.getElem_mem hj, ?_⟩
  have := atI_nat (xs := xs.map V.str) (j := r.toNat) (v := V.str xs[r.toNat]) (by rw [List.getElem?_map, List.getElem?_eq_getElem hj]; rfl)
  rw [show ((r.toNat : Nat) : Int) = r by omega] at this
  exact this
section
variable {P : Program} {w : World} {K : PySem.W.Frag} {mg : Str → Option Value} {base : Heap}

end
end Fw
namespace Fw
open PySem PySem.Spec PyProof.Rows L2
open RZ
/-- zip of two tuples, the second the shorter -/
theorem lc_zipS {K : PySem.W.Frag} {a b : Addr} {xs ys : List V} {g : TG} {tt : TT} {te : TE} {vs : List Nat} {σ : L2.St} {H1 : Hp} {D : Addr} {Qd : Hp → Prop} (hl : ys.length ≤ xs.length) (Pv : Nat → Hp → Prop) (h0 : Pv 0 (upd H1 D (.lst []))) (hq : ∀ i H, Pv i H → SqT K H a xs ∧ SqT K H b ys)
    (hs : ∀ (i : Nat) (x y : V) (T : Addr) (H : Hp), xs[i]? = some x → ys[i]? = some y → Pv i H → H T = none → g (.ref T) (wipe σ vs) (upd H T (.tup [x, y])) fun σ2 H2 => wipe σ2 vs = wipe σ vs ∧ tt σ2 H2 fun b H3 =>
      if b = true then te σ2 H3 fun y H4 => ∃ acc, H4 D = some (.lst acc) ∧ acc.length < sizeLine ∧ Pv (i + 1) (upd H4 D (.lst (acc ++ [y]))) else Pv (i + 1) H3) (hd : ∀ H, Pv ys.length H → Qd H) :
    ∃ W : Nat → Nat → Hp → Prop, (∃ m, W 0 m (upd H1 D (.lst []))) ∧ ∀ i m H, W i m H →
      ((ItzT K a b).stop i H ∧ Qd H) ∨ ((ItzT K a b).go i H ∧ ∃ Nx : Hp → Prop, (∀ H', Nx H' → ∃ m', m' < m ∧ W (i + 1) m' H') ∧ ∀ x H', (ItzT K a b).yld i H x H' → g x (wipe σ vs) H' fun σ2 H2 => wipe σ2 vs = wipe σ vs ∧ tt σ2 H2 fun b H3 =>
        if b = true then te σ2 H3 fun y H4 => ∃ acc, H4 D = some (.lst acc) ∧ acc.length < sizeLine ∧ Nx (upd H4 D (.lst (acc ++ [y]))) else Nx H3) := by
  refine ⟨fun i m H => m = ys.length - i ∧ i ≤ ys.length ∧ Pv i H, ⟨ys.length, rfl, Nat.zero_le _, h0⟩, ?_⟩
  rintro i m H ⟨rfl, hi, p⟩
  obtain ⟨qx, qy⟩ := hq i H p
  by_cases hlt : i < ys.length
  · have hx : xs[i]? = some xs[i] := List.getElem?_eq_getElem (by omega)
    have hy : ys[i]? = some ys[i] := List.getElem?_eq_getElem hlt
    refine .inr ⟨⟨xs, ys, _, _, qx, qy, hx, hy⟩, Pv (i + 1), fun H' p' => ⟨ys.length - (i + 1), by omega, rfl, hlt, p'⟩, fun v H' y => ?_⟩
    obtain ⟨T, x', y', rfl, hT, rfl, f1, f2⟩ := y
    exact hs i x' y' T H (f1 xs qx) (f2 ys qy) p hT
  · have e : i = ys.length := by omega
    subst e
    exact .inl ⟨⟨xs, ys, qx, qy, Or.inr (Nat.le_refl _)⟩, hd H p⟩
theorem tp_ty {K : PySem.W.Frag} {H : Hp} {p : Addr} {xs : List V} (h : TpAt H p xs) : TyX K H (.ref p) (.type "tuple") := h.elim (fun h => .base (.tup h)) fun ⟨_, _, h⟩ => .fTuple h
theorem k_ss : kitB "str" "str" = some true := by decide +kernel
theorem k_tt' : kitB "tuple" "tuple" = some true := by decide +kernel
theorem cut1 (xs : List V) : cutV xs (some 1) none = xs.drop 1 := by
  unfold cutV
  show (xs.drop (min 1 xs.length)).take (xs.length - min 1 xs.length) = xs.drop 1
  cases xs with
  | nil => rfl
  | cons x r =>
    rw [show min 1 (x :: r).length = 1 by simp]
    exact List.take_of_length_le (by simp)
theorem one_le {c : Nat} (h : 97 ≤ c) : decide ((⟨#[c]⟩ : Str).cps.toList < (Str.ofString "a").cps.toList) = false := by
  rw [show (Str.ofString "a").cps.toList = [97] by decide +kernel]
  rw [decide_eq_false_iff_not]
  intro h2
  have h2 : [c] < [97] := h2
  rw [List.cons_lt_cons_iff] at h2
  rcases h2 with h2 | ⟨_, h2⟩
  · omega
  · exact absurd h2 (List.lt_irrefl _)
theorem one_ge {c : Nat} (h : c ≤ 122) : decide ((Str.ofString "z").cps.toList < (⟨#[c]⟩ : Str).cps.toList) = false := by
  rw [show (Str.ofString "z").cps.toList = [122] by decide +kernel]
  rw [decide_eq_false_iff_not]
  intro h2
  have h2 : [122] < [c] := h2
  rw [List.cons_lt_cons_iff] at h2
  rcases h2 with h2 | ⟨_, h2⟩
  · omega
  · exact absurd h2 (List.lt_irrefl _)
theorem names_snoc {P : List (Str × Int)} {k : Nat} {nm : Str} {r : Int} (h : P[k]? = some (nm, r)) : (P.take (k + 1)).map (·.1) = (P.take k).map (·.1) ++ [nm] := by
  rw [take_snoc h, List.map_append]
  rfl
section
variable {P : Program} {w : World} {K : PySem.W.Frag} {mg : Str → Option Value} {base : Heap}

end
end Fw
namespace Fw
open PySem PySem.Spec PyProof.Rows L2

theorem SP.shape {R : Int → Int → Prop} {a b : Int} {p : List Int} (h : SP R a b p) : (p = [a] ∧ a = b) ∨ ∃ m, p = a :: (m ++ [b]) := by
  induction h with
  | one a => exact .inl ⟨rfl, rfl⟩
  | cons r h n ih =>
    rcases ih with ⟨e, e'⟩ | ⟨m, e⟩
    · exact .inr ⟨[], by rw [e, e']; rfl⟩
    · exact .inr ⟨_ :: m, by rw [e]; rfl⟩
def innr (p : List Int) : List Int := (p.drop 1).take (p.length - 2)
theorem SP.inner {R : Int → Int → Prop} {a b : Int} {p : List Int} (h : SP R a b p) (r : Int) : r ∈ innr p ↔ r ∈ p ∧ r ≠ a ∧ r ≠ b := by
  rcases h.shape with ⟨e, e'⟩ | ⟨m, e⟩
  · rw [e]
    constructor
    · intro z; cases z
    · rintro ⟨z, n, _⟩
      exact absurd (List.mem_singleton.mp z) n
  · have nd := h.nodup
    rw [e] at nd ⊢
    have ei : innr (a :: (m ++ [b])) = m := by
      unfold innr
      rw [List.drop_succ_cons, List.drop_zero, List.length_cons, List.length_append, List.length_singleton]
      exact List.take_left' (by omega)
    rw [ei]
    rw [List.nodup_cons, List.mem_append, not_or, List.nodup_append] at nd
    obtain ⟨⟨n1, n2⟩, n3, _, n4⟩ := nd
    constructor
    · intro hr
      exact ⟨List.mem_cons_of_mem _ (List.mem_append.mpr (.inl hr)), fun e => n1 (e ▸ hr), fun e => n4 r hr b (List.mem_singleton.mpr rfl) e⟩
    · rintro ⟨z, ha, hb⟩
      rcases List.mem_cons.mp z with z | z
      · exact absurd z ha
      · rcases List.mem_append.mp z with z | z
        · exact z
        · exact absurd (List.mem_singleton.mp z) hb
theorem cut_inner (p : List Int) (h : 0 < p.length) : cutV (vi p) (some 1) (some (-1)) = vi (innr p) := by
  unfold cutV innr vi
  rw [List.map_take, List.map_drop]
  show ((p.map V.int).drop (min 1 (p.map V.int).length)).take (((-1 : Int) + ((p.map V.int).length : Nat)).toNat - min 1 (p.map V.int).length) = _
  rw [List.length_map, show min 1 p.length = 1 by omega, show ((-1 : Int) + (p.length : Nat)).toNat - 1 = p.length - 2 by omega]
/-- r lies within the way from a to b -/
def pas (D : List (Int × Int)) (a b r : Int) : Prop := ∃ p, SP (adj D) a b p ∧ r ∈ p ∧ r ≠ a ∧ r ≠ b
open Classical in
noncomputable def psg (D : List (Int × Int)) (G : List (Str × Int)) (r : Int) (X : List (Str × Int)) : List Str := (X.filter fun x => decide (∃ t, (x.1, t) ∈ G ∧ pas D x.2 t r)).map (·.1)
open Classical in
theorem psg_snoc {D : List (Int × Int)} {G X : List (Str × Int)} {r : Int} {k : Nat} {nm : Str} {c t : Int} (nd : (G.map (·.1)).Nodup) (h : X[k]? = some (nm, c)) (ht : (nm, t) ∈ G) : psg D G r (X.take (k + 1)) = psg D G r (X.take k) ++ if pas D c t r then [nm] else [] := by
  unfold psg
  rw [take_snoc h, filter_snoc, List.map_append]
  congr 1
  by_cases z : pas D c t r
  · rw [if_pos z, if_pos (decide_eq_true ⟨t, ht, z⟩)]
    rfl
  · rw [if_neg z, if_neg]
    · rfl
    · rw [decide_eq_true_eq]
      rintro ⟨t', ht', z'⟩
      have e : t = t' := congrArg Prod.snd (key_uniq nd ht ht' rfl)
      exact z (e ▸ z')
theorem psg_len (D : List (Int × Int)) (G : List (Str × Int)) (r : Int) (X : List (Str × Int)) : (psg D G r X).length ≤ X.length := by
  unfold psg
  rw [List.length_map]
  exact List.length_filter_le _ _
theorem pas_of {D : List (Int × Int)} {n a b r : Int} (f : Forest n D) {p : List Int} (h : SP (adj D) a b p) : pas D a b r ↔ r ∈ p ∧ r ≠ a ∧ r ≠ b := by
  constructor
  · rintro ⟨q, hq, z⟩
    rw [f.uniq _ _ _ _ h hq]
    exact z
  · intro z
    exact ⟨p, h, z⟩
section
variable {P : Program} {w : World} {K : PySem.W.Frag} {mg : Str → Option Value} {base : Heap}

end
end Fw
namespace Fw
open PySem PySem.Spec PyProof.Rows L2
/-- xs.extend(t), t a tuple whose other parts are not told -/
theorem meets_ext (l b : Addr) (mine others : Array Value) (n m : Nat) (dd : Option Addr) (ss : Array (Option Value)) (z : mine.size + others.size ≤ sizeLine) :
    Meets (Builtin.«list.extend» ⟨[.ref l, .ref b], []⟩) (fun _ R s => s.heap.get? l = some { cls := .type "list", data := .seq mine n } ∧ s.heap.get? b = some { cls := .type "tuple", dict := dd, data := .seq others m, slots := ss } ∧
      R (.ok (.ret Value.none)) { s with heap := s.heap.update l (Obj.mapSeq (· ++ others)), toks := s.toks }) :=
  .of_wp fun prog w A R s h => by
    obtain ⟨hp, g, d, tk, os⟩ := s
    obtain ⟨hl, hb, h⟩ := h
    have nl : ¬ (!mine.isEmpty && Builtin.List.listTooLong (mine.size + others.size)) = true := by
      rw [notLongL z, Bool.and_false]
      exact Bool.false_ne_true
    have f2 := AutoSeq1.sub_tuple_tuple
    have f4 := AutoSeq1.sub_tuple_list
    have f3 := AutoSeq1.sub_list_list
    have z1 : (mine ++ others).size ≤ sizeLine + 1 := by rw [Array.size_append]; omega
    wp_walk using (wpAny_updateSeq hl rfl (hz := by omega) (_hz' := z1)), wpAny_loadPart hl, wpAny_loadPart hb
    exact ⟨_, rfl, h⟩
def rExtT (K : PySem.W.Frag) : V → List V → Hp → VK → Prop := fun x vs H Q => ∃ l b xs zs, x = .ref l ∧ vs = [.ref b] ∧ H l = some (.lst xs) ∧ SqT K H b zs ∧ xs.length + zs.length ≤ sizeLine ∧ Q .non (upd H l (.lst (xs ++ zs)))
theorem mt_extendT {X : Cx} : MtM X "list.extend" (rExtT X.K) := by
  intro pins s σ H x vs v us Q I rx rv h
  obtain ⟨l, b, xs, zs, rfl, rfl, hl, hb, hz, q⟩ := h
  cases rx
  obtain ⟨u, rfl, ru⟩ := vals1 rv
  cases ru
  obtain ⟨_, its, n, r, e1, e⟩ := I.lstM hl
  obtain ⟨ys, r2, ⟨o, ho, hc, m, hd⟩, _⟩ := I.tuple hb
  obtain ⟨c, dd, da, ss⟩ := o
  cases hc
  cases hd
  have e2 := r2.length
  refine call_meets F.slot_list_extend ⟨_, e, rfl⟩ F.entry_list_extend (F.args_list_extend_2 _ _) (meets_ext l b its.toArray ys.toArray n m dd ss ?_) ⟨e, ho, ?_⟩
  · rw [List.size_toArray, List.size_toArray]
    omega
  · exact ⟨.non, _, I.lset (its' := its ++ ys) hl e (by simp) (r.append r2) (by rw [List.length_append]; omega), rfl, q⟩
end Fw
namespace Fw
open PySem PySem.Spec PyProof.Rows L2
theorem strs_eq0 {K : PySem.W.Frag} {σ : L2.St} {L : Addr} {H : Hp} {Q : Bool → Hp → Prop} {ns : List Str} (e : H L = some (.lst (ns.map V.str))) (ok : ∀ x ∈ ns, Nam x) (h : ∀ H', Same H H' → Q ns.isEmpty H') :
    tLst tNil σ H fun y H2 => rEqD K (.ref L) y H2 fun x H3 => ∃ k, x = .bl k ∧ Q k H3 := by
  refine ⟨Nat.zero_le _, fun p hp => ⟨.list (ns.map .str), .list [], .lst (SqL.of (same_upd hp _ _ e)) (dp_strs ns), .lst (SqL.of upd_same) .nil, strs_shaped fun x hx => nam_ok (ok x hx), shaped_list [], _, rfl, ?_⟩⟩
  have ee : PyData.eqv (.list (ns.map .str)) (.list []) = ns.isEmpty := by
    rw [PyData.eqv]
    cases ns with
    | nil => rw [List.map_nil, PyData.eqvAll]; rfl
    | cons n ns => rw [List.map_cons, PyData.eqvAll]; rfl
  rw [ee]
  exact h _ (same_upd hp)
open Classical in
/-- who of the rooms R passes r -/
noncomputable def psgW (D : List (Int × Int)) (G : List (Str × Int)) (r : Int) (R : List Int) (X : List (Str × Int)) : List Str := (X.filter fun x => decide (x.2 ∈ R ∧ ∃ t, (x.1, t) ∈ G ∧ pas D x.2 t r)).map (·.1)
open Classical in
theorem psgW_snoc {D : List (Int × Int)} {G X : List (Str × Int)} {r : Int} {R : List Int} {k : Nat} {nm : Str} {c t : Int} (nd : (G.map (·.1)).Nodup) (h : X[k]? = some (nm, c)) (ht : (nm, t) ∈ G) : psgW D G r R (X.take (k + 1)) = psgW D G r R (X.take k) ++ if c ∈ R ∧ pas D c t r then [nm] else [] := by
  have e : (∃ t', (nm, t') ∈ G ∧ pas D c t' r) ↔ pas D c t r := ⟨fun ⟨t', h1, h2⟩ => by rw [show t = t' from congrArg Prod.snd (key_uniq nd ht h1 rfl)]; exact h2, fun h => ⟨t, ht, h⟩⟩
  unfold psgW
  rw [take_snoc h, filter_snoc, List.map_append]
  congr 1
  by_cases z : c ∈ R ∧ pas D c t r
  · rw [if_pos z, if_pos (decide_eq_true ⟨z.1, e.mpr z.2⟩)]
    rfl
  · rw [if_neg z, if_neg (by rw [decide_eq_true_eq]; exact fun y => z ⟨y.1, e.mp y.2⟩)]
    rfl
theorem psgW_len (D : List (Int × Int)) (G : List (Str × Int)) (r : Int) (R : List Int) (X : List (Str × Int)) : (psgW D G r R X).length ≤ X.length := by
  unfold psgW
  rw [List.length_map]
  exact List.length_filter_le _ _
open Classical in
theorem psgW_nil {D : List (Int × Int)} {G : List (Str × Int)} {r : Int} {R : List Int} {X : List (Str × Int)} : (psgW D G r R X).isEmpty = true ↔ ∀ nm c t, (nm, c) ∈ X → c ∈ R → (nm, t) ∈ G → ¬ pas D c t r := by
  unfold psgW
  rw [List.isEmpty_iff, List.map_eq_nil_iff, List.filter_eq_nil_iff]
  constructor
  · intro h nm c t h1 h2 h3 h4
    exact h _ h1 (decide_eq_true ⟨h2, t, h3, h4⟩)
  · intro h x hx z
    obtain ⟨h1, t, h2, h3⟩ := of_decide_eq_true z
    exact h x.1 x.2 t hx h1 h2 h3
theorem psgW_nam {D : List (Int × Int)} {G : List (Str × Int)} {r : Int} {R : List Int} {X : List (Str × Int)} {n : Int} (pl : Pl n X) : ∀ x ∈ psgW D G r R X, Nam x := fun x hx => by
  unfold psgW at hx
  obtain ⟨y, hy, rfl⟩ := List.mem_map.mp hx
  exact pl.nm.nam _ (List.mem_map_of_mem (f := (·.1)) (List.mem_filter.mp hy).1)
open Classical in
/-- the free rooms of R -/
noncomputable def fre (D : List (Int × Int)) (P G : List (Str × Int)) (R : List Int) : List Int := R.filter fun r => decide (∀ nm c t, (nm, c) ∈ P → c ∈ R → (nm, t) ∈ G → r ≠ t ∧ ¬ pas D c t r)
open Classical in
theorem fre_of {D : List (Int × Int)} {P G : List (Str × Int)} {R : List Int} {f : Int → Bool} (h : ∀ r ∈ R, (f r = true ↔ ∀ nm c t, (nm, c) ∈ P → c ∈ R → (nm, t) ∈ G → r ≠ t ∧ ¬ pas D c t r)) : R.filter f = fre D P G R := by
  unfold fre
  refine List.filter_congr fun r hr => ?_
  rw [Bool.eq_iff_iff, decide_eq_true_eq]
  exact h r hr
theorem fre_len (D : List (Int × Int)) (P G : List (Str × Int)) (R : List Int) : (fre D P G R).length ≤ R.length := List.length_filter_le _ _
theorem inside_get {P : List (Str × Int)} {R : List Int} {nm : Str} (h : nm ∈ inside P R) : ∃ c, (nm, c) ∈ P ∧ c ∈ R := by
  unfold inside at h
  obtain ⟨x, hx, rfl⟩ := List.mem_map.mp h
  have := List.mem_filter.mp hx
  exact ⟨x.2, this.1, of_decide_eq_true this.2⟩
theorem mem_inside' {P : List (Str × Int)} {R : List Int} {nm : Str} {c : Int} (h : (nm, c) ∈ P) (hc : c ∈ R) : nm ∈ inside P R := by
  unfold inside
  exact List.mem_map.mpr ⟨(nm, c), List.mem_filter.mpr ⟨h, decide_eq_true hc⟩, rfl⟩
section
variable {P : Program} {w : World} {K : PySem.W.Frag} {mg : Str → Option Value} {base : Heap}
end
end Fw
namespace Fw
open PySem PySem.Spec PyProof.Rows L2
theorem rooms_get {P : List (Str × Int)} {k : Nat} {nm : Str} {r : Int} (h : P[k]? = some (nm, r)) : (P.take (k + 1)).map (·.2) = (P.take k).map (·.2) ++ [r] := by
  rw [take_snoc h, List.map_append]
  rfl
theorem nodup_le {α : Type} [DecidableEq α] {xs ys : List α} (nd : xs.Nodup) (h : ∀ x ∈ xs, x ∈ ys) : xs.length ≤ ys.length := by
  induction xs generalizing ys with
  | nil => exact Nat.zero_le _
  | cons x xs ih =>
    rw [List.nodup_cons] at nd
    have hx := h x (List.mem_cons_self ..)
    have := ih (ys := ys.erase x) nd.2 fun z hz => (List.mem_erase_of_ne (fun e : z = x => nd.1 (by rw [← e]; exact hz))).mpr (h z (List.mem_cons_of_mem _ hz))
    rw [List.length_erase_of_mem hx] at this
    have : 0 < ys.length := List.length_pos_of_mem hx
    simp only [List.length_cons]
    omega
/-- no surplus is negative -/
theorem Regs.full {n : Int} {D : List (Int × Int)} {P : List (Str × Int)} {Ls : List (List Int)} (h : Regs D (occ n P) Ls) (pl : Pl n P) {C : List Int} (hC : C ∈ Ls) : C.length ≤ (inside P C).length := by
  obtain ⟨r, hr, ic⟩ := (h.mem C).mp hC
  have := nodup_le (ys := (P.filter fun x => decide (x.2 ∈ C)).map (·.2)) (ic.up.imp fun {a b} z => by omega) fun x hx => by
    have m := pl.mem_occ.mp (ic.sub hr x hx)
    obtain ⟨y, hy, e⟩ := List.mem_map.mp m
    exact List.mem_map.mpr ⟨y, List.mem_filter.mpr ⟨hy, decide_eq_true (by rw [e]; exact hx)⟩, e⟩
  unfold inside
  rw [List.length_map] at this ⊢
  exact this
theorem Regs.small {n : Int} {D : List (Int × Int)} {P : List (Str × Int)} {Ls : List (List Int)} (h : Regs D (occ n P) Ls) (n1 : n ≤ 8) {C : List Int} (hC : C ∈ Ls) : C.length ≤ 8 := by
  obtain ⟨r, hr, ic⟩ := (h.mem C).mp hC
  exact ic.len hr n1
theorem sum_ge : ∀ Xs : List (List Int), (∀ C ∈ Xs, 0 < C.length) → Xs.length ≤ (Xs.map List.length).sum
  | [], _ => Nat.zero_le _
  | C :: Xs, hx => by
    have := sum_ge Xs fun C' hC' => hx C' (List.mem_cons_of_mem _ hC')
    have := hx C (List.mem_cons_self ..)
    simp only [List.length_cons, List.map_cons, List.sum_cons]
    omega
theorem Regs.few {n : Int} {D : List (Int × Int)} {P : List (Str × Int)} {Ls : List (List Int)} (h : Regs D (occ n P) Ls) (n1 : n ≤ 8) : Ls.length ≤ 8 := by
  have h1 := h.total (occ_up n P)
  have h2 := occ_len n P
  have h4 := sum_ge Ls fun C hC => by
    obtain ⟨r, hr', ic⟩ := (h.mem C).mp hC
    exact List.length_pos_of_mem ic.has
  omega
theorem refsL_lay : ∀ Cs : List (Addr × List Int), PyData.canLayAll0 (Cs.map fun c => PyData.tuple (c.2.map PyData.int)) = true ∧ PyData.depthAll (Cs.map fun c => PyData.tuple (c.2.map PyData.int)) ≤ 1
  | [] => by simp [PyData.canLayAll0, PyData.depthAll]
  | c :: Cs => by
    obtain ⟨h1, h2⟩ := refsL_lay Cs
    rw [List.map_cons, PyData.canLayAll0, PyData.depthAll, h1, PyData.canLay0, lay_ints, PyData.depth, deep_ints]
    exact ⟨rfl, by omega⟩
theorem refsL_shaped (Cs : List (Addr × List Int)) : SeqAt.shaped (.list (Cs.map fun c => PyData.tuple (c.2.map PyData.int))) = true := by
  obtain ⟨h1, h2⟩ := refsL_lay Cs
  unfold SeqAt.shaped
  rw [PyData.canLay0, h1, PyData.depth]
  simp
  omega
theorem refs_ne {K : PySem.W.Frag} {σ : L2.St} {L : Addr} {H : Hp} {Q : Bool → Hp → Prop} {c : Addr × List Int} {Cs : List (Addr × List Int)} (e : H L = some (.lst (refs (c :: Cs)))) (t : ∀ x ∈ c :: Cs, H x.1 = some (.tup (vi x.2))) (h : ∀ H', Same H H' → Q true H') :
    tLst tNil σ H fun y H2 => rNeD K (.ref L) y H2 fun x H3 => ∃ k, x = .bl k ∧ Q k H3 := by
  refine ⟨Nat.zero_le _, fun p hp => ⟨_, .list [], .lst (SqL.of (same_upd hp _ _ e)) (dpR fun x hx => same_upd hp _ _ (t x hx)), .lst (SqL.of upd_same) .nil, refsL_shaped (c :: Cs), shaped_list [], _, rfl, ?_⟩⟩
  have ee : PyData.eqv (.list ((c :: Cs).map fun c => PyData.tuple (c.2.map PyData.int))) (.list []) = false := by
    rw [PyData.eqv, List.map_cons, PyData.eqvAll]
  rw [ee]
  exact h _ (same_upd hp)
section
variable {P : Program} {w : World} {K : PySem.W.Frag} {mg : Str → Option Value} {base : Heap}
end
end Fw
namespace Fw
open PySem PySem.Spec PyProof.Rows L2

/-- who is outside -/
def outs1 (D : List (Int × Int)) (R : List Int) (G : List (Str × Int)) (x : Str × Int) : Prop := ∀ t, (x.1, t) ∈ G → ¬ Wk D R x.2 t
open Classical in
noncomputable def outp (D : List (Int × Int)) (R : List Int) (G X : List (Str × Int)) : List Str := (X.filter fun x => decide (outs1 D R G x)).map (·.1)
open Classical in
theorem outp_snoc {D : List (Int × Int)} {R : List Int} {G X : List (Str × Int)} {k : Nat} {nm : Str} {r : Int} (h : X[k]? = some (nm, r)) : outp D R G (X.take (k + 1)) = outp D R G (X.take k) ++ if outs1 D R G (nm, r) then [nm] else [] := by
  unfold outp
  rw [take_snoc h, filter_snoc, List.map_append]
  congr 1
  by_cases c : outs1 D R G (nm, r)
  · rw [if_pos c, if_pos (decide_eq_true c)]
    rfl
  · rw [if_neg c, if_neg (by simpa using c)]
    rfl
theorem outp_len (D : List (Int × Int)) (R : List Int) (G X : List (Str × Int)) : (outp D R G X).length ≤ X.length := by
  unfold outp
  rw [List.length_map]
  exact List.length_filter_le _ _
open Classical in
theorem outp_self (D : List (Int × Int)) (R : List Int) (P : List (Str × Int)) : outp D R P P = [] := by
  unfold outp
  rw [List.map_eq_nil_iff, List.filter_eq_nil_iff]
  intro x hx z
  exact (of_decide_eq_true z) x.2 hx .base
theorem outs1_iff {D : List (Int × Int)} {R : List Int} {G : List (Str × Int)} (nd : (G.map (·.1)).Nodup) {nm : Str} {r t : Int} (h : (nm, t) ∈ G) : outs1 D R G (nm, r) ↔ ¬ Wk D R r t := by
  refine ⟨fun o => o t h, fun o t' h' => ?_⟩
  have := key_uniq nd h h' rfl
  rw [← show t = t' from congrArg Prod.snd this]
  exact o
open Classical in
/-- who wants a room outside R -/
noncomputable def leavL (G : List (Str × Int)) (R : List Int) (ns : List Str) : List Str := ns.filter fun nm => decide (∀ t, (nm, t) ∈ G → t ∉ R)
noncomputable def leav (P G : List (Str × Int)) (R : List Int) : List Str := leavL G R (inside P R)
theorem leavL_len (G : List (Str × Int)) (R : List Int) (ns : List Str) : (leavL G R ns).length ≤ ns.length := List.length_filter_le _ _
open Classical in
theorem leavL_snoc {G : List (Str × Int)} {R : List Int} {ns : List Str} {k : Nat} {nm : Str} {t : Int} (nd : (G.map (·.1)).Nodup) (h : ns[k]? = some nm) (m : (nm, t) ∈ G) : leavL G R (ns.take (k + 1)) = leavL G R (ns.take k) ++ if t ∈ R then [] else [nm] := by
  unfold leavL
  rw [take_snoc h, filter_snoc]
  congr 1
  have e : (∀ t', (nm, t') ∈ G → t' ∉ R) ↔ t ∉ R := ⟨fun f => f t m, fun n t' m' => by
    have := key_uniq nd m m' rfl
    rw [← show t = t' from congrArg Prod.snd this]
    exact n⟩
  by_cases c : t ∈ R
  · rw [if_pos c, if_neg (by rw [decide_eq_true_eq, e]; exact fun z => z c)]
  · rw [if_neg c, if_pos (decide_eq_true (e.mpr c))]
theorem inside_sub {P : List (Str × Int)} {R : List Int} {nm : Str} (h : nm ∈ inside P R) : nm ∈ P.map (·.1) := by
  unfold inside at h
  obtain ⟨x, hx, rfl⟩ := List.mem_map.mp h
  exact List.mem_map.mpr ⟨x, (List.mem_filter.mp hx).1, rfl⟩
theorem mem_inside {P : List (Str × Int)} {R : List Int} {nm : Str} : nm ∈ inside P R ↔ ∃ r, (nm, r) ∈ P ∧ r ∈ R := by
  unfold inside
  rw [List.mem_map]
  constructor
  · rintro ⟨x, hx, rfl⟩
    have := List.mem_filter.mp hx
    exact ⟨x.2, this.1, of_decide_eq_true this.2⟩
  · rintro ⟨r, h1, h2⟩
    exact ⟨(nm, r), List.mem_filter.mpr ⟨h1, decide_eq_true h2⟩, rfl⟩
theorem inside_up {P : List (Str × Int)} {R : List Int} (h : (P.map (·.1)).Pairwise ltS) : (inside P R).Pairwise ltS := by
  unfold inside
  rw [List.pairwise_map] at h ⊢
  exact h.filter _
theorem nodup_ltS {ns : List Str} (h : ns.Pairwise ltS) : ns.Nodup := List.nodup_iff_pairwise_ne.mpr (h.imp fun {a b} l => fun (e : a = b) => ltS_irr b (by rw [e] at l; exact l))
open Classical in
theorem mem_leav {P G : List (Str × Int)} {R : List Int} {nm : Str} : nm ∈ leav P G R ↔ (∃ r, (nm, r) ∈ P ∧ r ∈ R) ∧ ∀ t, (nm, t) ∈ G → t ∉ R := by
  unfold leav leavL
  rw [List.mem_filter, mem_inside, decide_eq_true_eq]
/-- who is found outside, by the regions so far -/
structure Left (D : List (Int × Int)) (R : List Int) (G P : List (Str × Int)) (Ls : List (List Int)) (acc : List Str) : Prop where
  nd : acc.Nodup
  mem : ∀ nm, nm ∈ acc ↔ ∃ r, (nm, r) ∈ P ∧ outs1 D R G (nm, r) ∧ ∃ C ∈ Ls, r ∈ C
  len : acc.length ≤ P.length
theorem sub_len {xs ys : List Str} (nd : xs.Nodup) (h : ∀ x ∈ xs, x ∈ ys) : xs.length ≤ ys.length := by
  induction xs generalizing ys with
  | nil => exact Nat.zero_le _
  | cons x xs ih =>
    rw [List.nodup_cons] at nd
    have hx := h x (List.mem_cons_self ..)
    have := ih (ys := ys.erase x) nd.2 fun z hz => (List.mem_erase_of_ne (fun e : z = x => nd.1 (by rw [← e]; exact hz))).mpr (h z (List.mem_cons_of_mem _ hz))
    rw [List.length_erase_of_mem hx] at this
    have : 0 < ys.length := List.length_pos_of_mem hx
    simp only [List.length_cons]
    omega
theorem Left.nil {D : List (Int × Int)} {R : List Int} {G P : List (Str × Int)} : Left D R G P [] [] :=
  ⟨List.nodup_nil, fun nm => ⟨fun h => (List.not_mem_nil h).elim, fun ⟨_, _, _, C, hC, _⟩ => (List.not_mem_nil hC).elim⟩, Nat.zero_le _⟩
theorem Left.step {n : Int} {D : List (Int × Int)} {G P : List (Str × Int)} {Ls : List (List Int)} {acc : List Str} {i : Nat} {C : List Int} (l : Left D (occ n P) G P (Ls.take i) acc) (pl : Pl n P) (nd : (G.map (·.1)).Nodup) (sub : ∀ x ∈ P.map (·.1), x ∈ G.map (·.1))
    (RC : Regs D (occ n P) Ls) (hC : Ls[i]? = some C) : Left D (occ n P) G P (Ls.take (i + 1)) (acc ++ leav P G C) := by
  have hCm := List.mem_of_getElem? hC
  obtain ⟨a, ha, ia⟩ := (RC.mem C).mp hCm
  have key : ∀ nm r, (nm, r) ∈ P → r ∈ C → (outs1 D (occ n P) G (nm, r) ↔ ∀ t, (nm, t) ∈ G → t ∉ C) := fun nm r h1 h2 => by
    have ir := ia.re ha h2
    exact ⟨fun o t m z => o t m ((ir.mem t).mp z), fun o t m z => o t m ((ir.mem t).mpr z)⟩
  have mm : ∀ nm, nm ∈ acc ++ leav P G C ↔ ∃ r, (nm, r) ∈ P ∧ outs1 D (occ n P) G (nm, r) ∧ ∃ C' ∈ Ls.take (i + 1), r ∈ C' := fun nm => by
    rw [List.mem_append, l.mem, mem_leav, take_snoc hC]
    constructor
    · rintro (⟨r, h1, h2, C', h3, h4⟩ | ⟨⟨r, h1, h2⟩, h3⟩)
      · exact ⟨r, h1, h2, C', List.mem_append_left _ h3, h4⟩
      · exact ⟨r, h1, (key nm r h1 h2).mpr h3, C, List.mem_append_right _ (List.mem_singleton.mpr rfl), h2⟩
    · rintro ⟨r, h1, h2, C', h3, h4⟩
      rcases List.mem_append.mp h3 with h3 | h3
      · exact .inl ⟨r, h1, h2, C', h3, h4⟩
      · rw [List.mem_singleton] at h3
        subst h3
        exact .inr ⟨⟨r, h1, h4⟩, (key nm r h1 h4).mp h2⟩
  have ndn : (acc ++ leav P G C).Nodup := by
    rw [List.nodup_append]
    refine ⟨l.nd, (nodup_ltS (inside_up pl.nm.up)).filter _, fun x hx y hy e => ?_⟩
    subst e
    obtain ⟨r, h1, _, C', h3, h4⟩ := (l.mem x).mp hx
    obtain ⟨⟨r', h5, h6⟩, _⟩ := mem_leav.mp hy
    have er : r = r' := congrArg Prod.snd (key_uniq pl.nodup h1 h5 rfl)
    subst er
    have eC := RC.one (List.mem_of_mem_take h3) hCm h4 h6
    subst eC
    obtain ⟨j, hj, ej⟩ := List.mem_take_iff_getElem.mp h3
    have hi := lt_of_get hC
    have up := List.pairwise_iff_getElem.mp RC.up j i (by omega) hi (by omega)
    rw [ej, (List.getElem?_eq_some_iff.mp hC).2] at up
    exact absurd up (by rw [lexI_asym up]; exact Bool.false_ne_true)
  refine ⟨ndn, mm, ?_⟩
  have := sub_len (ys := P.map (·.1)) ndn fun x hx => by
    obtain ⟨r, h1, _⟩ := (mm x).mp hx
    exact List.mem_map.mpr ⟨_, h1, rfl⟩
  rw [List.length_map] at this
  exact this
open Classical in
theorem Left.done {n : Int} {D : List (Int × Int)} {G P : List (Str × Int)} {Ls : List (List Int)} {acc ys : List Str} (l : Left D (occ n P) G P Ls acc) (pl : Pl n P) (RC : Regs D (occ n P) Ls) (p : ys.Perm acc) (s : sortedS ys = true) : ys = outp D (occ n P) G P := by
  have up : ys.Pairwise ltS := ((sortedS_le s).and (List.nodup_iff_pairwise_ne.mp (p.nodup_iff.mpr l.nd))).imp fun {a b} h => ltS_of h.1 h.2
  refine upS_ext up ?_ fun nm => ?_
  · unfold outp
    have := pl.nm.up
    rw [List.pairwise_map] at this ⊢
    exact this.filter _
  · rw [p.mem_iff, l.mem]
    unfold outp
    rw [List.mem_map]
    constructor
    · rintro ⟨r, h1, h2, _⟩
      exact ⟨(nm, r), List.mem_filter.mpr ⟨h1, decide_eq_true h2⟩, rfl⟩
    · rintro ⟨x, hx, rfl⟩
      obtain ⟨h1, h2⟩ := List.mem_filter.mp hx
      obtain ⟨C, hC, m⟩ := RC.ex (occ_up n P) (pl.mem_occ.mpr (List.mem_map_of_mem (f := (·.2)) h1))
      exact ⟨x.2, h1, of_decide_eq_true h2, C, hC, m⟩
section
variable {P : Program} {w : World} {K : PySem.W.Frag} {mg : Str → Option Value} {base : Heap}

end
end Fw
namespace Fw
open PySem PySem.Spec PyProof.Rows L2
theorem inV_vs (x : Str) (R : List Str) : inV (.str x) (R.map V.str) = decide (x ∈ R) := by
  unfold inV
  rw [Bool.eq_iff_iff, List.any_eq_true, decide_eq_true_eq]
  constructor
  · rintro ⟨y, hy, e⟩
    obtain ⟨z, hz, rfl⟩ := List.mem_map.mp hy
    have : z = x := by simpa [eqV] using e
    exact this ▸ hz
  · intro h
    exact ⟨.str x, List.mem_map_of_mem h, by simp [eqV]⟩
theorem flat_vs (R : List Str) : (R.map V.str).all flatV = true := by
  rw [List.all_eq_true]
  intro x hx
  obtain ⟨z, _, rfl⟩ := List.mem_map.mp hx
  rfl
open Classical in
/-- a tight region in which nobody is outside -/
noncomputable def ctb (D : List (Int × Int)) (n : Int) (P G : List (Str × Int)) (C : List Int) : Bool := decide ((inside P C).length = C.length ∧ ∀ nm ∈ inside P C, nm ∉ outp D (occ n P) G P)
open Classical in
theorem ctb_iff {D : List (Int × Int)} {n : Int} {P G : List (Str × Int)} {C : List Int} : ctb D n P G C = true ↔ ((inside P C).length = C.length ∧ ∀ nm ∈ inside P C, nm ∉ outp D (occ n P) G P) := by
  unfold ctb
  rw [decide_eq_true_eq]
theorem inside_nam {P : List (Str × Int)} {n : Int} (pl : Pl n P) (R : List Int) : ∀ x ∈ inside P R, Nam x := fun x hx => by
  unfold inside at hx
  obtain ⟨y, hy, rfl⟩ := List.mem_map.mp hx
  exact pl.nm.nam _ (List.mem_map_of_mem (f := (·.1)) (List.mem_filter.mp hy).1)
section
variable {P : Program} {w : World} {K : PySem.W.Frag} {mg : Str → Option Value} {base : Heap}
end
end Fw
set_option maxHeartbeats 2000000
namespace Fw
open PySem PySem.Spec PyProof.Rows L2
/-! moves that can be made one after another (math) -/
theorem SP.upto {R : Int → Int → Prop} {a b c : Int} {p : List Int} (h : SP R a b p) : c ∈ p → ∃ q, SP R a c q ∧ ∀ x ∈ q, x ∈ p := by
  induction h with
  | one a =>
    intro m
    rw [List.mem_singleton.mp m]
    exact ⟨_, .one a, fun x hx => hx⟩
  | @cons a c' b p r q n ih =>
    intro m
    rcases List.mem_cons.mp m with e | m
    · rw [e]
      exact ⟨_, .one a, fun x hx => by rw [List.mem_singleton.mp hx]; exact List.mem_cons_self⟩
    · obtain ⟨q', hq, sub⟩ := ih m
      refine ⟨_, .cons r hq fun z => n (sub _ z), fun x hx => ?_⟩
      rcases List.mem_cons.mp hx with e | hx
      · rw [e]; exact List.mem_cons_self
      · exact List.mem_cons_of_mem _ (sub x hx)
/-- a way within -/
theorem Wk.within {D : List (Int × Int)} {U : List Int} {g v : Int} (h : Wk D U g v) : ∃ p, SP (adj D) g v p ∧ ∀ x ∈ p, x = g ∨ x ∈ U := by
  induction h with
  | base => exact ⟨_, .one g, fun x hx => .inl (List.mem_singleton.mp hx)⟩
  | @step v o _ r mo ih =>
    obtain ⟨p, hp, hs⟩ := ih
    by_cases m : o ∈ p
    · obtain ⟨q, hq, sub⟩ := hp.upto m
      exact ⟨q, hq, fun x hx => hs x (sub x hx)⟩
    · refine ⟨_, hp.snoc r m, fun x hx => ?_⟩
      rcases List.mem_append.mp hx with hx | hx
      · exact hs x hx
      · rw [List.mem_singleton.mp hx]
        exact .inr mo
theorem SP.walks {D : List (Int × Int)} {U : List Int} {a b : Int} {p : List Int} (h : SP (adj D) a b p) : (∀ x ∈ p.tail, x ∈ U) → Wk D U a b := by
  induction h with
  | one a => exact fun _ => .base
  | @cons a c b p r q n ih =>
    intro hs
    have hs : ∀ x ∈ p, x ∈ U := hs
    exact (Wk.step .base r (hs c q.head)).trans (ih fun x hx => hs x (List.mem_of_mem_tail hx))
theorem cut_tail (p : List Int) (h : 0 < p.length) : cutV (vi p) (some 1) none = vi p.tail := by
  unfold cutV vi
  show ((p.map V.int).drop (min 1 (p.map V.int).length)).take ((p.map V.int).length - min 1 (p.map V.int).length) = _
  rw [List.length_map, show min 1 p.length = 1 by omega, List.take_of_length_le (by rw [List.length_drop, List.length_map]; exact Nat.le_refl _), ← List.map_drop, List.drop_one]
/-- the moves X lead from P to Q -/
inductive Runs (n : Int) (D : List (Int × Int)) : List (Str × Int) → List (Str × Int) → List (Str × Int) → Prop
  | nil (P : List (Str × Int)) : Runs n D P [] P
  | cons {P X Q : List (Str × Int)} {nm : Str} {c r : Int} : (nm, c) ∈ P → r ∈ nb n D c → r ∈ P.map (·.2) → Runs n D (mvd P nm r) X Q → Runs n D P ((nm, r) :: X) Q
theorem mvd_twice (P : List (Str × Int)) (nm : Str) (a b : Int) : mvd (mvd P nm a) nm b = mvd P nm b := by
  unfold mvd
  rw [List.map_map]
  refine List.map_congr_left fun x _ => ?_
  by_cases e : x.1 = nm
  · simp [e]
  · simp [e]
theorem mvd_stay {P : List (Str × Int)} {nm : Str} {c : Int} (nd : (P.map (·.1)).Nodup) (m : (nm, c) ∈ P) : mvd P nm c = P := by
  unfold mvd
  refine (List.map_congr_left fun x hx => ?_).trans (List.map_id P)
  by_cases e : x.1 = nm
  · have := key_uniq nd m (show (nm, x.2) ∈ P from e ▸ hx) rfl
    rw [if_pos e, show c = x.2 from congrArg Prod.snd this]
    rfl
  · rw [if_neg e]
    rfl
theorem mvd_self {P : List (Str × Int)} {nm : Str} {c r : Int} (m : (nm, c) ∈ P) : (nm, r) ∈ mvd P nm r := List.mem_map.mpr ⟨_, m, by simp⟩
theorem mvd_other {P : List (Str × Int)} {nm : Str} {r : Int} {x : Str × Int} (m : x ∈ P) (ne : x.1 ≠ nm) : x ∈ mvd P nm r := List.mem_map.mpr ⟨_, m, by simp [ne]⟩
/-- a way whose rooms are other people's can be gone -/
theorem SP.runs {n : Int} {D : List (Int × Int)} (hF : Forest n D) {nm : Str} {a b : Int} {p : List Int} (h : SP (adj D) a b p) : ∀ {P : List (Str × Int)}, (P.map (·.1)).Nodup → (nm, a) ∈ P → (∀ t ∈ p.tail, ∃ x ∈ P, x.1 ≠ nm ∧ x.2 = t) → Runs n D P (p.tail.map fun t => (nm, t)) (mvd P nm b) := by
  induction h with
  | one a =>
    intro P nd m _
    rw [mvd_stay nd m]
    exact .nil P
  | @cons a c b p r q ni ih =>
    intro P nd m oth
    have oth : ∀ t ∈ p, ∃ x ∈ P, x.1 ≠ nm ∧ x.2 = t := oth
    have ep : p = c :: p.tail := by
      cases q <;> rfl
    show Runs n D P (p.map fun t => (nm, t)) _
    rw [ep, List.map_cons]
    obtain ⟨x, hx, _, ex⟩ := oth c q.head
    refine .cons m (hF.mem_nb.mpr r) (ex ▸ List.mem_map_of_mem (f := (·.2)) hx) ?_
    have := ih (P := mvd P nm c) (by rw [mvd_names]; exact nd) (mvd_self m) fun t ht => by
      obtain ⟨y, hy, ne, ey⟩ := oth t (List.mem_of_mem_tail ht)
      exact ⟨y, mvd_other hy ne, ne, ey⟩
    rw [mvd_twice] at this
    exact this
end Fw
namespace Fw
open PySem PySem.Spec PyProof.Rows L2
theorem int_dec (a b : Int) : decide (V.int a = V.int b) = decide (a = b) := by
  rw [Bool.eq_iff_iff, decide_eq_true_eq, decide_eq_true_eq]
  exact ⟨V.int.inj, fun e => by rw [e]⟩
section
variable {P : Program} {w : World} {K : PySem.W.Frag} {mg : Str → Option Value} {base : Heap}
def spSurp (K : PySem.W.Frag) : Sp := fun vs H Q _ => ∃ (p t : Addr) (P : List (Str × Int)) (R : List Int), vs = [.ref p, .ref t] ∧ PlAt H p P ∧ SqT K H t (vi R) ∧ P.length ≤ 100 ∧ ∀ H', Same H H' → Q (.int (((inside P R).length : Int) - (R.length : Int))) H'
abbrev nSurp : List Str := ["placement", "region"]
theorem scSurp : FnScope nSurp ["placement", "region"] (defScope sSurp) := ⟨rfl, rfl, rfl, by decide +kernel, rfl, by decide +kernel, by decide +kernel⟩
theorem ok_surp {f : Addr} {fd : FuncData} {k : Nat} (F : Fun K "surplus" "surplus" sSurp f fd) (T : Nm mg) (Cpeople_within : Cal P w K mg base (k + 1) "people_within" pPWi (spPWi K)) : FnOk P w K mg base CX0 (k + 2) f fd pSurp (spSurp K) := by
  refine F.ok scSurp (fun vs H Q E h => ?_) (fun cdv A outer s H vs Q E hr h => ?_)
  · obtain ⟨p, t, P, R, rfl, _⟩ := h
    rfl
  · obtain ⟨p, t, P, R, rfl, hP, hR, lP, q⟩ := h
    refine ⟨_, (pss_one (ps_ret (pe_op op_sub (pe_callB (call_lenK K rfl) (by rfl) T.len (by decide +kernel) (pa_cons (pe_cal Cpeople_within hr (by rfl) (pa_cons (pv 0) (pa_cons (pv 1) pa_nil))) pa_nil)) (pe_callB (call_lenK K rfl) (by rfl) T.len (by decide +kernel) (pa_cons (pv 1) pa_nil))))), ?_⟩
    refine ⟨_, rfl, _, rfl, p, t, P, R, rfl, hP, hR, lP, fun H1 u s1 e1 => ⟨u, _, rfl, .inr (SqT.of e1), _, rfl, t, _, rfl, .inr (sqT_same s1 hR), _, _, rfl, rfl, ?_⟩⟩
    have q := q H1 s1
    simp only [List.length_map]
    exact q
def spTight (K : PySem.W.Frag) : Sp := fun vs H Q _ => ∃ (p t : Addr) (P : List (Str × Int)) (R : List Int), vs = [.ref p, .ref t] ∧ PlAt H p P ∧ SqT K H t (vi R) ∧ P.length ≤ 100 ∧ ∀ H', Same H H' → Q (.bl (decide ((inside P R).length = R.length))) H'
abbrev nIsTight : List Str := ["placement", "region"]
theorem scIsTight : FnScope nIsTight ["placement", "region"] (defScope sIsTight) := ⟨rfl, rfl, rfl, by decide +kernel, rfl, by decide +kernel, by decide +kernel⟩
theorem ok_tight {f : Addr} {fd : FuncData} {k : Nat} (F : Fun K "is_tight" "is_tight" sIsTight f fd) (Csurplus : Cal P w K mg base (k + 2) "surplus" pSurp (spSurp K)) : FnOk P w K mg base CX0 (k + 3) f fd pSurp (spTight K) := by
  refine F.ok scIsTight (fun vs H Q E h => ?_) (fun cdv A outer s H vs Q E hr h => ?_)
  · obtain ⟨p, t, P, R, rfl, _⟩ := h
    rfl
  · obtain ⟨p, t, P, R, rfl, hP, hR, lP, q⟩ := h
    refine ⟨_, (pss_one (ps_ret (pe_cmpR op_eq (pe_cal Csurplus hr (by rfl) (pa_cons (pv 0) (pa_cons (pv 1) pa_nil))) pe_int (nomark _)))), ?_⟩
    refine ⟨_, rfl, _, rfl, p, t, P, R, rfl, hP, hR, lP, fun H1 s1 => ⟨rfl, ?_⟩⟩
    rw [int_dec, show decide (((inside P R).length : Int) - (R.length : Int) = 0) = decide ((inside P R).length = R.length) from by
      rw [Bool.eq_iff_iff, decide_eq_true_eq, decide_eq_true_eq]; omega]
    exact q H1 s1
end
end Fw
set_option maxHeartbeats 2000000
namespace Fw
open PySem PySem.Spec PyProof.Rows L2
/-- l != [], whatever lies in l -/
def rNeL0 (K : PySem.W.Frag) : R2 := fun x y H Q => ∃ (a b : Addr) (xs : List V), x = .ref a ∧ y = .ref b ∧ SqL K H a xs ∧ SqL K H b [] ∧ Q (.bl (!xs.isEmpty)) H
theorem op_neL0 {X : Cx} (hu : X.A.units < cLine) : OpR X (compareOp .NotEq) (rNeL0 X.K) := by
  rintro pn z σ H _ _ v u Q J rx ry ⟨a, b, xs, rfl, rfl, ha, hb, q⟩
  cases (show v = Value.ref a from rx)
  cases (show u = Value.ref b from ry)
  obtain ⟨ia, ra, pa, _⟩ := J.list ha
  obtain ⟨_, rb, pb, _⟩ := J.list hb
  cases rb
  match xs, ra with
  | [], .nil => exact SeqAt.RcNeAt.lists (e := fun _ => true) pa.isList pb.isList rfl hu (fun j h1 _ => absurd h1 (by simp)) X.prog X.w _ _ ⟨.bl false, H, J, rfl, q⟩
  | _ :: _, .cons _ _ => exact SeqAt.RcNeAt.lists_lengths pa.isList pb.isList (by simp) hu X.prog X.w _ _ ⟨.bl true, H, J, rfl, q⟩
/-! ### placements compared -/
theorem eqvAll_pp : ∀ (R G : List (Str × Int)), PyData.eqvAll (R.map pp) (G.map pp) = decide (R = G)
  | [], [] => rfl
  | [], _ :: _ => by rw [List.map_nil, List.map_cons, PyData.eqvAll]; rfl
  | _ :: _, [] => by rw [List.map_nil, List.map_cons, PyData.eqvAll]; rfl
  | x :: R, y :: G => by
    rw [List.map_cons, List.map_cons, PyData.eqvAll, eqvAll_pp R G]
    obtain ⟨x1, x2⟩ := x
    obtain ⟨y1, y2⟩ := y
    simp only [pp, PyData.eqv, PyData.eqvAll, Bool.and_true]
    rw [Bool.eq_iff_iff]
    simp
theorem eqv_pld (R G : List (Str × Int)) : PyData.eqv (pld R) (pld G) = decide (R = G) := by
  unfold pld
  rw [PyData.eqv]
  exact eqvAll_pp R G
end Fw
set_option maxHeartbeats 2000000
namespace Fw
open PySem PySem.Spec PyProof.Rows L2
/-! pieces and which of them are solvable (math) -/
/-- everybody in these rooms is in their target room -/
def Stl (P G : List (Str × Int)) (C : List Int) : Prop := ∀ nm c t, (nm, c) ∈ P → c ∈ C → (nm, t) ∈ G → t = c
/-- the person of r goes next to a -/
def Ahd (D : List (Int × Int)) (P G : List (Str × Int)) (r a : Int) : Prop := ∃ nm t q, (nm, r) ∈ P ∧ (nm, t) ∈ G ∧ SP (adj D) r t (r :: a :: q)
/-- the rooms without one of them -/
def cut (C : List Int) (r : Int) : List Int := C.filter fun x => !decide (x = r)
theorem mem_cut {C : List Int} {r x : Int} : x ∈ cut C r ↔ x ∈ C ∧ x ≠ r := by
  unfold cut
  rw [List.mem_filter, Bool.not_eq_true', decide_eq_false_iff_not]
theorem cut_up {C : List Int} {r : Int} (h : C.Pairwise (· < ·)) : (cut C r).Pairwise (· < ·) := h.filter _
theorem cut_len {C : List Int} {r : Int} (h : r ∈ C) : (cut C r).length < C.length := by
  unfold cut
  have : (C.filter fun x => !decide (x = r)).length + (C.filter fun x => decide (x = r)).length = C.length := by
    clear h
    induction C with
    | nil => rfl
    | cons x C ih =>
      by_cases e : x = r
      · rw [List.filter_cons_of_neg (by simpa using e), List.filter_cons_of_pos (by simpa using e), List.length_cons, List.length_cons]
        omega
      · rw [List.filter_cons_of_pos (by simpa using e), List.filter_cons_of_neg (by simpa using e), List.length_cons, List.length_cons]
        omega
  have p : 0 < (C.filter fun x => decide (x = r)).length := List.length_pos_of_mem (List.mem_filter.mpr ⟨h, decide_eq_true rfl⟩)
  omega
theorem cut_lenle (C : List Int) (r : Int) : (cut C r).length ≤ C.length := List.length_filter_le _ _
theorem up_len {L C : List Int} (h : L.Pairwise (· < ·)) (s : ∀ x ∈ L, x ∈ C) : L.length ≤ C.length := by
  have nd : L.Nodup := List.nodup_iff_pairwise_ne.mpr (h.imp fun {a b} z => by omega)
  clear h
  induction L generalizing C with
  | nil => exact Nat.zero_le _
  | cons x L ih =>
    have nd := List.nodup_cons.mp nd
    have i := ih (C := C.erase x) (fun y hy => (List.mem_erase_of_ne (show y ≠ x from fun e => nd.1 (e ▸ hy))).mpr (s y (List.mem_cons_of_mem _ hy))) nd.2
    have e := List.length_erase_of_mem (s x (List.mem_cons_self ..))
    have p := List.length_pos_of_mem (s x (List.mem_cons_self ..))
    rw [List.length_cons]
    omega
/-- solvable, by the definition -/
inductive Sol (D : List (Int × Int)) (P G : List (Str × Int)) : List Int → Prop
  | still {C : List Int} : Stl P G C → Sol D P G C
  | leave {C : List Int} {r : Int} : r ∈ fre D P G C → (∀ s ∈ cut C r, ∀ L, IsC D (cut C r) s L → (∀ a, Ahd D P G r a → a ∉ L) → Sol D P G L) → Sol D P G C
/-- a connected set of rooms, one person in each, nobody of them outside -/
structure Pce (D : List (Int × Int)) (P G : List (Str × Int)) (C : List Int) : Prop where
  up : C.Pairwise (· < ·)
  who : ∀ r ∈ C, ∃ nm, (nm, r) ∈ P ∧ ∀ nm', (nm', r) ∈ P → nm' = nm
  con : ∀ a ∈ C, ∀ b ∈ C, Wk D C a b
  tgt : ∀ nm c t, (nm, c) ∈ P → c ∈ C → (nm, t) ∈ G → t ∈ C
theorem SP.hd {R : Int → Int → Prop} {a b : Int} {p : List Int} (h : SP R a b p) : ∃ q, p = a :: q := by
  cases h with
  | one => exact ⟨[], rfl⟩
  | cons r q n => exact ⟨_, rfl⟩
/-- a way that is more than one room -/
theorem SP.two {R : Int → Int → Prop} {a b : Int} {p : List Int} (h : SP R a b p) (n : b ≠ a) : ∃ c q, p = a :: c :: q ∧ R a c := by
  cases h with
  | one => exact absurd rfl n
  | cons r q _ =>
    obtain ⟨q', rfl⟩ := q.hd
    exact ⟨_, q', rfl, r⟩
section
variable {n : Int} {D : List (Int × Int)} {P G : List (Str × Int)} {C L : List Int} {r s : Int}
open Classical in
theorem fre_mem (h : r ∈ fre D P G C) : r ∈ C ∧ ∀ nm c t, (nm, c) ∈ P → c ∈ C → (nm, t) ∈ G → r ≠ t ∧ ¬ pas D c t r := by
  unfold fre at h
  obtain ⟨h1, h2⟩ := List.mem_filter.mp h
  exact ⟨h1, of_decide_eq_true h2⟩
open Classical in
theorem mem_fre (h : r ∈ C) (f : ∀ nm c t, (nm, c) ∈ P → c ∈ C → (nm, t) ∈ G → r ≠ t ∧ ¬ pas D c t r) : r ∈ fre D P G C := by
  unfold fre
  exact List.mem_filter.mpr ⟨h, decide_eq_true f⟩
theorem IsC.sub' (hs : s ∈ C) (h : IsC D C s L) {v : Int} (m : v ∈ L) : v ∈ C := by
  rcases ((h.mem v).mp m).mem with e | e
  · rw [e]; exact hs
  · exact e
theorem IsC.closed (h : IsC D C s L) {a b : Int} (ma : a ∈ L) (w : Wk D C a b) : Wk D L a b ∧ b ∈ L := by
  induction w with
  | base => exact ⟨.base, ma⟩
  | @step v o k ad mo ih =>
    have mo' : o ∈ L := (h.mem o).mpr (.step ((h.mem v).mp ih.2) ad mo)
    exact ⟨.step ih.1 ad mo', mo'⟩
/-- what is left of a piece without a free room are pieces -/
theorem Pce.cut (pc : Pce D P G C) (fr : r ∈ fre D P G C) (hs : s ∈ cut C r) (ic : IsC D (cut C r) s L) : Pce D P G L := by
  obtain ⟨rC, fr⟩ := fre_mem fr
  have sub : ∀ v ∈ L, v ∈ C := fun v m => (mem_cut.mp (ic.sub' hs m)).1
  have both : ∀ a ∈ L, ∀ b ∈ L, Wk D (Fw.cut C r) a b := fun a ha b hb => (((ic.mem a).mp ha).symm hs).trans ((ic.mem b).mp hb)
  refine ⟨ic.up, fun v m => pc.who v (sub v m), fun a ha b hb => (ic.closed ha (both a ha b hb)).1, fun nm c t h1 h2 h3 => ?_⟩
  have cC := sub c h2
  have tC := pc.tgt nm c t h1 cC h3
  obtain ⟨p, hp, ins⟩ := (pc.con c cC t tC).within
  obtain ⟨z1, z2⟩ := fr nm c t h1 cC h3
  have cr := (mem_cut.mp (ic.sub' hs h2)).2
  have off : ∀ x ∈ p, x ∈ Fw.cut C r := fun x hx => mem_cut.mpr ⟨(ins x hx).elim (fun e => e ▸ cC) id, fun e => z2 ⟨p, hp, e ▸ hx, fun e => cr e.symm, z1⟩⟩
  exact (ic.closed h2 (hp.walks fun x hx => off x (List.mem_of_mem_tail hx))).2
/-- where the person of a free room goes -/
theorem Pce.ahead (pc : Pce D P G C) (sub : ∀ x ∈ P.map (·.1), x ∈ G.map (·.1)) (fr : r ∈ fre D P G C) : ∃ nm t a q, (nm, r) ∈ P ∧ (nm, t) ∈ G ∧ SP (adj D) r t (r :: a :: q) ∧ a ∈ C := by
  obtain ⟨rC, fr⟩ := fre_mem fr
  obtain ⟨nm, m, _⟩ := pc.who r rC
  obtain ⟨y, hy, e⟩ := List.mem_map.mp (sub nm (List.mem_map_of_mem (f := (·.1)) m))
  have mt : (nm, y.2) ∈ G := by rw [← e]; exact hy
  obtain ⟨z1, _⟩ := fr nm r y.2 m rC mt
  obtain ⟨p, hp, ins⟩ := (pc.con r rC _ (pc.tgt nm r y.2 m rC mt)).within
  obtain ⟨a, q, rfl, _⟩ := hp.two fun e => z1 e.symm
  refine ⟨nm, y.2, a, q, m, mt, hp, (ins a (by simp)).elim (fun e => e ▸ rC) id⟩
theorem Pce.ahd_one (pc : Pce D P G C) (hF : Forest n D) (nd : (G.map (·.1)).Nodup) (rC : r ∈ C) {a b : Int} (h : Ahd D P G r a) (k : Ahd D P G r b) : a = b := by
  obtain ⟨nm, m, u⟩ := pc.who r rC
  obtain ⟨x, t, q, x1, x2, x3⟩ := h
  obtain ⟨y, t', q', y1, y2, y3⟩ := k
  obtain rfl := u _ x1
  obtain rfl := u _ y1
  obtain rfl : t = t' := congrArg Prod.snd (key_uniq nd x2 y2 rfl)
  have := hF.uniq _ _ _ _ x3 y3
  injection this with _ this
  injection this
end
end Fw
set_option maxHeartbeats 4000000
namespace Fw
open PySem PySem.Spec PyProof.Rows L2
/-! which pieces are solvable: the program's own defs -/
open Classical in
noncomputable def stlB (P G : List (Str × Int)) (C : List Int) : Bool := decide (Stl P G C)
open Classical in
noncomputable def solB (D : List (Int × Int)) (P G : List (Str × Int)) (C : List Int) : Bool := decide (Sol D P G C)
/-- what is left of C without r is solvable -/
def Lve (D : List (Int × Int)) (P G : List (Str × Int)) (C : List Int) (r : Int) : Prop := ∀ s ∈ cut C r, ∀ L, IsC D (cut C r) s L → (∀ a, Ahd D P G r a → a ∉ L) → Sol D P G L
open Classical in
noncomputable def lveB (D : List (Int × Int)) (P G : List (Str × Int)) (C : List Int) (r : Int) : Bool := decide (Lve D P G C r)
open Classical in
theorem stlB_iff {P G : List (Str × Int)} {C : List Int} : stlB P G C = true ↔ Stl P G C := by unfold stlB; rw [decide_eq_true_eq]
open Classical in
theorem solB_iff {D : List (Int × Int)} {P G : List (Str × Int)} {C : List Int} : solB D P G C = true ↔ Sol D P G C := by unfold solB; rw [decide_eq_true_eq]
open Classical in
theorem lveB_iff {D : List (Int × Int)} {P G : List (Str × Int)} {C : List Int} {r : Int} : lveB D P G C r = true ↔ Lve D P G C r := by unfold lveB; rw [decide_eq_true_eq]
theorem sol_iff {D : List (Int × Int)} {P G : List (Str × Int)} {C : List Int} : Sol D P G C ↔ Stl P G C ∨ ∃ r ∈ fre D P G C, Lve D P G C r := by
  constructor
  · intro h
    cases h with
    | still h => exact .inl h
    | leave h k => exact .inr ⟨_, h, k⟩
  · rintro (h | ⟨r, h, k⟩)
    · exact .still h
    · exact .leave h k
theorem Pce.len {n : Int} {D : List (Int × Int)} {P G : List (Str × Int)} {C : List Int} (pc : Pce D P G C) (pl : Pl n P) (n1 : n ≤ 8) : C.length ≤ 8 := by
  have := up_len pc.up (C := rg n) fun x hx => by
    obtain ⟨nm, m, _⟩ := pc.who x hx
    exact mem_rg.mpr (pl.rm _ m)
  rw [rg_len] at this
  omega
theorem inside_all {P : List (Str × Int)} {nm : Str} {r : Int} (m : (nm, r) ∈ P) (u : ∀ nm', (nm', r) ∈ P → nm' = nm) : ∃ q, inside P [r] = nm :: q := by
  have h : nm ∈ inside P [r] := mem_inside' m (List.mem_singleton.mpr rfl)
  match e : inside P [r], h with
  | x :: q, _ =>
    have : x ∈ inside P [r] := by rw [e]; exact List.mem_cons_self ..
    obtain ⟨c, h1, h2⟩ := inside_get this
    rw [List.mem_singleton.mp h2] at h1
    exact ⟨q, by rw [u x h1]⟩
section
variable {P : Program} {w : World} {K : PySem.W.Frag} {mg : Str → Option Value} {base : Heap}
end
end Fw
set_option maxHeartbeats 2000000
namespace Fw
open PySem PySem.Spec PyProof.Rows L2
/-! where pieces come from (math) -/
theorem Wk.doors {D D' : List (Int × Int)} {R : List Int} {a b : Int} (h : Wk D R a b) (m : ∀ x y, adj D x y → adj D' x y) : Wk D' R a b := by
  induction h with
  | base => exact .base
  | step _ ad mo ih => exact .step ih (m _ _ ad) mo
theorem Wk.wider {D : List (Int × Int)} {R R' : List Int} {a b : Int} (h : Wk D R a b) (m : ∀ x ∈ R, x ∈ R') : Wk D R' a b := by
  induction h with
  | base => exact .base
  | step _ ad mo ih => exact .step ih ad (m _ mo)
/-- a forest has fewer doors than rooms; with one less only, it is connected -/
theorem Grown.conn {U : List Int} {E : List (Int × Int)} (g : Grown U E) : (U = [] → E = []) ∧ (U ≠ [] → E.length + 1 ≤ U.length) ∧ (E.length + 1 = U.length → ∀ a ∈ U, ∀ b ∈ U, Wk E U a b) := by
  induction g with
  | nil => exact ⟨fun _ => rfl, fun h => absurd rfl h, fun _ a ha => nomatch ha⟩
  | @room U E v g nv ih =>
    obtain ⟨i0, i1, i2⟩ := ih
    refine ⟨fun h => (nomatch h), fun _ => ?_, fun e a ha b hb => ?_⟩
    · by_cases z : U = []
      · rw [i0 z, z]
        exact Nat.le_refl _
      · have := i1 z
        rw [List.length_cons]
        omega
    · by_cases z : U = []
      · rw [z] at ha hb
        rw [List.mem_singleton.mp ha, List.mem_singleton.mp hb]
        exact .base
      · have := i1 z
        rw [List.length_cons] at e
        omega
  | @door U E v u a b g nv mu e ih =>
    obtain ⟨i0, i1, i2⟩ := ih
    have z : U ≠ [] := fun z => by rw [z] at mu; cases mu
    have i1 := i1 z
    refine ⟨fun h => (nomatch h), fun _ => ?_, fun ee x hx y hy => ?_⟩
    · rw [List.length_cons, List.length_cons]
      omega
    · rw [List.length_cons, List.length_cons] at ee
      have i2 := i2 (by omega)
      have up : ∀ x y, adj E x y → adj ((a, b) :: E) x y := fun x y h => h.imp (List.mem_cons_of_mem _) (List.mem_cons_of_mem _)
      have uv : adj ((a, b) :: E) u v := by
        rcases minmax u v a b e with ⟨rfl, rfl, _⟩ | ⟨rfl, rfl, _⟩
        · exact .inl (List.mem_cons_self ..)
        · exact .inr (List.mem_cons_self ..)
      have old : ∀ x ∈ U, ∀ y ∈ U, Wk ((a, b) :: E) (v :: U) x y := fun x hx y hy => ((i2 x hx y hy).doors up).wider fun z hz => List.mem_cons_of_mem _ hz
      have to : ∀ x ∈ U, Wk ((a, b) :: E) (v :: U) x v := fun x hx => .step (old x hx u mu) uv (List.mem_cons_self ..)
      have from' : ∀ y ∈ U, Wk ((a, b) :: E) (v :: U) v y := fun y hy => (Wk.step .base (adj_symm uv) (List.mem_cons_of_mem _ mu)).trans (old u mu y hy)
      rcases List.mem_cons.mp hx with rfl | hx' <;> rcases List.mem_cons.mp hy with rfl | hy'
      · exact .base
      · exact from' y hy'
      · exact to x hx'
      · exact old x hx' y hy'
theorem Grown.nodupU {U : List Int} {E : List (Int × Int)} (g : Grown U E) : U.Nodup := by
  induction g with
  | nil => exact List.nodup_nil
  | room v g nv ih => exact List.nodup_cons.mpr ⟨nv, ih⟩
  | door v u a b g nv mu e ih => exact List.nodup_cons.mpr ⟨nv, ih⟩
theorem same_len {xs ys : List Int} (nx : xs.Nodup) (ny : ys.Nodup) (h : ∀ x, x ∈ xs ↔ x ∈ ys) : xs.length = ys.length :=
  Nat.le_antisymm (subset_len nx fun x hx => (h x).mp hx) (subset_len ny fun x hx => (h x).mpr hx)
/-- a house with one door less than rooms is connected -/
theorem Forest.conn {n : Int} {D : List (Int × Int)} (f : Forest n D) (e : D.length + 1 = n.toNat) : ∀ a ∈ rg n, ∀ b ∈ rg n, Wk D (rg n) a b := by
  obtain ⟨U, E, g, mu, pm, _, _⟩ := f
  have l1 : U.length = n.toNat := by
    rw [← rg_len n]
    exact same_len g.nodupU (rg_nodup n) fun x => by rw [mu, mem_rg]
  have l2 := pm.length_eq
  intro a ha b hb
  have := g.conn.2.2 (by omega) a ((mu a).mpr (mem_rg.mp ha)) b ((mu b).mpr (mem_rg.mp hb))
  refine (this.doors fun x y h => ?_).wider fun x hx => mem_rg.mpr ((mu x).mp hx)
  rw [adj_perm pm]
  exact h
/-- the whole of a full house -/
theorem Pce.whole {n : Int} {D : List (Int × Int)} {P G : List (Str × Int)} (f : Forest n D) (e : D.length + 1 = n.toNat) (pm : (P.map (·.2)).Perm (rg n)) (pl : Pl n P) (plG : Pl n G) : Pce D P G (rg n) := by
  refine ⟨rg_up n, fun r hr => ?_, f.conn e, fun nm c t _ _ m => mem_rg.mpr (plG.rm _ m)⟩
  obtain ⟨x, hx, rfl⟩ := List.mem_map.mp (pm.mem_iff.mpr hr)
  refine ⟨x.1, hx, fun nm' m => ?_⟩
  have nd : (P.map (·.2)).Nodup := pm.nodup_iff.mpr (rg_nodup n)
  exact congrArg Prod.fst (map_inj nd m hx rfl)
where
  map_inj {α β : Type} {f : α → β} : ∀ {xs : List α}, (xs.map f).Nodup → ∀ {x y : α}, x ∈ xs → y ∈ xs → f x = f y → x = y
    | [], _, _, _, h, _, _ => nomatch h
    | z :: xs, nd, x, y, hx, hy, e => by
      rw [List.map_cons, List.nodup_cons] at nd
      rcases List.mem_cons.mp hx with e1 | hx' <;> rcases List.mem_cons.mp hy with e2 | hy'
      · rw [e1, e2]
      · exact absurd (by rw [← e1, e]; exact List.mem_map_of_mem hy') nd.1
      · exact absurd (by rw [← e2, ← e]; exact List.mem_map_of_mem hx') nd.1
      · exact map_inj nd.2 hx' hy' e
/-- two of a list with the same mark: one may go and the mark stays -/
theorem mark_stays {α β : Type} [DecidableEq β] {f : α → β} : ∀ {xs : List α}, ∀ {x y : α}, x ∈ xs → y ∈ xs → x ≠ y → f x = f y → f x ∈ (xs.map f).erase (f x)
  | [], _, _, h, _, _, _ => nomatch h
  | z :: xs, x, y, hx, hy, ne, e => by
    rw [List.map_cons]
    by_cases ez : f z = f x
    · rw [← ez, List.erase_cons_head, ez]
      rcases List.mem_cons.mp hx with rfl | hx
      · rcases List.mem_cons.mp hy with rfl | hy
        · exact absurd rfl ne
        · rw [e]; exact List.mem_map_of_mem hy
      · exact List.mem_map_of_mem hx
    · rw [List.erase_cons_tail (by simpa using ez)]
      have hx : x ∈ xs := (List.mem_cons.mp hx).resolve_left fun h => ez (by rw [h])
      have hy : y ∈ xs := (List.mem_cons.mp hy).resolve_left fun h => ez (by rw [← h, e])
      exact List.mem_cons_of_mem _ (mark_stays hx hy ne e)
/-- as many people as rooms, nobody missing: one in each -/
theorem tight_one {P : List (Str × Int)} {C : List Int} (nd : C.Nodup) (occ : ∀ r ∈ C, r ∈ P.map (·.2)) (ti : (inside P C).length = C.length) {r : Int} (rC : r ∈ C) {a b : Str} (ha : (a, r) ∈ P) (hb : (b, r) ∈ P) : a = b := by
  refine Classical.byContradiction fun ne => ?_
  have ll : ((P.filter fun x => decide (x.2 ∈ C)).map (·.2)).length = C.length := by
    unfold inside at ti
    rw [List.length_map] at ti ⊢
    exact ti
  have fa : (a, r) ∈ P.filter fun x => decide (x.2 ∈ C) := List.mem_filter.mpr ⟨ha, decide_eq_true rC⟩
  have fb : (b, r) ∈ P.filter fun x => decide (x.2 ∈ C) := List.mem_filter.mpr ⟨hb, decide_eq_true rC⟩
  have st : r ∈ ((P.filter fun x => decide (x.2 ∈ C)).map (·.2)).erase r := mark_stays (f := fun x : Str × Int => x.2) fa fb (fun e => ne (congrArg Prod.fst e)) rfl
  have all : ∀ x ∈ C, x ∈ ((P.filter fun x => decide (x.2 ∈ C)).map (·.2)).erase r := fun x hx => by
    by_cases e : x = r
    · rw [e]; exact st
    · refine (List.mem_erase_of_ne e).mpr ?_
      obtain ⟨y, hy, rfl⟩ := List.mem_map.mp (occ x hx)
      exact List.mem_map_of_mem (f := fun x : Str × Int => x.2) (List.mem_filter.mpr ⟨hy, show decide (y.2 ∈ C) = true from decide_eq_true hx⟩)
  have := subset_len nd all
  rw [List.length_erase_of_mem (List.mem_map_of_mem (f := (·.2)) fa), ll] at this
  have := List.length_pos_of_mem rC
  omega
/-- a tight region in which nobody is outside is a piece -/
theorem Pce.region {n : Int} {D : List (Int × Int)} {P G : List (Str × Int)} {Ls : List (List Int)} {C : List Int} (pl : Pl n P) (ndG : (G.map (·.1)).Nodup) (sub : ∀ x ∈ P.map (·.1), x ∈ G.map (·.1)) (rg : Regs D (occ n P) Ls) (hC : C ∈ Ls) (ti : (inside P C).length = C.length) (inn : ∀ nm c t, (nm, c) ∈ P → c ∈ C → (nm, t) ∈ G → t ∈ C) : Pce D P G C := by
  obtain ⟨s, hs, ic⟩ := (rg.mem C).mp hC
  have oc : ∀ r ∈ C, r ∈ P.map (·.2) := fun r hr => pl.mem_occ.mp (ic.sub' hs hr)
  refine ⟨ic.up, fun r hr => ?_, fun a ha b hb => ?_, inn⟩
  · obtain ⟨x, hx, rfl⟩ := List.mem_map.mp (oc r hr)
    exact ⟨x.1, hx, fun nm' m => tight_one (up_nodup ic.up) oc ti hr m hx⟩
  · exact (ic.closed ha ((((ic.mem a).mp ha).symm hs).trans ((ic.mem b).mp hb))).1
open Classical in
theorem ctb_in {n : Int} {D : List (Int × Int)} {P G : List (Str × Int)} {Ls : List (List Int)} {C : List Int} (pl : Pl n P) (ndG : (G.map (·.1)).Nodup) (rg : Regs D (occ n P) Ls) (hC : C ∈ Ls) (h : ctb D n P G C = true) : ∀ nm c t, (nm, c) ∈ P → c ∈ C → (nm, t) ∈ G → t ∈ C := by
  obtain ⟨s, hs, ic⟩ := (rg.mem C).mp hC
  obtain ⟨_, ct⟩ := ctb_iff.mp h
  intro nm c t h1 h2 h3
  refine Classical.byContradiction fun no => ct nm (mem_inside' h1 h2) ?_
  unfold outp
  refine List.mem_map.mpr ⟨(nm, c), List.mem_filter.mpr ⟨h1, decide_eq_true fun t' m w => no ?_⟩, rfl⟩
  have e : t' = t := congrArg Prod.snd (key_uniq ndG m h3 rfl)
  rw [← e]
  exact (ic.mem t').mpr (((ic.mem c).mp h2).trans w)
end Fw
namespace Fw
open PySem PySem.Spec PyProof.Rows L2
theorem le_sz {n : Nat} (h : n ≤ 100) : n ≤ sizeLine := Nat.le_trans h (by decide)
theorem rd_sm {H H1 : Hp} (s : Same H H1) {a : Addr} {o : HO} (h : Rd H a o) : Rd H1 a o := by
  rcases h with e | ⟨ob, e⟩
  · exact .inl (s _ _ e)
  · exact .inr ⟨ob, s _ _ e⟩
theorem sqL_sm {K : PySem.W.Frag} {H H1 : Hp} (s : Same H H1) {a : Addr} {xs : List V} (h : SqL K H a xs) : SqL K H1 a xs := by
  rcases h with e | e
  · exact .inl (rd_sm s e)
  · exact .inr e
theorem sqT_sm {K : PySem.W.Frag} {H H1 : Hp} (s : Same H H1) {a : Addr} {xs : List V} (h : SqT K H a xs) : SqT K H1 a xs := by
  rcases h with e | e
  · exact .inl (rd_sm s e)
  · exact .inr e
theorem same_put8 {H H8 : Hp} (s : Same H H8) {D : Addr} {o : HO} (hD : H D = none) : Same H (upd H8 D o) := fun b u e => by
  rw [upd_ne (ne_of_none e hD)]
  exact s b u e
def datas : List PyData := [.none, .bool true, .bool false, .int 0, .int 1, .int (-1), .int 9, .int (10 ^ (59 : Int).toNat), .str "", .str "a", .str "A", .str "a1", .str "abcdefghi", .tuple [], .list [], .dict [], .tuple [.int 0], .tuple [.int 1, .int 0], .list [.int 0, .int 1],
  .tuple [.int 0, .int 0], .tuple [.int 0, .int 1, .int 2], .tuple [.tuple [.int 0, .int 1]], .tuple [.str "a", .int 0], .str "a b", .tuple [.tuple [.str "a", .int 0]]]
abbrev nRand : List Str := ["_law_stream_here", "_law_some"]
end Fw
set_option maxHeartbeats 2000000
namespace Fw
open PySem PySem.Spec PyProof.Rows L2
/-! any value of the laws: data, with {} as a leaf; no list of it is sys.modules or among av -/
mutual
inductive Dx (K : PySem.W.Frag) (av : List Addr) (H : Hp) : V → PyData → Prop
  | non : Dx K av H .non .none
  | bl (b : Bool) : Dx K av H (.bl b) (.bool b)
  | int (i : Int) : Dx K av H (.int i) (.int i)
  | str (x : Str) : Dx K av H (.str x) (.str x)
  | lst {a : Addr} {xs : List V} {ds : List PyData} : SqL K H a xs → a ∉ sysModules :: av → DxAll K av H xs ds → Dx K av H (.ref a) (.list ds)
  | tup {a : Addr} {xs : List V} {ds : List PyData} : SqT K H a xs → DxAll K av H xs ds → Dx K av H (.ref a) (.tuple ds)
  | dct {a : Addr} : H a = some (.dK []) → Dx K av H (.ref a) (.dict [])
inductive DxAll (K : PySem.W.Frag) (av : List Addr) (H : Hp) : List V → List PyData → Prop
  | nil : DxAll K av H [] []
  | cons {v : V} {vs : List V} {d : PyData} {ds : List PyData} : Dx K av H v d → DxAll K av H vs ds → DxAll K av H (v :: vs) (d :: ds)
end
mutual
theorem dx_sm {K : PySem.W.Frag} {av : List Addr} {H H1 : Hp} (s : Same H H1) : ∀ {v : V} {d : PyData}, Dx K av H v d → Dx K av H1 v d
  | _, _, .non => .non
  | _, _, .bl b => .bl b
  | _, _, .int i => .int i
  | _, _, .str x => .str x
  | _, _, .lst h n a => .lst (sqL_sm s h) n (dxA_sm s a)
  | _, _, .tup h a => .tup (sqT_sm s h) (dxA_sm s a)
  | _, _, .dct e => .dct (s _ _ e)
theorem dxA_sm {K : PySem.W.Frag} {av : List Addr} {H H1 : Hp} (s : Same H H1) : ∀ {v : List V} {d : List PyData}, DxAll K av H v d → DxAll K av H1 v d
  | _, _, .nil => .nil
  | _, _, .cons h a => .cons (dx_sm s h) (dxA_sm s a)
end
theorem rd_fr {s A B : Addr} {c : Nat} {H H1 : Hp} (hS : StreamAt H s A B c) (f : Fr s A H H1) {a : Addr} {xs : List V} (h : Rd H a (.tup xs)) : Rd H1 a (.tup xs) := by
  obtain ⟨big, cells, cnt, h1, h2, h3, _⟩ := hS.ex
  rcases h with e | ⟨ob, e⟩
  · exact .inl (f _ _ (ne_of e h1 (by intro q; cases q)) (ne_of e h2 (by intro q; cases q)) e)
  · exact .inr ⟨ob, f _ _ (ne_of e h1 (by intro q; cases q)) (ne_of e h2 (by intro q; cases q)) e⟩
mutual
theorem dx_fr {K : PySem.W.Frag} {s A B : Addr} {c : Nat} {H H1 : Hp} (hS : StreamAt H s A B c) (f : Fr s A H H1) : ∀ {v : V} {d : PyData}, Dx K [s, A] H v d → Dx K [s, A] H1 v d
  | _, _, .non => .non
  | _, _, .bl b => .bl b
  | _, _, .int i => .int i
  | _, _, .str x => .str x
  | _, _, .lst (a := a) h n t => .lst (by
      have n1 : a ≠ s := fun z => n (by simp [z])
      have n2 : a ≠ A := fun z => n (by simp [z])
      rcases h with (e | ⟨ob, e⟩) | e
      · exact .inl (.inl (f _ _ n1 n2 e))
      · exact .inl (.inr ⟨ob, f _ _ n1 n2 e⟩)
      · exact .inr e) n (dxA_fr hS f t)
  | _, _, .tup h t => .tup (by
      rcases h with e | e
      · exact .inl (rd_fr hS f e)
      · exact .inr e) (dxA_fr hS f t)
  | _, _, .dct e => .dct (by
      obtain ⟨big, cells, cnt, h1, h2, h3, _⟩ := hS.ex
      exact f _ _ (ne_of e h1 (by intro q; cases q)) (ne_of e h2 (by intro q; cases q)) e)
theorem dxA_fr {K : PySem.W.Frag} {s A B : Addr} {c : Nat} {H H1 : Hp} (hS : StreamAt H s A B c) (f : Fr s A H H1) : ∀ {v : List V} {d : List PyData}, DxAll K [s, A] H v d → DxAll K [s, A] H1 v d
  | _, _, .nil => .nil
  | _, _, .cons h t => .cons (dx_fr hS f h) (dxA_fr hS f t)
end
section
variable {X : Cx} {av : List Addr} {pins : List (Addr × Obj)} {σ : L2.St} {H : Hp} {s : Shared}
mutual
theorem dx_reads (I : Inv X pins σ H s) : ∀ {v : V} {d : PyData} {u : Value}, Dx X.K av H v d → RelV v u → ∃ as, Reads s.heap u d as ∧ sysModules ∉ as
  | _, _, _, .non, r => by
    cases r
    exact ⟨_, .none, fun z => nomatch z⟩
  | _, _, _, .bl b, r => by
    cases r
    exact ⟨_, .bool b, fun z => nomatch z⟩
  | _, _, _, .int i, r => by
    obtain ⟨t, rfl⟩ := r
    exact ⟨_, .int i t, fun z => nomatch z⟩
  | _, _, _, .str x, r => by
    obtain ⟨t, rfl⟩ := r
    exact ⟨_, .str x t, fun z => nomatch z⟩
  | _, _, _, .lst h n a, r => by
    cases r
    obtain ⟨its, rv, ⟨ob, k, ho, hc, _, hd⟩, _⟩ := I.list h
    obtain ⟨as, ra, na⟩ := dxA_reads I a rv
    refine ⟨_, .list ho hc hd ra, fun z => ?_⟩
    rcases List.mem_cons.mp z with e | e
    · exact n (e ▸ List.mem_cons_self)
    · exact na e
  | _, _, _, .tup h a, r => by
    cases r
    obtain ⟨its, rv, ⟨ob, ho, hc, k, hd⟩, _⟩ := I.tuple h
    obtain ⟨as, ra, na⟩ := dxA_reads I a rv
    exact ⟨_, .tuple ho hc hd ra, na⟩
  | _, _, _, .dct (a := a) e, r => by
    cases r
    obtain ⟨_, y, vs, kv, o, es, ep, ho, hx, hd, _, hp, _⟩ := (show ObjOk X.prog X.w H s.heap a (.dK []) from I.hok a _ e)
    cases kv
    have e0 : es.toList = [] := by
      generalize es.toList = l at hp
      cases hp
      rfl
    refine ⟨_, Reads.dict (kvs := []) ho hx.1 hd (by rw [e0]; exact .nil) (by rw [e0]; exact .nil), fun z => ?_⟩
    have z' : sysModules ∈ [a] := z
    rw [List.mem_singleton.mp z'] at y
    simp at y
theorem dxA_reads (I : Inv X pins σ H s) : ∀ {vs : List V} {ds : List PyData} {us : List Value}, DxAll X.K av H vs ds → Vals vs us → ∃ as, ReadsAll s.heap us ds as ∧ sysModules ∉ as
  | _, _, _, .nil, r => by
    cases r
    exact ⟨_, .nil, fun z => nomatch z⟩
  | _, _, _, .cons h t, r => by
    cases r with
    | cons r1 r2 =>
      obtain ⟨as, q1, n1⟩ := dx_reads I h r1
      obtain ⟨bs, q2, n2⟩ := dxA_reads I t r2
      exact ⟨_, .cons q1 q2, fun z => (List.mem_append.mp z).elim n1 n2⟩
end
/-- repr of such a value that lies in memory -/
def rReprD (K : PySem.W.Frag) (av : List Addr) : List V → Hp → VK → Prop := fun vs H Q => ∃ (a : Addr) (d : PyData), vs = [.ref a] ∧ Dx K av H (.ref a) d ∧ d.showable = true ∧ d.depth ≤ 60 ∧ d.shown.length ≤ sizeLine ∧ Q (.str d.shown) H
theorem call_reprD {X : Cx} (hg : X.A.guards = some []) (hu : X.A.units + 65 < cLine) : CallR X (.builtin "repr") (rReprD X.K av) := by
  intro pn sh σ H vs us Q J rr hh
  obtain ⟨a, d, rfl, hd, hs, hp, hz, q⟩ := hh
  obtain ⟨ua, rfl, ra⟩ := vals1 rr
  cases (show ua = Value.ref a from ra)
  obtain ⟨as, rd, nn⟩ := dx_reads J hd rfl
  exact repr_of_reads' rd hs (fun _ => nn) hg (by omega) (fun _ _ e => e) (fun h' t tk hk => ⟨.str _, H, J.kept hk, ⟨_, rfl⟩, q⟩) hz
end
end Fw
set_option maxHeartbeats 2000000
namespace Fw
open PySem PySem.Spec PyProof.Rows L2
open RZ
section
variable {X : Cx} {av : List Addr}
/-- repr of any value -/
def rReprV (K : PySem.W.Frag) (av : List Addr) : List V → Hp → VK → Prop := fun vs H Q => ∃ (v : V) (d : PyData), vs = [v] ∧ Dx K av H v d ∧ d.showable = true ∧ d.depth ≤ 60 ∧ d.shown.length ≤ sizeLine ∧ Q (.str d.shown) H
theorem call_reprV (hg : X.A.guards = some []) (hu : X.A.units + 65 < cLine) : CallR X (.builtin "repr") (rReprV X.K av) := by
  intro pn sh σ H vs us Q J rr hh
  obtain ⟨v, d, rfl, hd, hs, hp, hz, q⟩ := hh
  cases hd with
  | non =>
    obtain ⟨u, rfl, ru⟩ := vals1 rr
    cases (show u = Value.none from ru)
    exact PySem.P.repr_of_none ⟨.str "None", H, J.tok _, ⟨_, rfl⟩, q⟩
  | bl b =>
    obtain ⟨u, rfl, ru⟩ := vals1 rr
    cases (show u = Value.bool b from ru)
    exact PySem.P.repr_of_bool ⟨.str _, H, J.tok _, ⟨_, rfl⟩, q⟩
  | int i =>
    obtain ⟨u, rfl, ru⟩ := vals1 rr
    obtain ⟨t, rfl⟩ := ru
    exact PySem.P.repr_of_int (of_decide_eq_true (by simpa only [PyData.showable] using hs)) ⟨.str _, H, J.tok _, ⟨_, rfl⟩, q⟩
  | str z =>
    obtain ⟨u, rfl, ru⟩ := vals1 rr
    obtain ⟨t, rfl⟩ := ru
    exact PySem.P.repr_of_str ⟨.str _, H, J.tok _, ⟨_, rfl⟩, q⟩ (by simpa only [PyData.shown] using hz)
  | lst h n a => exact call_reprD (av := av) hg hu pn sh σ H _ us Q J rr ⟨_, _, rfl, .lst h n a, hs, hp, hz, q⟩
  | tup h a => exact call_reprD (av := av) hg hu pn sh σ H _ us Q J rr ⟨_, _, rfl, .tup h a, hs, hp, hz, q⟩
  | dct e => exact call_reprD (av := av) hg hu pn sh σ H _ us Q J rr ⟨_, _, rfl, .dct e, hs, hp, hz, q⟩
end
theorem call_reprVK {X : Cx} {av : List Addr} {K : PySem.W.Frag} (hK : X.K = K) (hg : X.A.guards = some []) (hu : X.A.units + 65 < cLine) : CallR X (.builtin "repr") (rReprV K av) := by
  subst hK
  exact call_reprV hg hu
end Fw
set_option maxHeartbeats 4000000
namespace Fw
open PySem PySem.Spec PyProof.Rows L2
/-! certificates: there is one exactly where a piece is not solvable (math) -/
theorem Forest.adj_ne {n : Int} {D : List (Int × Int)} (f : Forest n D) {a b : Int} (h : Fw.adj D a b) : a ≠ b := fun e => by
  subst e
  rcases h with m | m <;> exact absurd (f.ends m).2.1 (Int.lt_irrefl _)
/-- two neighbours of a room are apart without it -/
theorem nb_apart {n : Int} {D : List (Int × Int)} (f : Forest n D) {R : List Int} {r a b : Int} (h1 : adj D r a) (h2 : adj D r b) (no : r ∉ R) (w : Wk D R a b) : a = b := by
  refine Classical.byContradiction fun ne => ?_
  obtain ⟨p, hp, ins⟩ := w.within
  have ra := f.adj_ne h1
  have rb := f.adj_ne h2
  have rp : r ∉ p := fun m => (ins r m).elim (fun e => ra e) no
  have two : SP (adj D) a b [a, r, b] := .cons (adj_symm h1) (.cons h2 (.one b) (by simpa using rb)) (by simpa using ⟨fun e => ra e.symm, ne⟩)
  have := f.uniq _ _ _ _ hp two
  rw [this] at rp
  exact rp (by simp)
open Classical in
noncomputable def comp (D : List (Int × Int)) (R : List Int) (s : Int) : List Int := R.filter fun v => decide (Wk D R s v)
open Classical in
theorem comp_is {D : List (Int × Int)} {R : List Int} {s : Int} (up : R.Pairwise (· < ·)) (hs : s ∈ R) : IsC D R s (comp D R s) := by
  refine ⟨up.filter _, fun v => ?_⟩
  unfold comp
  rw [List.mem_filter, decide_eq_true_eq]
  exact ⟨fun h => h.2, fun h => ⟨h.mem.elim (fun e => e ▸ hs) id, h⟩⟩
/-- a component of fewer rooms is one of more rooms, where nothing leads out -/
theorem IsC.stays {D : List (Int × Int)} {R R' : List Int} {s : Int} {L : List Int} (ic : IsC D R s L) (sub : ∀ x ∈ R, x ∈ R') (cl : ∀ v ∈ L, ∀ o ∈ R', adj D v o → o ∈ L) : IsC D R' s L := by
  refine ⟨ic.up, fun v => ⟨fun m => ((ic.mem v).mp m).wider sub, fun w => ?_⟩⟩
  induction w with
  | base => exact ic.has
  | step _ ad mo ih => exact cl _ ih _ mo ad
section
variable {n : Int} {D : List (Int × Int)} {P G : List (Str × Int)} {C : List Int}
/-- nobody in C wants r -/
def Unw (P G : List (Str × Int)) (C : List Int) (r : Int) : Prop := r ∈ C ∧ ∀ nm c t, (nm, c) ∈ P → c ∈ C → (nm, t) ∈ G → r ≠ t
/-- somebody in C passes r -/
def Psd (D : List (Int × Int)) (P G : List (Str × Int)) (C : List Int) (r : Int) : Prop := ∃ nm c t, (nm, c) ∈ P ∧ c ∈ C ∧ (nm, t) ∈ G ∧ pas D c t r
/-- a room that the person of r does not go to -/
def Bck (D : List (Int × Int)) (P G : List (Str × Int)) (C : List Int) (r v : Int) : Prop := v ∈ C ∧ adj D r v ∧ ¬ Ahd D P G r v
/-- C without some rooms -/
def wo (C Xs : List Int) : List Int := C.filter fun x => !decide (x ∈ Xs)
theorem mem_wo {C Xs : List Int} {x : Int} : x ∈ wo C Xs ↔ x ∈ C ∧ x ∉ Xs := by
  unfold wo
  rw [List.mem_filter, Bool.not_eq_true', decide_eq_false_iff_not]
theorem wo_up {C Xs : List Int} (h : C.Pairwise (· < ·)) : (wo C Xs).Pairwise (· < ·) := h.filter _
/-- the two conditions of a certificate -/
structure Cnd (D : List (Int × Int)) (P G : List (Str × Int)) (C : List Int) (B : List (Int × Int)) : Prop where
  no2 : ∀ r v, (r, v) ∈ B → (v, r) ∉ B
  out : ∀ s ∈ wo C (B.map (·.1)), ∀ I, IsC D (wo C (B.map (·.1))) s I → Stl P G I → ∃ b v o, (b, v) ∈ B ∧ v ∉ I ∧ o ∈ I ∧ adj D b o
/-- what the back rows of a certificate are -/
structure Crt (D : List (Int × Int)) (P G : List (Str × Int)) (C : List Int) (B : List (Int × Int)) : Prop where
  nd : (B.map (·.1)).Nodup
  ok : ∀ r v, (r, v) ∈ B → Unw P G C r ∧ Bck D P G C r v
  all : ∀ r, Unw P G C r → r ∉ B.map (·.1) → Psd D P G C r
  cnd : Cnd D P G C B
theorem fre_iff {r : Int} : r ∈ fre D P G C ↔ Unw P G C r ∧ ¬ Psd D P G C r := by
  constructor
  · intro h
    obtain ⟨h1, h2⟩ := fre_mem h
    exact ⟨⟨h1, fun nm c t a b c' => (h2 nm c t a b c').1⟩, fun ⟨nm, c, t, a, b, c', p⟩ => (h2 nm c t a b c').2 p⟩
  · rintro ⟨⟨h1, h2⟩, h3⟩
    exact mem_fre h1 fun nm c t a b c' => ⟨h2 nm c t a b c', fun p => h3 ⟨nm, c, t, a, b, c', p⟩⟩
theorem fst_one {B : List (Int × Int)} (nd : (B.map (·.1)).Nodup) {r v v' : Int} (h : (r, v) ∈ B) (k : (r, v') ∈ B) : v = v' := by
  induction B with
  | nil => cases h
  | cons x B ih =>
    rw [List.map_cons, List.nodup_cons] at nd
    rcases List.mem_cons.mp h with e | h' <;> rcases List.mem_cons.mp k with e' | k'
    · rw [← e] at e'
      exact (congrArg Prod.snd e').symm
    · exact absurd (by rw [← e]; exact List.mem_map_of_mem (f := (·.1)) k') nd.1
    · exact absurd (by rw [← e']; exact List.mem_map_of_mem (f := (·.1)) h') nd.1
    · exact ih nd.2 h' k'
theorem Sol.nil : Sol D P G [] := .still fun nm c t _ h => nomatch h
/-- no certificate where it is solvable -/
theorem crt_not (f : Forest n D) (ndG : (G.map (·.1)).Nodup) (sub : ∀ x ∈ P.map (·.1), x ∈ G.map (·.1)) (so : Sol D P G C) : ∀ {B : List (Int × Int)}, Pce D P G C → C ≠ [] → ¬ Crt D P G C B := by
  induction so with
  | @still C st =>
    intro B pc ne cr
    have nB : B = [] := by
      cases B with
      | nil => rfl
      | cons x B =>
        obtain ⟨⟨h1, h2⟩, _⟩ := cr.ok x.1 x.2 (List.mem_cons_self ..)
        obtain ⟨nm, m, _⟩ := pc.who _ h1
        obtain ⟨t, mt⟩ := key_val (sub nm (List.mem_map_of_mem (f := (·.1)) m))
        exact absurd (st nm _ t m h1 mt).symm (h2 nm _ t m h1 mt)
    subst nB
    obtain ⟨s, hs⟩ := List.exists_mem_of_ne_nil C ne
    have hw : s ∈ wo C (([] : List (Int × Int)).map (·.1)) := mem_wo.mpr ⟨hs, List.not_mem_nil⟩
    obtain ⟨b, v, o, h, _⟩ := cr.cnd.out s hw _ (comp_is (wo_up pc.up) hw) fun nm c t h1 h2 h3 => st nm c t h1 (mem_wo.mp ((comp_is (wo_up pc.up) hw).sub' hw h2)).1 h3
    cases h
  | @leave C r fr _ ih =>
    intro B pc ne cr
    obtain ⟨un, np⟩ := fre_iff.mp fr
    have rC := un.1
    have mB : r ∈ B.map (·.1) := Classical.byContradiction fun no => np (cr.all r un no)
    obtain ⟨⟨r', w⟩, hB, e⟩ := List.mem_map.mp mB
    obtain rfl : r' = r := e
    obtain ⟨_, wC, aw, nw⟩ := cr.ok r' w hB
    have wcut : w ∈ cut C r' := mem_cut.mpr ⟨wC, (f.adj_ne aw).symm⟩
    have rno : r' ∉ cut C r' := fun m => (mem_cut.mp m).2 rfl
    have ic := comp_is (D := D) (cut_up (r := r') pc.up) wcut
    generalize comp D (cut C r') w = L at ic
    have pcL := pc.cut fr wcut ic
    have subL : ∀ v ∈ L, v ∈ cut C r' := fun v m => ic.sub' wcut m
    have one : ∀ v ∈ L, adj D r' v → v = w := fun v m a => (nb_apart f aw a rno ((ic.mem v).mp m)).symm
    obtain ⟨nm0, t0, a, q, m1, m2, sp, aC⟩ := pc.ahead sub fr
    have ahd : Ahd D P G r' a := ⟨nm0, t0, q, m1, m2, sp⟩
    obtain ⟨nmr, mr, unr⟩ := pc.who r' rC
    -- the rooms of the way of the person of r
    have tail : ∀ x ∈ a :: q, Wk D (cut C r') a x := by
      intro x hx
      obtain ⟨p, hp, ins⟩ := (pc.con r' rC t0 (pc.tgt nm0 r' t0 m1 rC m2)).within
      have := f.uniq _ _ _ _ hp sp
      subst this
      cases sp with
      | @cons _ c _ _ ad sp' nin =>
        obtain ⟨q', hq'⟩ := sp'.hd
        injection hq' with hq1 hq2
        subst hq1
        obtain ⟨p2, hp2, sub2⟩ := sp'.upto hx
        refine hp2.walks fun z hz => ?_
        have hz' := sub2 z (List.mem_of_mem_tail hz)
        exact mem_cut.mpr ⟨(ins z (List.mem_cons_of_mem _ hz')).elim (fun e => e ▸ rC) id, fun e => nin (e ▸ hz')⟩
    have arr : adj D r' a := by
      cases sp with
      | @cons _ c _ _ ad sp' nin =>
        obtain ⟨q', hq'⟩ := sp'.hd
        injection hq' with hq1 hq2
        exact hq1 ▸ ad
    have aL : a ∉ L := fun m => nw (by rw [← one a m arr]; exact ahd)
    have off : ∀ x ∈ a :: q, x ∉ L := fun x hx m => by
      have acut : a ∈ cut C r' := mem_cut.mpr ⟨aC, (f.adj_ne arr).symm⟩
      exact aL ((ic.mem a).mpr (((ic.mem x).mp m).trans ((tail x hx).symm acut)))
    -- who wants or passes a room of L is in L
    have inL : ∀ nm c t u, (nm, c) ∈ P → c ∈ C → (nm, t) ∈ G → u ∈ L → (u = t ∨ pas D c t u) → c ∈ L := by
      intro nm c t u h1 h2 h3 hu h4
      by_cases ec : c = r'
      · subst ec
        obtain rfl : nm = nm0 := (unr nm h1).trans (unr nm0 m1).symm
        obtain rfl : t = t0 := congrArg Prod.snd (key_uniq ndG h3 m2 rfl)
        have ur : u ≠ c := (mem_cut.mp (subL u hu)).2
        rcases h4 with rfl | ⟨p, hp, mu, _, _⟩
        · have := sp.last
          rcases List.mem_cons.mp this with e | m
          · exact absurd e ur
          · exact absurd hu (off _ m)
        · have := f.uniq _ _ _ _ hp sp
          subst this
          rcases List.mem_cons.mp mu with e | m
          · exact absurd e ur
          · exact absurd hu (off _ m)
      · have hc : c ∈ cut C r' := mem_cut.mpr ⟨h2, ec⟩
        have ic' := comp_is (D := D) (cut_up (r := r') pc.up) hc
        have pc' := pc.cut fr hc ic'
        have cc := ic'.has
        have ct := pc'.con c cc t (pc'.tgt nm c t h1 cc h3)
        have uc : Wk D (cut C r') c u := by
          rcases h4 with rfl | ⟨p, hp, mu, _, _⟩
          · exact ct.wider fun x hx => ic'.sub' hc hx
          · obtain ⟨p', hp', ins⟩ := ct.within
            have := f.uniq _ _ _ _ hp hp'
            subst this
            exact (ic'.mem u).mp ((ins u mu).elim (fun e => e ▸ cc) id)
        exact (ic.mem c).mpr (((ic.mem u).mp hu).trans (uc.symm hc))
    refine ih w wcut L ic (fun b hb => ?_) (B := B.filter fun x => decide (x.1 ∈ L)) pcL (fun e => by rw [e] at ic; exact nomatch ic.has) ⟨?_, fun u v h => ?_, fun u hu no => ?_, ⟨fun u v h1 h2 => ?_, fun s hs I hI st => ?_⟩⟩
    · rw [pc.ahd_one f ndG rC hb ahd]
      exact aL
    · exact cr.nd.sublist ((List.filter_sublist ..).map _)
    · obtain ⟨hB', hu⟩ := List.mem_filter.mp h
      have hu : u ∈ L := of_decide_eq_true hu
      obtain ⟨⟨uC, uw⟩, vC, uv, nv⟩ := cr.ok u v hB'
      have ur := (mem_cut.mp (subL u hu)).2
      have vr : v ≠ r' := fun e => by
        subst e
        obtain rfl := one u hu (adj_symm uv)
        exact cr.cnd.no2 _ _ hB hB'
      refine ⟨⟨hu, fun nm c t h1 h2 h3 => uw nm c t h1 (mem_cut.mp (subL c h2)).1 h3⟩, ?_, uv, nv⟩
      exact (ic.mem v).mpr (.step ((ic.mem u).mp hu) uv (mem_cut.mpr ⟨vC, vr⟩))
    · obtain ⟨uL, uw⟩ := hu
      have uC := (mem_cut.mp (subL u uL)).1
      have uB : u ∉ B.map (·.1) := fun m => no (by
        obtain ⟨x, hx, e⟩ := List.mem_map.mp m
        exact List.mem_map.mpr ⟨x, List.mem_filter.mpr ⟨hx, decide_eq_true (by rw [e]; exact uL)⟩, e⟩)
      obtain ⟨nm, c, t, h1, h2, h3, h4⟩ := cr.all u ⟨uC, fun nm c t h1 h2 h3 e => uw nm c t h1 (inL nm c t u h1 h2 h3 uL (.inl e)) h3 e⟩ uB
      exact ⟨nm, c, t, h1, inL nm c t u h1 h2 h3 uL (.inr h4), h3, h4⟩
    · exact cr.cnd.no2 u v (List.mem_filter.mp h1).1 (List.mem_filter.mp h2).1
    · have sub1 : ∀ x ∈ wo L ((B.filter fun x => decide (x.1 ∈ L)).map (·.1)), x ∈ wo C (B.map (·.1)) := fun x hx => by
        obtain ⟨x1, x2⟩ := mem_wo.mp hx
        refine mem_wo.mpr ⟨(mem_cut.mp (subL x x1)).1, fun m => x2 ?_⟩
        obtain ⟨y, hy, e⟩ := List.mem_map.mp m
        exact List.mem_map.mpr ⟨y, List.mem_filter.mpr ⟨hy, decide_eq_true (by rw [e]; exact x1)⟩, e⟩
      have subI : ∀ v ∈ I, v ∈ L := fun v m => (mem_wo.mp (hI.sub' hs m)).1
      have hI' : IsC D (wo C (B.map (·.1))) s I := hI.stays sub1 fun v mv o mo ad => by
        obtain ⟨o1, o2⟩ := mem_wo.mp mo
        have or' : o ≠ r' := fun e => o2 (by rw [e]; exact mB)
        have oL : o ∈ L := (ic.mem o).mpr (.step ((ic.mem v).mp (subI v mv)) ad (mem_cut.mpr ⟨o1, or'⟩))
        refine (hI.mem o).mpr (.step ((hI.mem v).mp mv) ad (mem_wo.mpr ⟨oL, fun m => o2 ?_⟩))
        obtain ⟨y, hy, e⟩ := List.mem_map.mp m
        exact List.mem_map.mpr ⟨y, (List.mem_filter.mp hy).1, e⟩
      obtain ⟨b, v, o, h1, h2, h3, h4⟩ := cr.cnd.out s (sub1 s hs) I hI' st
      have br : b ≠ r' := fun e => by
        subst e
        have ow := one o (subI o h3) h4
        have vw : v = w := fst_one cr.nd h1 hB
        exact h2 (by rw [vw, ← ow]; exact h3)
      have bC := (cr.ok b v h1).1.1
      have bL : b ∈ L := (ic.mem b).mpr (.step ((ic.mem o).mp (subI o h3)) (adj_symm h4) (mem_cut.mpr ⟨bC, br⟩))
      exact ⟨b, v, o, List.mem_filter.mpr ⟨h1, decide_eq_true bL⟩, h2, h3, h4⟩
end
end Fw
set_option maxHeartbeats 4000000
namespace Fw
open PySem PySem.Spec PyProof.Rows L2
/-! a piece that is not solvable has a certificate (math) -/
section
variable {n : Int} {D : List (Int × Int)} {P G : List (Str × Int)} {C : List Int}
/-- a way back that leads to a part that is not solvable -/
structure Opt (D : List (Int × Int)) (P G : List (Str × Int)) (C : List Int) (r v : Int) : Prop where
  bck : Bck D P G C r v
  bad : ¬ Sol D P G (comp D (cut C r) v)
/-- the room by which a component hangs on r -/
theorem hangs (f : Forest n D) (con : ∀ a ∈ C, ∀ b ∈ C, Wk D C a b) {r s : Int} (rC : r ∈ C) (hs : s ∈ cut C r) : ∃ v ∈ cut C r, adj D r v ∧ Wk D (cut C r) v s := by
  obtain ⟨sC, sr⟩ := mem_cut.mp hs
  obtain ⟨p, hp, ins⟩ := (con r rC s sC).within
  cases hp with
  | one => exact absurd rfl sr
  | @cons _ v _ q ad hq nin =>
    have off : ∀ x ∈ q, x ∈ cut C r := fun x hx => mem_cut.mpr ⟨(ins x (List.mem_cons_of_mem _ hx)).elim (fun e => e ▸ rC) id, fun e => nin (e ▸ hx)⟩
    exact ⟨v, off v hq.head, ad, hq.walks fun x hx => off x (List.mem_of_mem_tail hx)⟩
/-- a free room of a part that is not solvable has a part behind it that is not -/
theorem not_lve {K : List Int} {r : Int} (no : ¬ Sol D P G K) (fr : r ∈ fre D P G K) : ∃ s ∈ cut K r, ∃ L, IsC D (cut K r) s L ∧ (∀ a, Ahd D P G r a → a ∉ L) ∧ ¬ Sol D P G L := by
  refine Classical.byContradiction fun h => no (.leave fr fun s hs L ic nx => Classical.byContradiction fun ns => h ⟨s, hs, L, ic, nx, ns⟩)
theorem fre_sub {K : List Int} {r : Int} (fr : r ∈ fre D P G C) (sub : ∀ x ∈ K, x ∈ C) (m : r ∈ K) : r ∈ fre D P G K := by
  obtain ⟨_, h⟩ := fre_mem fr
  exact mem_fre m fun nm c t a b c' => h nm c t a (sub c b) c'
/-- a part behind r, which is not solvable and not where its person goes, is a way back -/
theorem opt_of (f : Forest n D) (pc : Pce D P G C) {r s : Int} {L : List Int} (rC : r ∈ C) (hs : s ∈ cut C r) (ic : IsC D (cut C r) s L) (nx : ∀ a, Ahd D P G r a → a ∉ L) (ns : ¬ Sol D P G L) : ∃ v ∈ L, adj D r v ∧ Opt D P G C r v ∧ comp D (cut C r) v = L := by
  obtain ⟨v, vc, ad, w⟩ := hangs f pc.con rC hs
  have vL : v ∈ L := (ic.mem v).mpr (w.symm vc)
  have e : comp D (cut C r) v = L := (comp_is (cut_up pc.up) vc).one ⟨ic.up, fun x => (ic.mem x).trans ⟨fun h => w.trans h, fun h => (w.symm vc).trans h⟩⟩
  exact ⟨v, vL, ad, ⟨⟨(mem_cut.mp vc).1, ad, fun h => nx v h vL⟩, by rw [e]; exact ns⟩, e⟩
theorem opt_some (f : Forest n D) (pc : Pce D P G C) (no : ¬ Sol D P G C) {r : Int} (fr : r ∈ fre D P G C) : ∃ v, Opt D P G C r v := by
  obtain ⟨s, hs, L, ic, nx, ns⟩ := not_lve no fr
  obtain ⟨v, _, _, o, _⟩ := opt_of f pc (fre_mem fr).1 hs ic nx ns
  exact ⟨v, o⟩
/-- the least of them -/
theorem opt_least {α : Type} {p : α → Prop} (m : α → Nat) (h : ∃ x, p x) : ∃ x, p x ∧ ∀ y, p y → m x ≤ m y := by
  obtain ⟨x, hx⟩ := h
  generalize hk : m x = k
  induction k using Nat.strongRecOn generalizing x with
  | ind k ih =>
    by_cases z : ∃ y, p y ∧ m y < k
    · obtain ⟨y, hy, lt⟩ := z
      exact ih (m y) lt y hy rfl
    · exact ⟨x, hx, fun y hy => Nat.le_of_not_lt fun lt => z ⟨y, hy, by omega⟩⟩
/-- .. chosen for each room -/
theorem choice_list {p : Int → Int → Prop} : ∀ {rs : List Int}, (∀ r ∈ rs, ∃ v, p r v) → ∃ B : List (Int × Int), B.map (·.1) = rs ∧ ∀ x ∈ B, p x.1 x.2
  | [], _ => ⟨[], rfl, fun x hx => nomatch hx⟩
  | r :: rs, h => by
    obtain ⟨v, hv⟩ := h r (List.mem_cons_self ..)
    obtain ⟨B, e, hB⟩ := choice_list fun r' hr => h r' (List.mem_cons_of_mem _ hr)
    refine ⟨(r, v) :: B, by rw [List.map_cons, e], fun x hx => ?_⟩
    rcases List.mem_cons.mp hx with rfl | hx
    · exact hv
    · exact hB x hx
/-- what is chosen: the least part -/
structure Lst (D : List (Int × Int)) (P G : List (Str × Int)) (C : List Int) (r v : Int) : Prop where
  opt : Opt D P G C r v
  le : ∀ v', Opt D P G C r v' → (comp D (cut C r) v).length ≤ (comp D (cut C r) v').length
/-- two that name each other: one part would be less than the other, both ways -/
theorem lst_lt (f : Forest n D) (pc : Pce D P G C) {r s : Int} (fr : r ∈ fre D P G C) (fs : s ∈ fre D P G C) (a : Lst D P G C r s) (b : Lst D P G C s r) : (comp D (cut C s) r).length < (comp D (cut C r) s).length := by
  obtain ⟨sC, ars, _⟩ := a.opt.bck
  have rC := (fre_mem fr).1
  have scut : s ∈ cut C r := mem_cut.mpr ⟨sC, (f.adj_ne ars).symm⟩
  have ic := comp_is (D := D) (cut_up (r := r) pc.up) scut
  have bad := a.opt.bad
  generalize hK : comp D (cut C r) s = K at *
  have pcK := pc.cut fr scut ic
  have sK := ic.has
  have subK : ∀ v ∈ K, v ∈ cut C r := fun v m => ic.sub' scut m
  have one : ∀ v ∈ K, adj D r v → v = s := fun v m ad => (nb_apart f ars ad (fun m => (mem_cut.mp m).2 rfl) ((ic.mem v).mp m)).symm
  have fsK := fre_sub fs (fun x hx => (mem_cut.mp (subK x hx)).1) sK
  obtain ⟨u, hu, L, icL, nx, ns⟩ := not_lve bad fsK
  have icL' : IsC D (cut C s) u L := icL.stays (fun x hx => mem_cut.mpr ⟨(mem_cut.mp (subK x (mem_cut.mp hx).1)).1, (mem_cut.mp hx).2⟩) fun v mv o mo ad => by
    obtain ⟨oC, os⟩ := mem_cut.mp mo
    obtain ⟨vK, vs⟩ := mem_cut.mp (icL.sub' hu mv)
    have or' : o ≠ r := fun e => vs (one v vK (by rw [← e]; exact adj_symm ad))
    have oK : o ∈ K := (ic.mem o).mpr (.step ((ic.mem v).mp vK) ad (mem_cut.mpr ⟨oC, or'⟩))
    exact (icL.mem o).mpr (.step ((icL.mem v).mp mv) ad (mem_cut.mpr ⟨oK, os⟩))
  have hu' : u ∈ cut C s := mem_cut.mpr ⟨(mem_cut.mp (subK u (mem_cut.mp hu).1)).1, (mem_cut.mp hu).2⟩
  obtain ⟨v, _, _, o, e⟩ := opt_of f pc sC hu' icL' nx ns
  have h1 := b.le v o
  rw [e] at h1
  have h2 := up_len icL.up fun x hx => icL.sub' hu hx
  have h3 := cut_len sK
  omega
/-- no certificate is missing -/
theorem crt_some (f : Forest n D) (ndG : (G.map (·.1)).Nodup) (pc : Pce D P G C) (no : ¬ Sol D P G C) : ∃ B, B.map (·.1) = fre D P G C ∧ Crt D P G C B := by
  obtain ⟨B, e, hB⟩ := choice_list (p := Lst D P G C) (rs := fre D P G C) fun r fr => by
    obtain ⟨v, h1, h2⟩ := opt_least (fun v => (comp D (cut C r) v).length) (opt_some f pc no fr)
    exact ⟨v, h1, h2⟩
  have upF : (fre D P G C).Pairwise (· < ·) := pc.up.filter _
  have mB : ∀ {r v : Int}, (r, v) ∈ B → r ∈ fre D P G C := fun {r v} h => by rw [← e]; exact List.mem_map_of_mem (f := (·.1)) h
  refine ⟨B, e, ⟨by rw [e]; exact up_nodup upF, fun r v h => ?_, fun r u no' => ?_, ⟨fun r v h k => ?_, fun s hs I ic st => ?_⟩⟩⟩
  · exact ⟨(fre_iff.mp (mB h)).1, (hB _ h).opt.bck⟩
  · rw [e] at no'
    exact Classical.byContradiction fun np => no' (fre_iff.mpr ⟨u, np⟩)
  · have h1 := lst_lt f pc (mB h) (mB k) (hB _ h) (hB _ k)
    have h2 := lst_lt f pc (mB k) (mB h) (hB _ k) (hB _ h)
    omega
  · refine Classical.byContradiction fun con => ?_
    rw [e] at hs ic
    obtain ⟨sC, sf⟩ := mem_wo.mp hs
    have subI : ∀ v ∈ I, v ∈ C ∧ v ∉ fre D P G C := fun v m => mem_wo.mp (ic.sub' hs m)
    -- the back rooms beside I lead into I
    have into : ∀ b v o, (b, v) ∈ B → o ∈ I → adj D b o → v ∈ I := fun b v o h1 h2 h3 => Classical.byContradiction fun nv => con ⟨b, v, o, h1, nv, h2, h3⟩
    -- I leads out only by free rooms
    have leads : ∀ v ∈ I, ∀ o ∈ C, adj D v o → o ∉ fre D P G C → o ∈ I := fun v mv o oC ad nf => (ic.mem o).mpr (.step ((ic.mem v).mp mv) ad (mem_wo.mpr ⟨oC, nf⟩))
    have solI : Sol D P G I := .still st
    have beside : ∃ x : Int × Int, x ∈ B ∧ ∃ o ∈ I, adj D x.1 o := by
      refine Classical.byContradiction fun nb => no ?_
      have : C = I := by
        refine up_ext pc.up ic.up fun v => ⟨fun m => ?_, fun m => (subI v m).1⟩
        have w := pc.con s sC v m
        induction w with
        | base => exact ic.has
        | @step v' o k ad mo ih =>
          have mv' : v' ∈ I := ih (k.mem.elim (fun e => e ▸ sC) id)
          refine leads v' mv' o mo ad fun fo => nb ?_
          rw [← e] at fo
          obtain ⟨x, hx, ex⟩ := List.mem_map.mp fo
          exact ⟨x, hx, v', mv', by rw [ex]; exact adj_symm ad⟩
      rw [this]
      exact solI
    obtain ⟨⟨b, vb⟩, ⟨hb, o0, o0I, ab⟩, least⟩ := opt_least (p := fun x : Int × Int => x ∈ B ∧ ∃ o ∈ I, adj D x.1 o) (fun x => (comp D (cut C x.1) x.2).length) beside
    have vbI := into b vb o0 hb o0I ab
    have fb := mB hb
    have bC := (fre_mem fb).1
    have bI : b ∉ I := fun m => (subI b m).2 fb
    -- I lies in one part of C without a free room
    have inI : ∀ b' ∈ fre D P G C, ∀ x ∈ I, ∀ y ∈ I, Wk D (cut C b') x y := fun b' fb' x hx y hy => by
      have : Wk D (wo C (fre D P G C)) x y := (((ic.mem x).mp hx).symm hs).trans ((ic.mem y).mp hy)
      exact this.wider fun z hz => mem_cut.mpr ⟨(mem_wo.mp hz).1, fun e => (mem_wo.mp hz).2 (e ▸ fb')⟩
    have sI : s ∈ I := ic.has
    have vbcut : vb ∈ cut C b := mem_cut.mpr ⟨(subI vb vbI).1, fun e => bI (e ▸ vbI)⟩
    have scutb : s ∈ cut C b := mem_cut.mpr ⟨sC, fun e => bI (e ▸ sI)⟩
    have icb := comp_is (D := D) (cut_up (r := b) pc.up) vbcut
    have badb := (hB _ hb).opt.bad
    -- take the rooms beside I away, one by one
    have key : ∀ S : List Int, (∀ x ∈ S, x ∈ fre D P G C ∧ ∃ o ∈ I, adj D x o) → ∃ K, Pce D P G K ∧ IsC D (wo C (b :: S)) s K ∧ ¬ Sol D P G K ∧ K.length ≤ (comp D (cut C b) vb).length := by
      intro S
      induction S with
      | nil =>
        intro _
        have eq : wo C [b] = cut C b := by
          unfold wo cut
          refine List.filter_congr fun x _ => ?_
          congr 1
          rw [Bool.eq_iff_iff, decide_eq_true_eq, decide_eq_true_eq, List.mem_singleton]
        refine ⟨_, pc.cut fb vbcut icb, ?_, badb, Nat.le_refl _⟩
        rw [eq]
        have w := inI b fb vb vbI s sI
        exact ⟨icb.up, fun x => (icb.mem x).trans ⟨fun h => (w.symm vbcut).trans h, fun h => w.trans h⟩⟩
      | cons b' S ih =>
        intro hS
        obtain ⟨K, pcK, icK, badK, lK⟩ := ih fun x hx => hS x (List.mem_cons_of_mem _ hx)
        obtain ⟨fb', i', i'I, ai'⟩ := hS b' (List.mem_cons_self ..)
        by_cases old : b' ∈ b :: S
        · have eq : wo C (b :: b' :: S) = wo C (b :: S) := by
            unfold wo
            refine List.filter_congr fun x _ => ?_
            congr 1
            rw [Bool.eq_iff_iff, decide_eq_true_eq, decide_eq_true_eq]
            simp only [List.mem_cons]
            constructor
            · rintro (h | rfl | h)
              · exact .inl h
              · exact List.mem_cons.mp old
              · exact .inr h
            · rintro (h | h)
              · exact .inl h
              · exact .inr (.inr h)
          exact ⟨K, pcK, by rw [eq]; exact icK, badK, lK⟩
        have b'C := (fre_mem fb').1
        have swo : s ∈ wo C (b :: S) := mem_wo.mpr ⟨sC, fun m => by
          rcases List.mem_cons.mp m with rfl | m
          · exact bI sI
          · exact (subI s sI).2 (hS s (List.mem_cons_of_mem _ m)).1⟩
        have subK : ∀ x ∈ K, x ∈ wo C (b :: S) := fun x m => icK.sub' swo m
        have subKC : ∀ x ∈ K, x ∈ C := fun x m => (mem_wo.mp (subK x m)).1
        have allF : ∀ x ∈ b :: S, x ∈ fre D P G C ∧ ∃ o ∈ I, adj D x o := fun x m => by
          rcases List.mem_cons.mp m with rfl | m
          · exact ⟨fb, o0, o0I, ab⟩
          · exact hS x (List.mem_cons_of_mem _ m)
        have IK : ∀ x ∈ I, x ∈ K := fun x m => (icK.mem x).mpr (((ic.mem x).mp m).wider fun z hz => mem_wo.mpr ⟨(mem_wo.mp hz).1, fun m' => (mem_wo.mp hz).2 (allF z m').1⟩)
        have b'K : b' ∈ K := (icK.mem b').mpr (.step ((icK.mem i').mp (IK i' i'I)) (adj_symm ai') (mem_wo.mpr ⟨b'C, old⟩))
        have fb'K := fre_sub fb' subKC b'K
        obtain ⟨u, hu, L, icL, nx, ns⟩ := not_lve badK fb'K
        have pcL := pcK.cut fb'K hu icL
        have ll := up_len icL.up fun x hx => icL.sub' hu hx
        have lc := cut_len b'K
        by_cases sL : s ∈ L
        · refine ⟨L, pcL, ?_, ns, by omega⟩
          have one : IsC D (cut K b') s L := ⟨icL.up, fun x => (icL.mem x).trans ⟨fun h => (((icL.mem s).mp sL).symm hu).trans h, fun h => ((icL.mem s).mp sL).trans h⟩⟩
          refine one.stays (fun x hx => ?_) fun v mv o mo ad => ?_
          · obtain ⟨x1, x2⟩ := mem_cut.mp hx
            obtain ⟨x3, x4⟩ := mem_wo.mp (subK x x1)
            refine mem_wo.mpr ⟨x3, fun m => ?_⟩
            rcases List.mem_cons.mp m with rfl | m
            · exact x4 (List.mem_cons_self ..)
            · rcases List.mem_cons.mp m with rfl | m
              · exact x2 rfl
              · exact x4 (List.mem_cons_of_mem _ m)
          · obtain ⟨oC, on⟩ := mem_wo.mp mo
            have vK := (mem_cut.mp (icL.sub' hu mv)).1
            have oK : o ∈ K := (icK.mem o).mpr (.step ((icK.mem v).mp vK) ad (mem_wo.mpr ⟨oC, fun m => on (by
              rcases List.mem_cons.mp m with rfl | m
              · exact List.mem_cons_self ..
              · exact List.mem_cons_of_mem _ (List.mem_cons_of_mem _ m))⟩))
            exact (one.mem o).mpr (.step ((one.mem v).mp mv) ad (mem_cut.mpr ⟨oK, fun e => on (by rw [e]; exact List.mem_cons_of_mem _ (List.mem_cons_self ..))⟩))
        · -- a part away from I
          exfalso
          have uK := (mem_cut.mp hu).1
          obtain ⟨w2, w2c, aw2, wk2⟩ := hangs f pcK.con b'K hu
          have w2L : w2 ∈ L := (icL.mem w2).mpr (wk2.symm w2c)
          have apart : ∀ x ∈ I, x ∉ L := fun x mx m => sL (by
            have : Wk D (cut K b') x s := by
              have w : Wk D (wo C (fre D P G C)) x s := ((ic.mem x).mp mx).symm hs
              have ins : ∀ z, Wk D (wo C (fre D P G C)) x z → Wk D (cut K b') x z := fun z hz => by
                induction hz with
                | base => exact .base
                | @step v o k ad mo ih =>
                  have oI : o ∈ I := (ic.mem o).mpr (((ic.mem x).mp mx).trans (.step k ad mo))
                  exact .step ih ad (mem_cut.mpr ⟨IK o oI, fun e => (mem_wo.mp mo).2 (e ▸ fb')⟩)
              exact ins s w
            exact (icL.mem s).mpr (((icL.mem x).mp m).trans this))
          have icL' : IsC D (cut C b') u L := icL.stays (fun x hx => mem_cut.mpr ⟨subKC x (mem_cut.mp hx).1, (mem_cut.mp hx).2⟩) fun v mv o mo ad => by
            obtain ⟨oC, ob'⟩ := mem_cut.mp mo
            have vK := (mem_cut.mp (icL.sub' hu mv)).1
            by_cases om : o ∈ b :: S
            · exfalso
              obtain ⟨fo, i2, i2I, ai2⟩ := allF o om
              -- a way round: w2 .. v o i2 .. i'
              have w3 : Wk D (cut C b') w2 v := ((((icL.mem w2).mp w2L).symm hu).trans ((icL.mem v).mp mv)).wider fun x hx => mem_cut.mpr ⟨subKC x (mem_cut.mp hx).1, (mem_cut.mp hx).2⟩
              have w4 : Wk D (cut C b') w2 i2 := .step (.step w3 ad mo) ai2 (mem_cut.mpr ⟨(subI i2 i2I).1, fun e => (subI i2 i2I).2 (e ▸ fb')⟩)
              have w5 := w4.trans (inI b' fb' i2 i2I i' i'I)
              have := nb_apart f aw2 ai' (fun m => (mem_cut.mp m).2 rfl) w5
              exact apart i' i'I (this ▸ w2L)
            · have oK : o ∈ K := (icK.mem o).mpr (.step ((icK.mem v).mp vK) ad (mem_wo.mpr ⟨oC, om⟩))
              exact (icL.mem o).mpr (.step ((icL.mem v).mp mv) ad (mem_cut.mpr ⟨oK, ob'⟩))
          have hu' : u ∈ cut C b' := mem_cut.mpr ⟨subKC u uK, (mem_cut.mp hu).2⟩
          obtain ⟨v, _, _, o, eL⟩ := opt_of f pc b'C hu' icL' nx ns
          have mb' : b' ∈ B.map (·.1) := by rw [e]; exact fb'
          obtain ⟨⟨b1, v1⟩, hb1, e1⟩ := List.mem_map.mp mb'
          obtain rfl : b1 = b' := e1
          have h1 := (hB _ hb1).le v o
          have h2 := least (b1, v1) ⟨hb1, i', i'I, ai'⟩
          dsimp only at h1 h2
          rw [eL] at h1
          omega
    -- all of them
    obtain ⟨K, _, icK, badK, _⟩ := key ((fre D P G C).filter fun x => @decide (∃ o ∈ I, adj D x o) (Classical.propDecidable _)) fun x hx => by
      obtain ⟨h1, h2⟩ := List.mem_filter.mp hx
      exact ⟨h1, @of_decide_eq_true _ (Classical.propDecidable _) h2⟩
    have : K = I := by
      refine icK.one (ic.stays (fun x hx => ?_) fun v mv o mo ad => ?_)
      · obtain ⟨x1, x2⟩ := mem_wo.mp hx
        refine mem_wo.mpr ⟨x1, fun m => ?_⟩
        rcases List.mem_cons.mp m with rfl | m
        · exact x2 fb
        · exact x2 (List.mem_filter.mp m).1
      · obtain ⟨oC, on⟩ := mem_wo.mp mo
        refine leads v mv o oC ad fun fo => on (List.mem_cons_of_mem _ (List.mem_filter.mpr ⟨fo, ?_⟩))
        exact @decide_eq_true _ (Classical.propDecidable _) ⟨v, mv, adj_symm ad⟩
    exact badK (this ▸ solI)
end
end Fw
set_option maxHeartbeats 4000000
namespace Fw
open PySem PySem.Spec PyProof.Rows L2
/-! the rows of a certificate -/
inductive Row
  | p (r : Int) (nm : Str)
  | b (r v : Int)
def rowV : Row → List V
  | .p r nm => [.int r, .str "passed", .str nm]
  | .b r v => [.int r, .str "back", .int v]
open Classical in
noncomputable def unwL (P G : List (Str × Int)) (C : List Int) : List Int := C.filter fun r => decide (Unw P G C r)
open Classical in
theorem mem_unwL {P G : List (Str × Int)} {C : List Int} {r : Int} : r ∈ unwL P G C ↔ Unw P G C r := by
  unfold unwL
  rw [List.mem_filter, decide_eq_true_eq]
  exact ⟨fun h => h.2, fun h => ⟨h.1, h⟩⟩
theorem unwL_len (P G : List (Str × Int)) (C : List Int) : (unwL P G C).length ≤ C.length := List.length_filter_le _ _
/-- nm of C passes r -/
def Pss (D : List (Int × Int)) (P G : List (Str × Int)) (C : List Int) (r : Int) (nm : Str) : Prop := ∃ c t, (nm, c) ∈ P ∧ c ∈ C ∧ (nm, t) ∈ G ∧ pas D c t r
open Classical in
noncomputable def pssL (D : List (Int × Int)) (P G : List (Str × Int)) (C : List Int) (r : Int) : List Str := (inside P C).filter fun nm => decide (Pss D P G C r nm)
open Classical in
theorem mem_pssL {D : List (Int × Int)} {P G : List (Str × Int)} {C : List Int} {r : Int} {nm : Str} : nm ∈ pssL D P G C r ↔ Pss D P G C r nm := by
  unfold pssL
  rw [List.mem_filter, decide_eq_true_eq]
  exact ⟨fun h => h.2, fun h => ⟨by obtain ⟨c, t, h1, h2, _⟩ := h; exact mem_inside' h1 h2, h⟩⟩
theorem psd_pss {D : List (Int × Int)} {P G : List (Str × Int)} {C : List Int} {r : Int} : Psd D P G C r ↔ ∃ nm, Pss D P G C r nm := by
  constructor
  · rintro ⟨nm, c, t, h1, h2, h3, h4⟩
    exact ⟨nm, c, t, h1, h2, h3, h4⟩
  · rintro ⟨nm, c, t, h1, h2, h3, h4⟩
    exact ⟨nm, c, t, h1, h2, h3, h4⟩
/-- the rows that are tried for a room -/
structure Rts (D : List (Int × Int)) (P G : List (Str × Int)) (C : List Int) (r : Int) (rs : List Row) : Prop where
  len : rs.length ≤ 7
  pas : Psd D P G C r → ∃ nm, rs = [.p r nm] ∧ Pss D P G C r nm
  bck : ¬ Psd D P G C r → ∀ x, x ∈ rs ↔ ∃ v, x = .b r v ∧ Bck D P G C r v
/-- a list of rows -/
def LRows (H : Hp) (l : Addr) (rs : List Row) : Prop := ∃ as : List (Addr × Row), H l = some (.lst (as.map fun x => V.ref x.1)) ∧ rs = as.map (·.2) ∧ ∀ x ∈ as, H x.1 = some (.tup (rowV x.2))
/-- the person of an unwanted room has a way to go -/
theorem Unw.ahead {n : Int} {D : List (Int × Int)} {P G : List (Str × Int)} {C : List Int} {r : Int} (u : Unw P G C r) (pc : Pce D P G C) (sub : ∀ x ∈ P.map (·.1), x ∈ G.map (·.1)) : ∃ nm t a q, (nm, r) ∈ P ∧ (∀ nm', (nm', r) ∈ P → nm' = nm) ∧ (nm, t) ∈ G ∧ SP (adj D) r t (r :: a :: q) ∧ a ∈ C := by
  obtain ⟨rC, uw⟩ := u
  obtain ⟨nm, m, un⟩ := pc.who r rC
  obtain ⟨t, mt⟩ := key_val (sub nm (List.mem_map_of_mem (f := (·.1)) m))
  obtain ⟨p, hp, ins⟩ := (pc.con r rC _ (pc.tgt nm r t m rC mt)).within
  obtain ⟨a, q, rfl, _⟩ := hp.two fun e => uw nm r t m rC mt e.symm
  exact ⟨nm, t, a, q, m, un, mt, hp, (ins a (by simp)).elim (fun e => e ▸ rC) id⟩
section
variable {P : Program} {w : World} {K : PySem.W.Frag} {mg : Str → Option Value} {base : Heap}
end
end Fw
set_option maxHeartbeats 4000000
namespace Fw
open PySem PySem.Spec PyProof.Rows L2
/-! walks, whatever is done with each: from promise to promise -/
theorem trek_tup {K : PySem.W.Frag} {a : Addr} {xs : List V} {G0 : Hp} {Qd : Hp → Prop} {each : (Hp → Prop) → V → Hp → Prop} (Pv : Nat → Hp → Prop) (start : Pv 0 G0) (sees : ∀ i G, i ≤ xs.length → Pv i G → SqT K G a xs)
    (does : ∀ i x G, xs[i]? = some x → Pv i G → each (Pv (i + 1)) x G) (ends : ∀ G, Pv xs.length G → Qd G) :
    ∃ W : Nat → Nat → Hp → Prop, (∃ m, W 0 m G0) ∧ ∀ i m G, W i m G → ((Itt K a).stop i G ∧ Qd G) ∨ ((Itt K a).go i G ∧ ∃ N : Hp → Prop, (∀ G', N G' → ∃ m', m' < m ∧ W (i + 1) m' G') ∧ ∀ x G', (Itt K a).yld i G x G' → each N x G') := by
  refine ⟨fun i m J => m + i = xs.length ∧ Pv i J, ⟨xs.length, rfl, start⟩, ?_⟩
  rintro i m J ⟨e, p⟩
  have sq := sees i J (by omega) p
  cases m with
  | zero =>
    have e : i = xs.length := by omega
    subst e
    exact .inl ⟨⟨xs, sq, Nat.le_refl _⟩, ends J p⟩
  | succ m =>
    have lt : i < xs.length := by omega
    refine .inr ⟨⟨xs, xs[i], sq, List.getElem?_eq_getElem lt⟩, Pv (i + 1), fun J' p' => ⟨m, Nat.lt_succ_self _, by omega, p'⟩, ?_⟩
    rintro x J' ⟨rfl, y⟩
    exact does i x _ (y xs sq) p
theorem trek_lst {K : PySem.W.Frag} {a : Addr} {xs : List V} {G0 : Hp} {Qd : Hp → Prop} {each : (Hp → Prop) → V → Hp → Prop} (Pv : Nat → Hp → Prop) (start : Pv 0 G0) (sees : ∀ i G, i ≤ xs.length → Pv i G → SqL K G a xs)
    (does : ∀ i x G, xs[i]? = some x → Pv i G → each (Pv (i + 1)) x G) (ends : ∀ G, Pv xs.length G → Qd G) :
    ∃ W : Nat → Nat → Hp → Prop, (∃ m, W 0 m G0) ∧ ∀ i m G, W i m G → ((Itl K a).stop i G ∧ Qd G) ∨ ((Itl K a).go i G ∧ ∃ N : Hp → Prop, (∀ G', N G' → ∃ m', m' < m ∧ W (i + 1) m' G') ∧ ∀ x G', (Itl K a).yld i G x G' → each N x G') := by
  refine ⟨fun i m J => m + i = xs.length ∧ Pv i J, ⟨xs.length, rfl, start⟩, ?_⟩
  rintro i m J ⟨e, p⟩
  have sq := sees i J (by omega) p
  cases m with
  | zero =>
    have e : i = xs.length := by omega
    subst e
    exact .inl ⟨⟨xs, sq, Nat.le_refl _⟩, ends J p⟩
  | succ m =>
    have lt : i < xs.length := by omega
    refine .inr ⟨⟨xs, xs[i], sq, List.getElem?_eq_getElem lt⟩, Pv (i + 1), fun J' p' => ⟨m, Nat.lt_succ_self _, by omega, p'⟩, ?_⟩
    rintro x J' ⟨rfl, y⟩
    exact does i x _ (y xs sq) p
/-- a tuple stays while tuples stay -/
theorem sqT_tk {K : PySem.W.Frag} {H H' : Hp} {a : Addr} {xs : List V} (t : Tk H H') (h : SqT K H a xs) : SqT K H' a xs := by
  rcases h with (h | ⟨o, h⟩) | h
  · exact .inl (.inl (t.t h))
  · exact .inl (.inr ⟨o, t.f h⟩)
  · exact .inr h
/-- what was locked is let go again -/
theorem same_unlock {H H' : Hp} {d : Addr} {o : Obj} {u : HO} (e : H d = some u) (s : Same (upd H d (.frz o u)) H') : Same H (upd H' d u) := fun b x h => by
  by_cases z : b = d
  · rw [z] at h ⊢
    rw [upd_same]
    exact e.symm.trans h
  · rw [upd_ne z]
    exact s b x ((upd_ne z).trans h)
end Fw
set_option maxHeartbeats 4000000
namespace Fw
open PySem PySem.Spec PyProof.Rows L2
/-! the conditions of a certificate, as the program asks them -/
/-- back rooms as a dict -/
def dkJ (B : List (Int × Int)) : List (Key × V) := B.map fun x => (Sum.inl x.1, V.int x.2)
theorem dkJ_put {B : List (Int × Int)} {r v : Int} (h : r ∉ B.map (·.1)) : putK (dkJ B) (Sum.inl r) (V.int v) = dkJ (B ++ [(r, v)]) := by
  unfold putK
  rw [if_neg ?_]
  · unfold dkJ
    rw [List.map_append]
    rfl
  · intro a
    obtain ⟨x, hx, e⟩ := List.any_eq_true.mp a
    obtain ⟨y, hy, rfl⟩ := List.mem_map.mp hx
    have : (Sum.inl y.1 : Key) = Sum.inl r := of_decide_eq_true e
    injection this with this
    exact h (this ▸ List.mem_map_of_mem (f := (·.1)) hy)
theorem dkJ_none {B : List (Int × Int)} {r : Int} (h : r ∉ B.map (·.1)) : valV (dkJ B) (Sum.inl r) = none := by
  unfold valV
  rw [Option.map_eq_none_iff, List.find?_eq_none]
  intro x hx e
  obtain ⟨y, hy, rfl⟩ := List.mem_map.mp hx
  have : (Sum.inl y.1 : Key) = Sum.inl r := of_decide_eq_true e
  injection this with this
  exact h (this ▸ List.mem_map_of_mem (f := (·.1)) hy)
theorem dkJ_some : ∀ {B : List (Int × Int)}, (B.map (·.1)).Nodup → ∀ {r v : Int}, (r, v) ∈ B → valV (dkJ B) (Sum.inl r) = some (.int v)
  | [], _, _, _, h => nomatch h
  | x :: B, nd, r, v, h => by
    rw [List.map_cons, List.nodup_cons] at nd
    unfold valV dkJ
    rw [List.map_cons, List.find?_cons]
    by_cases e : x.1 = r
    · have : decide ((Sum.inl x.1 : Key) = Sum.inl r) = true := decide_eq_true (by rw [e])
      rw [this]
      rcases List.mem_cons.mp h with h | h
      · rw [← h]
        rfl
      · exact absurd (e ▸ List.mem_map_of_mem (f := (·.1)) h) nd.1
    · have : decide ((Sum.inl x.1 : Key) = Sum.inl r) = false := decide_eq_false fun z => e (by injection z)
      rw [this]
      rcases List.mem_cons.mp h with h | h
      · exact absurd (by rw [← h]) e
      · exact dkJ_some nd.2 h
theorem dkJ_at {B : List (Int × Int)} {i : Nat} {k : Key} {v : V} (h : (dkJ B)[i]? = some (k, v)) : ∃ x, B[i]? = some x ∧ k = Sum.inl x.1 := by
  unfold dkJ at h
  rw [List.getElem?_map] at h
  cases e : B[i]? with
  | none => rw [e] at h; cases h
  | some x => rw [e] at h; exact ⟨x, rfl, (congrArg Prod.fst (Option.some.inj h)).symm⟩
def Hwb (D : List (Int × Int)) (I : List Int) (B : List (Int × Int)) : Prop := ∃ b v o, (b, v) ∈ B ∧ v ∉ I ∧ o ∈ I ∧ adj D b o
open Classical in
noncomputable def hwbB (D : List (Int × Int)) (I : List Int) (B : List (Int × Int)) : Bool := decide (Hwb D I B)
open Classical in
theorem hwbB_iff {D : List (Int × Int)} {I : List Int} {B : List (Int × Int)} : hwbB D I B = true ↔ Hwb D I B := by unfold hwbB; rw [decide_eq_true_eq]
open Classical in
noncomputable def cndB (D : List (Int × Int)) (P G : List (Str × Int)) (C : List Int) (B : List (Int × Int)) : Bool := decide (Cnd D P G C B)
open Classical in
theorem cndB_iff {D : List (Int × Int)} {P G : List (Str × Int)} {C : List Int} {B : List (Int × Int)} : cndB D P G C B = true ↔ Cnd D P G C B := by unfold cndB; rw [decide_eq_true_eq]
/-- the back rows -/
def bks : List Row → List (Int × Int)
  | [] => []
  | .p _ _ :: rs => bks rs
  | .b r v :: rs => (r, v) :: bks rs
theorem bks_app : ∀ rs ss : List Row, bks (rs ++ ss) = bks rs ++ bks ss
  | [], ss => rfl
  | .p _ _ :: rs, ss => bks_app rs ss
  | .b r v :: rs, ss => by
    show (r, v) :: bks (rs ++ ss) = _
    rw [bks_app rs ss]
    rfl
theorem bks_len : ∀ rs : List Row, (bks rs).length ≤ rs.length
  | [] => Nat.le_refl _
  | .p _ _ :: rs => Nat.le_succ_of_le (bks_len rs)
  | .b r v :: rs => Nat.succ_le_succ (bks_len rs)
/-- a tuple of rows -/
def CtAt (K : PySem.W.Frag) (H : Hp) (a : Addr) (rs : List Row) : Prop := ∃ as : List (Addr × Row), SqT K H a (as.map fun x => V.ref x.1) ∧ rs = as.map (·.2) ∧ ∀ x ∈ as, SqT K H x.1 (rowV x.2)
theorem CtAt.tk {K : PySem.W.Frag} {H H' : Hp} {a : Addr} {rs : List Row} (x : CtAt K H a rs) (t : Tk H H') : CtAt K H' a rs := by
  obtain ⟨as, h1, h2, h3⟩ := x
  exact ⟨as, sqT_tk t h1, h2, fun y hy => sqT_tk t (h3 y hy)⟩
theorem get_row {as : List (Addr × Row)} {i : Nat} {x : V} (h : (as.map fun p => V.ref p.1)[i]? = some x) : ∃ p, as[i]? = some p ∧ x = .ref p.1 := by
  rw [List.getElem?_map] at h
  cases e : as[i]? with
  | none => rw [e] at h; cases h
  | some v => rw [e] at h; exact ⟨v, rfl, (Option.some.inj h).symm⟩
section
variable {P : Program} {w : World} {K : PySem.W.Frag} {mg : Str → Option Value} {base : Heap}
end
end Fw
set_option maxHeartbeats 4000000
namespace Fw
open PySem PySem.Spec PyProof.Rows L2
/-! all rows there are to try, and the first of them that is a certificate -/
def rowR : Row → Int
  | .p r _ => r
  | .b r _ => r
/-- a tuple of rows made by a display -/
def CtA (H : Hp) (a : Addr) (rs : List Row) : Prop := ∃ as : List (Addr × Row), H a = some (.tup (as.map fun x => V.ref x.1)) ∧ rs = as.map (·.2) ∧ ∀ x ∈ as, H x.1 = some (.tup (rowV x.2))
theorem CtA.tk {H H' : Hp} {a : Addr} {rs : List Row} (x : CtA H a rs) (t : Tk H H') : CtA H' a rs := by
  obtain ⟨as, h1, h2, h3⟩ := x
  exact ⟨as, t.t h1, h2, fun y hy => t.t (h3 y hy)⟩
theorem CtA.same {H H' : Hp} {a : Addr} {rs : List Row} (x : CtA H a rs) (s : Same H H') : CtA H' a rs := x.tk (Tk.of s)
theorem CtA.ct {K : PySem.W.Frag} {H : Hp} {a : Addr} {rs : List Row} (x : CtA H a rs) : CtAt K H a rs := by
  obtain ⟨as, h1, h2, h3⟩ := x
  exact ⟨as, SqT.of h1, h2, fun y hy => SqT.of (h3 y hy)⟩
/-- a list of such tuples -/
def ChA (H : Hp) (L : Addr) (cs : List (List Row)) : Prop := ∃ as : List (Addr × List Row), H L = some (.lst (as.map fun x => V.ref x.1)) ∧ cs = as.map (·.2) ∧ ∀ x ∈ as, CtA H x.1 x.2
theorem ChA.same {H H' : Hp} {L : Addr} {cs : List (List Row)} (x : ChA H L cs) (s : Same H H') : ChA H' L cs := by
  obtain ⟨as, h1, h2, h3⟩ := x
  exact ⟨as, s _ _ h1, h2, fun y hy => (h3 y hy).same s⟩
theorem get_ch {as : List (Addr × List Row)} {i : Nat} {x : V} (h : (as.map fun p => V.ref p.1)[i]? = some x) : ∃ p, as[i]? = some p ∧ x = .ref p.1 := by
  rw [List.getElem?_map] at h
  cases e : as[i]? with
  | none => rw [e] at h; cases h
  | some v => rw [e] at h; exact ⟨v, rfl, (Option.some.inj h).symm⟩
section
variable {n : Int} {D : List (Int × Int)} {P G : List (Str × Int)} {C : List Int}
def RowOk (D : List (Int × Int)) (P G : List (Str × Int)) (C : List Int) : Row → Prop
  | .p r nm => Pss D P G C r nm
  | .b r v => Bck D P G C r v
open Classical in
noncomputable def nps (D : List (Int × Int)) (P G : List (Str × Int)) (C : List Int) (us : List Int) : List Int := us.filter fun r => decide (¬ Psd D P G C r)
structure Chs (D : List (Int × Int)) (P G : List (Str × Int)) (C : List Int) (us : List Int) (cs : List (List Row)) : Prop where
  len : cs.length ≤ 7 ^ us.length
  ok : ∀ rs ∈ cs, rs.map rowR = us ∧ ∀ x ∈ rs, RowOk D P G C x
  all : ∀ B : List (Int × Int), B.map (·.1) = nps D P G C us → (∀ x ∈ B, Bck D P G C x.1 x.2) → ∃ rs ∈ cs, bks rs = B
def crs (cs : List (List Row)) (rows : List Row) : List (List Row) := cs.flatMap fun c => rows.map fun x => c ++ [x]
theorem crs_len (rows : List Row) : ∀ cs : List (List Row), (crs cs rows).length = cs.length * rows.length
  | [] => by simp [crs]
  | c :: cs => by
    have ih := crs_len rows cs
    unfold crs at ih ⊢
    rw [List.flatMap_cons, List.length_append, ih, List.length_map, List.length_cons, Nat.succ_mul, Nat.add_comm]
theorem crs_snoc (rows : List Row) (c : List Row) : ∀ cs : List (List Row), crs (cs ++ [c]) rows = crs cs rows ++ rows.map fun x => c ++ [x] := fun cs => by
  unfold crs
  rw [List.flatMap_append, List.flatMap_cons, List.flatMap_nil, List.append_nil]
theorem mem_crs {cs : List (List Row)} {rows rs : List Row} : rs ∈ crs cs rows ↔ ∃ c ∈ cs, ∃ x ∈ rows, rs = c ++ [x] := by
  unfold crs
  rw [List.mem_flatMap]
  constructor
  · rintro ⟨c, hc, h⟩
    obtain ⟨x, hx, e⟩ := List.mem_map.mp h
    exact ⟨c, hc, x, hx, e.symm⟩
  · rintro ⟨c, hc, x, hx, e⟩
    exact ⟨c, hc, List.mem_map.mpr ⟨x, hx, e.symm⟩⟩
theorem nps_app (us ws : List Int) : nps D P G C (us ++ ws) = nps D P G C us ++ nps D P G C ws := List.filter_append ..
open Classical in
theorem nps_yes {r : Int} (p : Psd D P G C r) : nps D P G C [r] = [] := by
  unfold nps
  rw [List.filter_cons, decide_eq_false (fun z => z p)]
  rfl
open Classical in
theorem nps_no {r : Int} (p : ¬ Psd D P G C r) : nps D P G C [r] = [r] := by
  unfold nps
  rw [List.filter_cons, decide_eq_true p]
  rfl
theorem Chs.start : Chs D P G C [] [[]] := ⟨Nat.le_refl _, fun rs h => by
  rw [List.mem_singleton.mp h]
  exact ⟨rfl, fun x hx => nomatch hx⟩, fun B e _ => ⟨[], List.mem_singleton.mpr rfl, by
  have : B = [] := List.map_eq_nil_iff.mp e
  rw [this]
  rfl⟩⟩
theorem Chs.next {us : List Int} {cs : List (List Row)} {r : Int} {rows : List Row} (h : Chs D P G C us cs) (t : Rts D P G C r rows) : Chs D P G C (us ++ [r]) (crs cs rows) := by
  refine ⟨?_, fun rs m => ?_, fun B e ok => ?_⟩
  · rw [crs_len, List.length_append]
    show _ ≤ 7 ^ (us.length + 1)
    rw [Nat.pow_succ]
    exact Nat.mul_le_mul h.len t.len
  · obtain ⟨c, hc, x, hx, rfl⟩ := mem_crs.mp m
    obtain ⟨h1, h2⟩ := h.ok c hc
    have hr : rowR x = r ∧ RowOk D P G C x := by
      by_cases p : Psd D P G C r
      · obtain ⟨nm, e, hp⟩ := t.pas p
        rw [e] at hx
        rw [List.mem_singleton.mp hx]
        exact ⟨rfl, hp⟩
      · obtain ⟨v, rfl, hb⟩ := (t.bck p x).mp hx
        exact ⟨rfl, hb⟩
    refine ⟨by rw [List.map_append, h1, List.map_singleton, hr.1], fun y hy => ?_⟩
    rcases List.mem_append.mp hy with hy | hy
    · exact h2 y hy
    · rw [List.mem_singleton.mp hy]
      exact hr.2
  · rw [nps_app] at e
    by_cases p : Psd D P G C r
    · rw [nps_yes p, List.append_nil] at e
      obtain ⟨rs, m, eb⟩ := h.all B e ok
      obtain ⟨nm, er, hp⟩ := t.pas p
      refine ⟨rs ++ [.p r nm], mem_crs.mpr ⟨rs, m, _, by rw [er]; exact List.mem_singleton.mpr rfl, rfl⟩, ?_⟩
      rw [bks_app, eb]
      exact List.append_nil _
    · rw [nps_no p] at e
      obtain ⟨B0, B1, rfl, e0, e1⟩ := List.map_eq_append_iff.mp e
      obtain ⟨x, rfl, e2⟩ : ∃ x, B1 = [x] ∧ x.1 = r := by
        match B1, e1 with
        | [x], e1 => exact ⟨x, rfl, (List.cons.inj e1).1⟩
      obtain ⟨r', v⟩ := x
      replace e2 : r' = r := e2
      subst e2
      obtain ⟨rs, m, eb⟩ := h.all B0 e0 fun x hx => ok x (List.mem_append_left _ hx)
      refine ⟨rs ++ [.b r' v], mem_crs.mpr ⟨rs, m, _, (t.bck p _).mpr ⟨v, rfl, ok (r', v) (List.mem_append_right _ (List.mem_singleton.mpr rfl))⟩, rfl⟩, ?_⟩
      rw [bks_app, eb]
      rfl
theorem mem_bks {r v : Int} : ∀ {rs : List Row}, (r, v) ∈ bks rs ↔ Row.b r v ∈ rs
  | [] => ⟨fun h => (nomatch h), fun h => (nomatch h)⟩
  | .p a b :: rs => by
    show (r, v) ∈ bks rs ↔ _
    rw [mem_bks, List.mem_cons]
    exact ⟨fun h => .inr h, fun h => h.elim (fun e => (nomatch e)) id⟩
  | .b a b :: rs => by
    show (r, v) ∈ (a, b) :: bks rs ↔ _
    rw [List.mem_cons, List.mem_cons, mem_bks]
    constructor
    · rintro (e | h)
      · injection e with e1 e2
        exact .inl (by rw [e1, e2])
      · exact .inr h
    · rintro (e | h)
      · injection e with e1 e2
        exact .inl (by rw [e1, e2])
      · exact .inr h
theorem bks_sub : ∀ rs : List Row, ((bks rs).map (·.1)).Sublist (rs.map rowR)
  | [] => List.Sublist.refl _
  | .p a b :: rs => (bks_sub rs).cons _
  | .b a b :: rs => (bks_sub rs).cons₂ _
theorem unwL_up (up : C.Pairwise (· < ·)) : (unwL P G C).Pairwise (· < ·) := by
  unfold unwL
  exact up.filter _
theorem Chs.crt {cs : List (List Row)} {rs : List Row} (up : C.Pairwise (· < ·)) (e : rs.map rowR = unwL P G C) (ok : ∀ x ∈ rs, RowOk D P G C x) (c : Cnd D P G C (bks rs)) : Crt D P G C (bks rs) := by
  refine ⟨?_, fun r v m => ?_, fun r u no => ?_, c⟩
  · have := bks_sub rs
    rw [e] at this
    exact this.nodup (up_nodup (unwL_up up))
  · have m' := mem_bks.mp m
    have : r ∈ rs.map rowR := List.mem_map.mpr ⟨_, m', rfl⟩
    rw [e] at this
    exact ⟨mem_unwL.mp this, ok _ m'⟩
  · have := mem_unwL.mpr u
    rw [← e] at this
    obtain ⟨x, hx, er⟩ := List.mem_map.mp this
    cases x with
    | p a nm =>
      replace er : a = r := er
      subst er
      exact psd_pss.mpr ⟨nm, ok _ hx⟩
    | b a v =>
      replace er : a = r := er
      subst er
      exact absurd (List.mem_map.mpr ⟨(a, v), mem_bks.mpr hx, rfl⟩) no
open Classical in
theorem fre_nps : fre D P G C = nps D P G C (unwL P G C) := by
  have hf : ∀ x, x ∈ fre D P G C ↔ x ∈ nps D P G C (unwL P G C) := fun x => by
    rw [fre_iff]
    unfold nps
    rw [List.mem_filter, mem_unwL, decide_eq_true_eq]
  have up1 : (fre D P G C).Sublist C := by
    unfold fre
    exact List.filter_sublist
  have up2 : (nps D P G C (unwL P G C)).Sublist C := by
    unfold nps unwL
    exact List.filter_sublist.trans List.filter_sublist
  unfold fre nps unwL at *
  rw [List.filter_filter]
  refine List.filter_congr fun x hx => ?_
  have := hf x
  rw [List.mem_filter, List.mem_filter, List.mem_filter] at this
  rw [Bool.eq_iff_iff, Bool.and_eq_true]
  exact ⟨fun z => let ⟨⟨_, b⟩, c⟩ := this.mp ⟨hx, z⟩; ⟨c, b⟩, fun ⟨b, c⟩ => (this.mpr ⟨⟨hx, c⟩, b⟩).2⟩
/-- where none of them is a certificate, the piece is solvable -/
theorem Chs.none (f : Forest n D) (ndG : (G.map (·.1)).Nodup) (pc : Pce D P G C) {cs : List (List Row)} (h : Chs D P G C (unwL P G C) cs) (no : ∀ rs ∈ cs, ¬ Cnd D P G C (bks rs)) : Sol D P G C := by
  refine Classical.byContradiction fun ns => ?_
  obtain ⟨B, e, cr⟩ := crt_some f ndG pc ns
  obtain ⟨rs, m, eb⟩ := h.all B (e.trans fre_nps) fun x hx => (cr.ok x.1 x.2 hx).2
  exact no rs m (by rw [eb]; exact cr.cnd)
end
theorem tYes_q {σ : L2.St} {H : Hp} {Q : Bool → Hp → Prop} (h : Q true H) : tYes σ H Q := h
theorem pa_starK {X : Cx} (K : PySem.W.Frag) (h : X.K = K) {e : Expr} {es : List Expr} {p : Pos} {te : TE} {t : TA} (he : PE X e te) (hr : PA X es t) (hs : starEach (.Starred e p :: es) X.env = (true, eval e X.env) :: starEach es X.env := by rfl) : PA X (.Starred e p :: es) (StX.tStar K te t) := by
  subst h
  exact StX.pa_star he hr hs
section
variable {P : Program} {w : World} {K : PySem.W.Frag} {mg : Str → Option Value} {base : Heap}
end
end Fw
set_option maxHeartbeats 4000000
namespace Fw
open PySem PySem.Spec PyProof.Rows L2
/-! tight regions, stuck regions, blocks -/
section
variable {n : Int} {D : List (Int × Int)} {P G : List (Str × Int)}
open Classical in
theorem ctb_leav {Ls : List (List Int)} {C : List Int} (pl : Pl n P) (ndG : (G.map (·.1)).Nodup) (sub : ∀ x ∈ P.map (·.1), x ∈ G.map (·.1)) (rg : Regs D (occ n P) Ls) (hC : C ∈ Ls) : ctb D n P G C = true ↔ (inside P C).length = C.length ∧ leav P G C = [] := by
  obtain ⟨s, hs, ic⟩ := (rg.mem C).mp hC
  constructor
  · intro h
    refine ⟨(ctb_iff.mp h).1, ?_⟩
    unfold leav leavL
    rw [List.filter_eq_nil_iff]
    intro nm m z
    obtain ⟨c, h1, h2⟩ := inside_get m
    obtain ⟨t, ht⟩ := key_val (sub nm (List.mem_map_of_mem (f := (·.1)) h1))
    exact (of_decide_eq_true z) t ht (ctb_in pl ndG rg hC h nm c t h1 h2 ht)
  · rintro ⟨h1, h2⟩
    refine ctb_iff.mpr ⟨h1, fun nm m z => ?_⟩
    unfold leav leavL at h2
    rw [List.filter_eq_nil_iff] at h2
    obtain ⟨c, p1, p2⟩ := inside_get m
    unfold outp at z
    obtain ⟨x, hx, e⟩ := List.mem_map.mp z
    obtain ⟨x1, x2⟩ := List.mem_filter.mp hx
    obtain ⟨nm', r⟩ := x
    replace e : nm' = nm := e
    subst e
    have rc : r = c := congrArg Prod.snd (key_uniq pl.nodup x1 p1 rfl)
    subst rc
    refine h2 nm' m (decide_eq_true fun t ht tC => ?_)
    exact (of_decide_eq_true x2) t ht ((((ic.mem r).mp p2).symm hs).trans ((ic.mem t).mp tC))
theorem ctb_pce {Ls : List (List Int)} {C : List Int} (pl : Pl n P) (ndG : (G.map (·.1)).Nodup) (sub : ∀ x ∈ P.map (·.1), x ∈ G.map (·.1)) (rg : Regs D (occ n P) Ls) (hC : C ∈ Ls) (h : ctb D n P G C = true) : Pce D P G C ∧ ∃ r q, C = r :: q := by
  refine ⟨Pce.region pl ndG sub rg hC (ctb_iff.mp h).1 (ctb_in pl ndG rg hC h), ?_⟩
  obtain ⟨s, hs, ic⟩ := (rg.mem C).mp hC
  have := ic.has
  match C, this with
  | r :: q, _ => exact ⟨r, q, rfl⟩
/-- the stuck regions -/
noncomputable def stL (D : List (Int × Int)) (n : Int) (P G : List (Str × Int)) (Ls : List (List Int)) : List (List Int) := (Ls.filter (ctb D n P G)).filter fun C => !solB D P G C
end
/-- what find_block answers -/
def BlkAt (H : Hp) (v : V) (D : List (Int × Int)) (n : Int) (P G : List (Str × Int)) (Ls : List (List Int)) : Prop :=
  (∃ nm ns t, outp D (occ n P) G P = nm :: ns ∧ v = .ref t ∧ H t = some (.tup [.str "outside", .str nm])) ∨
  (outp D (occ n P) G P = [] ∧ stL D n P G Ls = [] ∧ v = .non) ∨
  ∃ C Cs r q t c rs, outp D (occ n P) G P = [] ∧ stL D n P G Ls = C :: Cs ∧ C = r :: q ∧ v = .ref t ∧ H t = some (.tup [.str "stuck", .int r, .ref c]) ∧ CtA H c rs ∧ rs.map rowR = unwL P G C ∧ (∀ x ∈ rs, RowOk D P G C x) ∧ Crt D P G C (bks rs)
section
variable {P : Program} {w : World} {K : PySem.W.Frag} {mg : Str → Option Value} {base : Heap}
end
end Fw
set_option maxHeartbeats 2000000
namespace Fw
open PySem PySem.Spec PyProof.Rows L2
/-! enumerate(t) of a tuple t -/
/-- the enumerate at e with its iterator at it, i items of the tuple at t gone through -/
structure EnT (h : Heap) (e it t : Addr) (i : Nat) : Prop where
  en : ∃ old, IsEnum h e it ((i : Nat) : Int) old
  ir : h.IsTupleIter it t i
  ne : e ≠ it
theorem EnT.move {h h' : Heap} {e it t : Addr} {i : Nat} (x : EnT h e it t i) (k : ∀ b, b = e ∨ b = it → ∀ o, h.get? b = some o → h'.get? b = some o) : EnT h' e it t i := by
  obtain ⟨⟨old, a⟩, b, c⟩ := x
  exact ⟨⟨old, k e (.inl rfl) _ a⟩, b.at fun o => k it (.inr rfl) o, c⟩
theorem EnT.off {h : Heap} {e it t : Addr} {i : Nat} {items : Array Value} (x : EnT h e it t i) (y : h.IsTuple t items) : e ≠ t ∧ t ≠ it := by
  obtain ⟨⟨old, a⟩, ⟨o2, b1, b2, _⟩, _⟩ := x
  obtain ⟨o, y1, y2, _⟩ := y
  constructor
  · intro z
    rw [z] at a
    have := a.symm.trans y1
    cases this
    exact absurd (show Value.type "enumerate" = Value.type "tuple" from y2) (by decide)
  · intro z
    rw [← z, y1] at b1
    cases b1
    rw [y2] at b2
    exact absurd b2 (by decide)
def newEnum (a : Addr) : Obj := { cls := .type "enumerate", data := .fields #[.none, .bool false, .ref a, rawInt 0, .none, .none] }
def newIt (t : Addr) : Obj := { cls := .type "tuple_iterator", data := .fields #[.ref t, .int 0 0] }
theorem enumT_new (t : Addr) (items : Array Value) : Meets (Builtin.«enumerate.__new__» ⟨[.type "enumerate", .ref t], []⟩) (fun _ R s => s.heap.IsTuple t items ∧ R (.ok (.ret (.ref (s.heap.push (newIt t)).objs.size))) { s with heap := (s.heap.push (newIt t)).push (newEnum s.heap.objs.size) }) :=
  .of_wp fun prog w A R s hh => by
    obtain ⟨ht, fin⟩ := hh
    have st := sub_enumerate
    obtain ⟨hp, gs, ds, ts, oo⟩ := s
    have starts {A' : Around} {E' : Value → Shared → Prop} {Q' : Value → Shared → Prop} (q : Q' (.ref hp.objs.size) ⟨hp.push (newIt t), gs, ds, ts, oo⟩) : wpAny (model prog w) A' (pyIter (.ref t)) Q' E' ⟨hp, gs, ds, ts, oo⟩ := (begins_tuple t items).iter prog w A' E' _ _ ht q
    wp_walk using starts
    refine wpAny_stack_any fun _ => wpAny_pure ?_
    split
    · next c _ _ _ _ _ =>
      cases (c == Value.type "enumerate") <;> (wp_walk using starts; exact ⟨_, rfl, fin⟩)
    · wp_walk using starts
      exact ⟨_, rfl, fin⟩
section
variable {prog : Program} {w : World} {A : Around} {E : Value → Shared → Prop} {s : Shared}
theorem enumT_call {t : Addr} {items : Array Value} {Q : Value → Shared → Prop} (ht : s.heap.IsTuple t items)
    (fin : ∀ h', EnT h' (s.heap.objs.size + 1) s.heap.objs.size t 0 → (∀ b o, s.heap.get? b = some o → h'.get? b = some o) → Q (.ref (s.heap.objs.size + 1)) { s with heap := h' }) :
    wpAny (model prog w) A (call (.type "enumerate") [.ref t]) Q E s := by
  have e1 : (s.heap.push (newIt t)).objs.size = s.heap.objs.size + 1 := Heap.size_push ..
  have e2 := Heap.get?_push_size (s.heap.push (newIt t)) (o := newEnum s.heap.objs.size) rfl
  have e3 : ((s.heap.push (newIt t)).push (newEnum s.heap.objs.size)).get? s.heap.objs.size = some (newIt t) := Heap.get?_push_of_some _ (Heap.get?_push_size _ rfl)
  refine callType_new F.called_enumerate (by decide) (F.typeCall_enumerate_1 _) (F.newCall_enumerate_1 _) (fun _ => F.args_object_init_2 _ _) F.entry_enumerate_new (enumT_new t items) ⟨ht, ⟨_, e2, rfl⟩, ?_⟩
  rw [e1] at e2 ⊢
  exact fin _ ⟨⟨.none, e2⟩, ⟨_, e3, rfl, rfl⟩, Nat.succ_ne_self _⟩ fun b o z => Heap.get?_push_of_some _ (Heap.get?_push_of_some _ z)
/-- a turn: the pair is new, e and it go on, all else stays -/
theorem enumT_turn {elts : List Expr} {kk : Nat} {tpos : Pos} {e it t : Addr} {i : Nat} {items : Array Value} {x : Value} {Q : Value → Shared → Prop} (calm : A.handled = none) (n : EnT s.heap e it t i) (ht : s.heap.IsTuple t items) (hx : items[i]? = some x)
    (fin : ∀ h' tk tk', h'.get? s.heap.objs.size = some { cls := .type "tuple", data := .seq #[.int i tk, x] } → EnT h' e it t (i + 1) → (∀ b o, b ≠ e → b ≠ it → s.heap.get? b = some o → h'.get? b = some o) → Q (.ref s.heap.objs.size) { s with heap := h', toks := tk' }) :
    wpAny (model prog w) A (pyNext (.ref e)) (fun r s1 => ∃ u, r = some u ∧ wpAny (model prog w) A (letOwnedTupleGo (.Tuple elts kk tpos) (.ref e) u) (fun _ s2 => Q u s2) E s1) E s := by
  obtain ⟨o1, o2⟩ := n.off ht
  obtain ⟨⟨old, a⟩, b, ne⟩ := n
  have lt : i < items.size := by
    rcases Nat.lt_or_ge i items.size with h | h
    · exact h
    · rw [Array.getElem?_eq_none h] at hx; cases hx
  have le : e < s.heap.objs.size := Heap.lt_size a
  refine wpAny_pyNext_enum_itemD (Draws.tuple (A := A.in1) calm it t o2 items) a ⟨b, ht⟩ lt ne (by simp [ne, o1]) fun y h1 tk hy out st1 new sz keep => ⟨_, rfl, ?_⟩
  have hy : items[i]? = some y := hy
  rw [hx] at hy
  cases hy
  refine wpAny_letOwnedTupleGo_enum (s := { s with heap := h1, toks := tk + 1 }) out fun h2 en2 but => ?_
  refine fin h2 tk (tk + 1) ((but.2 _ (Nat.ne_of_gt le)).trans new) ⟨⟨x, ?_⟩, st1.1.at fun o z => (but.2 it ne.symm).trans z, ne⟩ fun c o ce ci z => (but.2 c ce).trans (keep c o ce ci z)
  · have : ((i + 1 : Nat) : Int) = (i : Int) + 1 := by omega
    rw [this]
    exact en2
theorem enumT_end {e it t : Addr} {i : Nat} {items : Array Value} {Q : Option Value → Shared → Prop} (calm : A.handled = none) (n : EnT s.heap e it t i) (ht : s.heap.IsTuple t items) (hi : i = items.size)
    (fin : ∀ h', Heap.ExtBut it s.heap h' → Q none { s with heap := h' }) : wpAny (model prog w) A (pyNext (.ref e)) Q E s := by
  obtain ⟨o1, o2⟩ := n.off ht
  obtain ⟨⟨old, a⟩, b, ne⟩ := n
  subst hi
  exact wpAny_pyNext_enum_endD (Draws.tuple (A := A.in1) calm it t o2 items) a ⟨b, ht⟩ fin
end
/-- the tuple at a; its items in new pairs with their numbers -/
def IteT (K : PySem.W.Frag) (a : Addr) : It where
  go i H := ∃ (xs : List V), SqT K H a xs ∧ i < xs.length
  yld i H v H' := ∃ T x, v = .ref T ∧ H T = none ∧ H' = upd H T (.tup [.int (i : Nat), x]) ∧ ∀ xs, SqT K H a xs → xs[i]? = some x
  stop i H := ∃ (xs : List V), SqT K H a xs ∧ xs.length = i
theorem turn_enumT {P : Program} {w : World} {K : PySem.W.Frag} {elts : List Expr} {kk : Nat} {tpos : Pos} (a e it : Addr) : Turn P w K (.Tuple elts kk tpos) (IteT K a) [e, it] e (fun i h => EnT h e it a i) where
  mem := List.mem_cons_self
  obj i h st b hb := by
    obtain ⟨⟨old, x⟩, ⟨o, y1, _, y3⟩, _⟩ := st
    rcases List.mem_cons.mp hb with rfl | hb
    · exact ⟨_, x, fun v z => nomatch z⟩
    · rw [List.mem_singleton.mp hb]
      exact ⟨o, y1, fun v z => by rw [y3] at z; cases z⟩
  keep i h h' st k := st.move fun b hb o z => k b (by rcases hb with rfl | rfl <;> simp) o z
  item := by
    rintro X rfl rfl rfl calm i pins s σ H E I free st ⟨xs, hq, lt⟩
    obtain ⟨us, rel, tp, _⟩ := I.tuple hq
    have hx : xs[i]? = some xs[i] := List.getElem?_eq_getElem lt
    obtain ⟨u, hu, ru⟩ := rel.get hx
    have small : ∀ b ∈ [e, it], b < s.heap.objs.size := fun b hb => by
      obtain ⟨⟨old, x⟩, ⟨o, y, _⟩, _⟩ := st
      rcases List.mem_cons.mp hb with rfl | hb
      · exact Heap.lt_size x
      · rw [List.mem_singleton.mp hb]
        exact Heap.lt_size y
    refine enumT_turn (I.ok.hd calm) st tp (x := u) (by simpa using hu) fun h' tk tk' new st' keep => ?_
    have J : Inv X pins σ (upd H s.heap.objs.size (.tup [.int (i : Nat), xs[i]])) { s with heap := h', toks := tk' } :=
      I.turnedNew (ch := [e, it]) (fun b o nb z => keep b o (fun y => nb (by simp [y])) (fun y => nb (by simp [y])) z) free (Nat.le_refl _)
        (show ObjOk X.prog X.w _ h' _ (.tup [.int (i : Nat), xs[i]]) from ⟨by show 2 ≤ sizeLine; decide, _, .cons ⟨_, rfl⟩ (.cons ru .nil), ⟨_, new, rfl, _, rfl⟩⟩)
    refine ⟨.ref s.heap.objs.size, _, J, rfl, ⟨_, xs[i], rfl, I.hok.fresh (Nat.le_refl _), rfl, fun ys hy => ?_⟩, st', fun b hb => ?_⟩
    · rw [I.tuple_inj hy hq]
      exact hx
    · rw [upd_ne (Nat.ne_of_lt (small b hb))]
      exact (free b hb).1
  done := by
    rintro X rfl rfl rfl calm i pins s σ H E I free st ⟨xs, hq, le⟩
    obtain ⟨us, rel, tp, _⟩ := I.tuple hq
    obtain ⟨f0, f1, f2, f3, f4, f5⟩ := free it (by simp)
    have l := rel.length
    refine enumT_end (I.ok.hd calm) st tp (by simp only [List.size_toArray]; omega) fun h' eb => ⟨rfl, ?_⟩
    exact I.turned (t' := s.toks) (fun b o nb z => eb b o nb z) f0 f1 f3 f4 f5
  self A i s Q E st h := let ⟨⟨_, x⟩, _, _⟩ := st; wpAny_pyIter_enum x h
def iEnumT (K : PySem.W.Frag) (ta : TA) : TI := fun σ H R => ta σ H fun vs H1 => ∃ a xs, vs = [.ref a] ∧ SqT K H1 a xs ∧ R (IteT K a) H1
theorem pi_enumT {X : Cx} {x : Expr} {ta : TA} {p pos tpos : Pos} {elts : List Expr} {kk : Nat} (gl : Gl X "enumerate") (no : X.mg "enumerate" = none) (ha : PA X [x] ta) (hs : starEach [x] X.env = [(false, eval x X.env)] := by rfl) : PI X (.Tuple elts kk tpos) (.Call (.Name "enumerate" p) [x] [] pos) (iEnumT X.K ta) where
  run pins s σ H R I rd := by
    refine Call_ (ld_blt I gl no boot_enumerate (PyProof.Rows.callWith_type1 (thn (ha.run pos pins s σ H _ I rd) ?_) hs rfl))
    rintro us s1 ⟨_, H1, J, rr, a, xs, rfl, hq, fin⟩
    obtain ⟨u, rfl, ru⟩ := vals1 rr
    cases (show u = Value.ref a from ru)
    obtain ⟨_, _, tp, _⟩ := J.tuple hq
    refine enumT_call tp fun h' n keep => wpAny_pyIter_enum n.en.choose_spec ⟨_, [_, _], _, _, H1, rfl, J.kept (t' := s1.toks) keep, turn_enumT a _ _, n, fun b hb => ?_, fin⟩
    have big : s1.heap.objs.size ≤ b := by
      rcases List.mem_cons.mp hb with rfl | hb
      · exact Nat.le_succ _
      · rw [List.mem_singleton.mp hb]
        exact Nat.le_refl _
    exact J.fpOk big (J.hok.fresh big)
theorem walk_enumT {K : PySem.W.Frag} {a : Addr} {xs : List V} : Walk (IteT K a) xs.length (fun H => SqT K H a xs) (YPair (fun i => some (.int (i : Nat))) (fun i => xs[i]?)) where
  goes i H lt q := ⟨xs, q, lt⟩
  stops H q := ⟨xs, q, rfl⟩
  yields i H v H' lt q y := by
    obtain ⟨T, x, rfl, fr, rfl, h⟩ := y
    exact ⟨T, _, x, rfl, fr, rfl, rfl, h xs q⟩
end Fw
set_option maxHeartbeats 2000000
namespace Fw
open PySem PySem.Spec PyProof.Rows L2
/-! moves that can be made one after another; direct moves -/
section
variable {P : Program} {w : World} {K : PySem.W.Frag} {mg : Str → Option Value} {base : Heap}
end
end Fw
set_option maxHeartbeats 2000000
namespace Fw
open PySem PySem.Spec PyProof.Rows L2
/-- the dict of distances, at any time -/
structure DInv (n : Int) (D : List (Int × Int)) (O : List Int) (c : Int) (kvs : List (Key × V)) : Prop where
  one : isK kvs c = true
  way : ∀ v x, lk kvs v = some x → ∃ p, SP (adj D) c v p ∧ x = .int ((p.length : Nat) - 1) ∧ ∀ y ∈ p, isK kvs y = true
  wk : ∀ v, isK kvs v = true → Wk D O c v
  keys : ∃ ks : List Int, kvs.map (·.1) = ks.map Sum.inl ∧ ks.Nodup ∧ ∀ v, v ∈ ks ↔ isK kvs v = true
  len : kvs.length + left n.toNat (isK kvs) ≤ n.toNat + 1
theorem DInv.start {n c : Int} {D : List (Int × Int)} {O : List Int} : DInv n D O c [(Sum.inl c, V.int 0)] := by
  have e0 : ∀ v, lk [(Sum.inl c, V.int 0)] v = if v = c then some (.int 0) else none := fun v => by
    unfold lk
    by_cases e : v = c
    · rw [if_pos e, e]; exact valV_pos rfl
    · rw [if_neg e, valV_neg (fun z => e (Sum.inl.inj z).symm)]; rfl
  have e1 : isK [(Sum.inl c, V.int 0)] c = true := by unfold isK; rw [e0, if_pos rfl]; rfl
  have e2 : ∀ v, isK [(Sum.inl c, V.int 0)] v = true → v = c := fun v h => by
    unfold isK at h
    rw [e0] at h
    by_cases e : v = c
    · exact e
    · rw [if_neg e] at h; cases h
  refine ⟨e1, fun v x h => ?_, fun v h => ?_, ⟨[c], rfl, by simp, fun v => ⟨fun h => ?_, fun h => ?_⟩⟩, ?_⟩
  · have : v = c := e2 v (by unfold isK; rw [h]; rfl)
    subst this
    rw [e0, if_pos rfl] at h
    refine ⟨[v], .one v, (Option.some.inj h).symm, fun y hy => ?_⟩
    rw [List.mem_singleton.mp hy]
    exact e1
  · rw [e2 v h]
    exact .base
  · rw [List.mem_singleton.mp h]
    exact e1
  · rw [e2 v h]; simp
  · have := left_le n.toNat (isK [(Sum.inl c, V.int 0)])
    simp only [List.length_cons, List.length_nil]
    omega
theorem DInv.put {n c o v : Int} {D : List (Int × Int)} {O : List Int} {kvs : List (Key × V)} (S : DInv n D O c kvs) {p : List Int} (hp : SP (adj D) c v p) (hk : ∀ y ∈ p, isK kvs y = true) (ho : isK kvs o = false) (a : adj D v o) (hO : o ∈ O) (h0 : 0 ≤ o) (h1 : o < n) :
    DInv n D O c (putK kvs (Sum.inl o) (.int ((p.length : Nat) - 1 + 1))) ∧ left n.toNat (isK (putK kvs (Sum.inl o) (.int ((p.length : Nat) - 1 + 1)))) < left n.toNat (isK kvs) := by
  have eo : lk kvs o = none := by
    unfold isK at ho
    cases e : lk kvs o with
    | none => rfl
    | some x => rw [e] at ho; cases ho
  have nm : o ∉ p := fun m => by
    have := hk o m
    rw [ho] at this
    cases this
  generalize ex : V.int ((p.length : Nat) - 1 + 1) = x0
  have hl : left n.toNat (isK (putK kvs (Sum.inl o) x0)) < left n.toNat (isK kvs) := by
    refine left_lt (o := o) (fun x hx => ?_) h0 (by omega) ho ?_
    · rw [isK_put, hx, Bool.or_true]
    · rw [isK_put, decide_eq_true rfl, Bool.true_or]
  have up : ∀ {y}, isK kvs y = true → isK (putK kvs (Sum.inl o) x0) y = true := fun {y} h => by rw [isK_put, h, Bool.or_true]
  refine ⟨⟨up S.one, fun y x h => ?_, fun y h => ?_, ?_, ?_⟩, hl⟩
  · rw [lk_put] at h
    by_cases e : y = o
    · rw [if_pos e] at h
      subst e
      refine ⟨p ++ [y], hp.snoc a nm, ?_, fun z hz => ?_⟩
      · rw [← Option.some.inj h, ← ex, List.length_append]
        show V.int _ = V.int _
        congr 1
        simp only [List.length_cons, List.length_nil]
        omega
      · rcases List.mem_append.mp hz with hz | hz
        · exact up (hk z hz)
        · rw [List.mem_singleton.mp hz, isK_put, decide_eq_true rfl, Bool.true_or]
    · rw [if_neg e] at h
      obtain ⟨p2, q1, q2, q3⟩ := S.way y x h
      exact ⟨p2, q1, q2, fun z hz => up (q3 z hz)⟩
  · rw [isK_put, Bool.or_eq_true, decide_eq_true_eq] at h
    rcases h with rfl | h
    · exact .step (S.wk v (hk v hp.last)) a hO
    · exact S.wk y h
  · obtain ⟨ks, e1, e2, e3⟩ := S.keys
    refine ⟨ks ++ [o], ?_, ?_, fun y => ?_⟩
    · rw [putK_new _ eo, List.map_append, e1, List.map_append]; rfl
    · rw [List.nodup_append]
      refine ⟨e2, by simp, fun x hx y hy e => ?_⟩
      rw [List.mem_singleton.mp hy] at e
      rw [e, e3, ho] at hx
      cases hx
    · rw [List.mem_append, List.mem_singleton, e3, isK_put, Bool.or_eq_true, decide_eq_true_eq]
      exact or_comm
  · have := length_putK kvs (Sum.inl o) x0
    have := S.len
    omega
theorem drop_out {v x : Int} {wt : List Int} {j : Nat} (e : wt[j]? = some v) (h : x ∉ wt.drop (j + 1)) (ne : x ≠ v) : x ∉ wt.drop j := by
  have lt : j < wt.length := lt_of_get e
  rw [List.drop_eq_getElem_cons lt]
  rw [List.getElem?_eq_getElem lt] at e
  intro m
  rcases List.mem_cons.mp m with m | m
  · exact ne (m.trans (Option.some.inj e))
  · exact h m
/-- the heap at any time: others at O1, the dict at d, edge at el, new ones at nl -/
structure DAt (H : Hp) (O1 d el nl : Addr) (O : List Int) (kvs : List (Key × V)) (wt nw : List Int) (H' : Hp) : Prop where
  sm : Same H H'
  eo : H' O1 = some (.lst (vi O))
  ed : H' d = some (.dK kvs)
  ee : H' el = some (.lst (vi wt))
  en : H' nl = some (.lst (vi nw))
theorem DAt.same {H H' H2 : Hp} {O1 d el nl : Addr} {O : List Int} {kvs : List (Key × V)} {wt nw : List Int} (x : DAt H O1 d el nl O kvs wt nw H') (s : Same H' H2) : DAt H O1 d el nl O kvs wt nw H2 := ⟨x.sm.trans s, s _ _ x.eo, s _ _ x.ed, s _ _ x.ee, s _ _ x.en⟩
theorem iteT' {b : Bool} {A B : Prop} (h : b = true) (a : A) : if b = true then A else B := by rw [if_pos h]; exact a
/-- the rooms of the others -/
def oths (P : List (Str × Int)) (nm : Str) : List Int := (P.filter fun x => decide (x.1 ≠ nm)).map (·.2)
theorem oths_len (P : List (Str × Int)) (nm : Str) : (oths P nm).length ≤ P.length := by
  unfold oths
  rw [List.length_map]
  exact List.length_filter_le _ _
theorem oths_snoc {P : List (Str × Int)} {nm : Str} {k : Nat} {n' : Str} {r : Int} (h : P[k]? = some (n', r)) : oths (P.take (k + 1)) nm = oths (P.take k) nm ++ if n' = nm then [] else [r] := by
  unfold oths
  rw [take_snoc h, filter_snoc, List.map_append]
  congr 1
  by_cases e : n' = nm
  · rw [if_pos e, if_neg (by simp [e])]
    rfl
  · rw [if_neg e, if_pos (by simp [e])]
    rfl
section
variable {P : Program} {w : World} {K : PySem.W.Frag} {mg : Str → Option Value} {base : Heap}
end
end Fw
set_option maxHeartbeats 2000000
namespace Fw
open PySem PySem.Spec PyProof.Rows L2
/-! two people exchange their rooms (math) -/
theorem Runs.app {n : Int} {D : List (Int × Int)} {P X Q : List (Str × Int)} (h : Runs n D P X Q) : ∀ {Y R : List (Str × Int)}, Runs n D Q Y R → Runs n D P (X ++ Y) R := by
  induction h with
  | nil P => exact fun k => k
  | cons m a o _ ih => exact fun k => .cons m a o (ih k)
theorem mvd_comm {P : List (Str × Int)} {a b : Str} {r s : Int} (h : a ≠ b) : mvd (mvd P a r) b s = mvd (mvd P b s) a r := by
  unfold mvd
  rw [List.map_map, List.map_map]
  refine List.map_congr_left fun x _ => ?_
  by_cases e1 : x.1 = a
  · have e2 : x.1 ≠ b := fun e => h (e1.symm.trans e)
    simp [e1, e2, h]
  · by_cases e2 : x.1 = b
    · simp [e1, e2, h, Ne.symm h]
    · simp [e1, e2]
def go (nm : Str) (p : List Int) : List (Str × Int) := p.tail.map fun t => (nm, t)
theorem SP.off {R : Int → Int → Prop} {a b : Int} {p : List Int} (h : SP R a b p) : a ∉ p.tail := by
  cases h with
  | one a => exact List.not_mem_nil
  | cons _ _ n => exact n
theorem Wk.path {n : Int} {D : List (Int × Int)} {U : List Int} {a b : Int} (hF : Forest n D) (wk : Wk D U a b) {p : List Int} (sp : SP (adj D) a b p) : ∀ t ∈ p.tail, t ∈ U := fun t ht => by
  obtain ⟨q, hq, hs⟩ := wk.within
  have e := hF.uniq _ _ _ _ sp hq
  subst e
  rcases hs t (List.mem_of_mem_tail ht) with rfl | h
  · exact absurd ht sp.off
  · exact h
/-- who shares a room in C -/
def shr (P : List (Str × Int)) (C : List Int) : List Str := ((P.filter fun x => decide (x.2 ∈ C)).filter fun x => decide (1 < (inside P [x.2]).length)).map (·.1)
theorem mem_shr {P : List (Str × Int)} {C : List Int} {a : Str} : a ∈ shr P C ↔ ∃ r, (a, r) ∈ P ∧ r ∈ C ∧ 1 < (inside P [r]).length := by
  unfold shr
  constructor
  · intro h
    obtain ⟨x, hx, rfl⟩ := List.mem_map.mp h
    obtain ⟨h1, h2⟩ := List.mem_filter.mp hx
    obtain ⟨h3, h4⟩ := List.mem_filter.mp h1
    exact ⟨x.2, h3, of_decide_eq_true h4, of_decide_eq_true h2⟩
  · rintro ⟨r, h1, h2, h3⟩
    exact List.mem_map.mpr ⟨(a, r), List.mem_filter.mpr ⟨List.mem_filter.mpr ⟨h1, decide_eq_true h2⟩, decide_eq_true h3⟩, rfl⟩
theorem mem_ins1 {P : List (Str × Int)} {r : Int} {a : Str} : a ∈ inside P [r] ↔ (a, r) ∈ P := by
  unfold inside
  constructor
  · intro h
    obtain ⟨x, hx, rfl⟩ := List.mem_map.mp h
    obtain ⟨h1, h2⟩ := List.mem_filter.mp hx
    have : x.2 = r := List.mem_singleton.mp (of_decide_eq_true h2)
    rw [← this]
    exact h1
  · intro h
    exact List.mem_map.mpr ⟨(a, r), List.mem_filter.mpr ⟨h, decide_eq_true (List.mem_singleton.mpr rfl)⟩, rfl⟩
/-- somebody else is there -/
theorem another {P : List (Str × Int)} {r : Int} (nd : (P.map (·.1)).Nodup) (a : Str) (h : 1 < (inside P [r]).length) : ∃ x ∈ P, x.1 ≠ a ∧ x.2 = r := by
  have nd : (inside P [r]).Nodup := (List.filter_sublist.map _).nodup nd
  match e : inside P [r], h, nd with
  | y :: z :: l, _, nd =>
    have my : (y, r) ∈ P := mem_ins1.mp (by rw [e]; exact List.mem_cons_self)
    have mz : (z, r) ∈ P := mem_ins1.mp (by rw [e]; exact List.mem_cons_of_mem _ List.mem_cons_self)
    have ne : y ≠ z := fun q => by
      rw [q, List.nodup_cons] at nd
      exact nd.1 List.mem_cons_self
    by_cases c : y = a
    · exact ⟨_, mz, fun q => ne (c.trans q.symm), rfl⟩
    · exact ⟨_, my, c, rfl⟩
section
variable {n : Int} {D : List (Int × Int)} {P : List (Str × Int)} {C : List Int} {a b : Str} {ra rb : Int}
theorem swap_runs (hF : Forest n D) (nd : (P.map (·.1)).Nodup) (ma : (a, ra) ∈ P) (mb : (b, rb) ∈ P) (ne : ra ≠ rb) {p q : List Int} (hp : SP (adj D) ra rb p) (hq : SP (adj D) rb ra q) (up : ∀ t ∈ p.tail, t ∈ P.map (·.2)) (uq : ∀ t ∈ q.tail, t ∈ P.map (·.2))
    {x0 : Str × Int} (hx : x0 ∈ P) (nx : x0.1 ≠ a) (rx : x0.2 = ra) : Runs n D P (go a p ++ go b q) (mvd (mvd P a rb) b ra) := by
  have at' : ∀ {x : Str × Int} {c : Str} {rc : Int}, (c, rc) ∈ P → x ∈ P → x.1 = c → x.2 = rc := fun {x c rc} m hx e => congrArg Prod.snd (key_uniq nd hx m e)
  have nab : a ≠ b := fun e => ne (at' (e ▸ mb) ma rfl)
  have other : ∀ {t : Int}, t ∈ P.map (·.2) → t ≠ ra → ∃ x ∈ P, x.1 ≠ a ∧ x.2 = t := fun {t} h nt => by
    obtain ⟨x, h1, h2⟩ := List.mem_map.mp h
    exact ⟨x, h1, fun e => nt (h2.symm.trans (at' ma h1 e)), h2⟩
  have r1 := hp.runs hF nd ma fun t ht => other (up t ht) fun e => hp.off (e ▸ ht)
  refine r1.app (hq.runs hF (by rw [mvd_names]; exact nd) (mvd_other mb nab.symm) fun t ht => ?_)
  have tb : t ≠ rb := fun e => hq.off (e ▸ ht)
  by_cases e : t = ra
  · exact ⟨x0, mvd_other hx nx, fun q => ne (rx.symm.trans (at' mb hx q)), rx.trans e.symm⟩
  · obtain ⟨x, h1, n1, e1⟩ := other (uq t ht) e
    exact ⟨x, mvd_other h1 n1, fun q => tb (e1.symm.trans (at' mb h1 q)), e1⟩
/-- what the exchange may answer -/
def Xch (D : List (Int × Int)) (P : List (Str × Int)) (C : List Int) (a : Str) (ra : Int) (b : Str) (rb : Int) (X : List (Str × Int)) : Prop :=
  (ra = rb ∧ X = []) ∨ (ra ≠ rb ∧ ∃ p q, SP (adj D) ra rb p ∧ SP (adj D) rb ra q ∧ ((a ∈ shr P C ∧ X = go a p ++ go b q) ∨ (b ∈ shr P C ∧ X = go b q ++ go a p) ∨
    (a ∉ shr P C ∧ b ∉ shr P C ∧ ∃ k rk u v, (k, rk) ∈ P ∧ k ∈ shr P C ∧ SP (adj D) rk ra u ∧ SP (adj D) ra rk v ∧ X = go k u ++ go a p ++ go b q ++ go k v)))
theorem Xch.runs (hF : Forest n D) (pl : Pl n P) (ma : (a, ra) ∈ P) (mb : (b, rb) ∈ P) (hC : IsC D (occ n P) ra C) (wk : Wk D (P.map (·.2)) ra rb) {X : List (Str × Int)} (h : Xch D P C a ra b rb X) : Runs n D P X (mvd (mvd P a rb) b ra) := by
  have nd := pl.nodup
  have at' : ∀ {x : Str × Int} {c : Str} {rc : Int}, (c, rc) ∈ P → x ∈ P → x.1 = c → x.2 = rc := fun {x c rc} m hx e => congrArg Prod.snd (key_uniq nd hx m e)
  have wk' := wk.symm (List.mem_map_of_mem (f := (·.2)) ma)
  have inC : ∀ r, r ∈ C ↔ Wk D (P.map (·.2)) ra r := fun r => by rw [hC.mem, Wk.congr fun x => pl.mem_occ]
  rcases h with ⟨e, rfl⟩ | ⟨ne, p, q, hp, hq, h⟩
  · subst e
    rw [mvd_stay nd ma, mvd_stay nd mb]
    exact .nil P
  have up := wk.path hF hp
  have uq := wk'.path hF hq
  have nab : a ≠ b := fun e => ne (at' (e ▸ mb) ma rfl)
  rcases h with ⟨sa, rfl⟩ | ⟨sb, rfl⟩ | ⟨sa, sb, k, rk, u, v, mk, sk, hu, hv, rfl⟩
  · obtain ⟨r, h1, _, h3⟩ := mem_shr.mp sa
    obtain rfl : r = ra := at' ma h1 rfl
    obtain ⟨x0, hx, nx, rx⟩ := another nd a h3
    exact swap_runs hF nd ma mb ne hp hq up uq hx nx rx
  · obtain ⟨r, h1, _, h3⟩ := mem_shr.mp sb
    obtain rfl : r = rb := at' mb h1 rfl
    obtain ⟨x0, hx, nx, rx⟩ := another nd b h3
    rw [mvd_comm nab]
    exact swap_runs hF nd mb ma ne.symm hq hp uq up hx nx rx
  · obtain ⟨r, h1, kC, h3⟩ := mem_shr.mp sk
    obtain rfl : r = rk := at' mk h1 rfl
    have nra : r ≠ ra := fun e => sa (mem_shr.mpr ⟨ra, ma, hC.has, e ▸ h3⟩)
    have nrb : r ≠ rb := fun e => sb (mem_shr.mpr ⟨rb, mb, (inC rb).mpr wk, e ▸ h3⟩)
    have nka : k ≠ a := fun e => nra (at' ma mk e)
    have nkb : k ≠ b := fun e => nrb (at' mb mk e)
    obtain ⟨x0, hx, nx, rx⟩ := another nd k h3
    have wkr : Wk D (P.map (·.2)) ra r := (inC r).mp kC
    have uu := (wkr.symm (List.mem_map_of_mem (f := (·.2)) ma)).path hF hu
    have uv := wkr.path hF hv
    have other : ∀ {t : Int}, t ∈ P.map (·.2) → ∃ x ∈ P, x.1 ≠ k ∧ x.2 = t := fun {t} h => by
      obtain ⟨x, h1, h2⟩ := List.mem_map.mp h
      by_cases e : x.1 = k
      · exact ⟨x0, hx, nx, rx.trans ((at' mk h1 e).symm.trans h2)⟩
      · exact ⟨x, h1, e, h2⟩
    have r1 := hu.runs hF nd mk fun t ht => other (uu t ht)
    have nd1 : ((mvd P k ra).map (·.1)).Nodup := by rw [mvd_names]; exact nd
    have st : ∀ t ∈ P.map (·.2), t ∈ (mvd P k ra).map (·.2) := fun t h => by
      obtain ⟨x, h1, h2, h3⟩ := other h
      exact h3 ▸ List.mem_map_of_mem (f := (·.2)) (mvd_other h1 h2)
    have r2 := swap_runs hF nd1 (mvd_other ma nka.symm) (mvd_other mb nkb.symm) ne hp hq (fun t ht => st t (up t ht)) (fun t ht => st t (uq t ht)) (mvd_self mk) nka rfl
    have r3 := hv.runs (nm := k) (P := mvd (mvd (mvd P k ra) a rb) b ra) hF (by rw [mvd_names, mvd_names]; exact nd1) (mvd_other (mvd_other (mvd_self mk) nka) nkb) fun t ht => by
      have ta : t ≠ ra := fun e => hv.off (e ▸ ht)
      by_cases e : t = rb
      · exact ⟨(a, rb), mvd_other (mvd_self (mvd_other ma nka.symm)) nab, nka.symm, e.symm⟩
      · obtain ⟨x, h1, h2, h3⟩ := other (uv t ht)
        exact ⟨x, mvd_other (mvd_other (mvd_other h1 h2) fun q => ta (h3.symm.trans (at' ma h1 q))) fun q => e (h3.symm.trans (at' mb h1 q)), h2, h3⟩
    have eq : mvd (mvd (mvd (mvd P k ra) a rb) b ra) k r = mvd (mvd P a rb) b ra := by
      rw [mvd_comm nkb.symm, mvd_comm (P := mvd P k ra) nka.symm, mvd_twice, mvd_stay nd mk]
    rw [eq] at r3
    have := r1.app (r2.app r3)
    rw [List.append_assoc, List.append_assoc]
    rw [List.append_assoc] at this
    exact this
theorem flt_le {α : Type} {p q : α → Bool} (h : ∀ y, p y = true → q y = true) : ∀ l : List α, (l.filter p).length ≤ (l.filter q).length
  | [] => Nat.le_refl _
  | y :: l => by
    have := flt_le h l
    cases e : p y with
    | true => rw [List.filter_cons_of_pos e, List.filter_cons_of_pos (h y e)]; exact Nat.succ_le_succ this
    | false =>
      rw [List.filter_cons_of_neg (by rw [e]; decide)]
      cases e2 : q y with
      | true => rw [List.filter_cons_of_pos e2]; exact Nat.le_succ_of_le this
      | false => rw [List.filter_cons_of_neg (by rw [e2]; decide)]; exact this
theorem nodup_leS {xs ys : List Int} (nd : xs.Nodup) (h : ∀ x ∈ xs, x ∈ ys) : xs.length ≤ ys.length := by
  induction xs generalizing ys with
  | nil => exact Nat.zero_le _
  | cons x xs ih =>
    rw [List.nodup_cons] at nd
    have hx := h x List.mem_cons_self
    have := ih (ys := ys.erase x) nd.2 fun z hz => (List.mem_erase_of_ne (fun e : z = x => nd.1 (by rw [← e]; exact hz))).mpr (h z (List.mem_cons_of_mem _ hz))
    rw [List.length_erase_of_mem hx] at this
    have : 0 < ys.length := List.length_pos_of_mem hx
    simp only [List.length_cons]
    omega
theorem inside_ge (nd : C.Nodup) (h : ∀ r ∈ C, r ∈ P.map (·.2)) : C.length ≤ (inside P C).length := by
  unfold inside
  rw [List.length_map, ← List.length_map (as := P.filter _) (·.2)]
  refine nodup_leS nd fun r hr => ?_
  obtain ⟨x, h1, h2⟩ := List.mem_map.mp (h r hr)
  exact List.mem_map.mpr ⟨x, List.mem_filter.mpr ⟨h1, decide_eq_true (by rw [h2]; exact hr)⟩, h2⟩
/-- in a loose region somebody shares a room -/
theorem shr_some (h : C.length < (inside P C).length) : shr P C ≠ [] := fun no => by
  have none : ∀ x ∈ P.filter (fun x => decide (x.2 ∈ C)), (inside P [x.2]).length ≤ 1 := fun x hx => by
    obtain ⟨h1, h2⟩ := List.mem_filter.mp hx
    refine Nat.le_of_not_lt fun lt => ?_
    have : x.1 ∈ shr P C := mem_shr.mpr ⟨x.2, h1, of_decide_eq_true h2, lt⟩
    rw [no] at this
    cases this
  have nd : ((P.filter fun x => decide (x.2 ∈ C)).map (·.2)).Nodup := by
    rw [List.nodup_iff_count]
    intro r
    by_cases m : r ∈ (P.filter fun x => decide (x.2 ∈ C)).map (·.2)
    · obtain ⟨x, hx, e⟩ := List.mem_map.mp m
      have l := none x hx
      rw [e] at l
      refine Nat.le_trans ?_ l
      unfold inside
      rw [List.length_map, List.count_eq_length_filter, List.filter_map, List.length_map, List.filter_filter]
      refine flt_le (fun y hy => ?_) P
      rw [Bool.and_eq_true] at hy
      have := hy.1
      simpa using this
    · rw [List.count_eq_zero_of_not_mem m]
      exact Nat.zero_le _
  have := nodup_leS nd fun r hr => by
    obtain ⟨x, hx, e⟩ := List.mem_map.mp hr
    rw [← e]
    exact of_decide_eq_true (List.mem_filter.mp hx).2
  unfold inside at h
  rw [List.length_map] at h this
  exact absurd (Nat.lt_of_lt_of_le h this) (Nat.lt_irrefl _)
end
end Fw
set_option maxHeartbeats 4000000
namespace Fw
open PySem PySem.Spec PyProof.Rows L2
/-! walk, sharing_people, exchange -/
theorem inV_st (x : Str) (R : List Str) : inV (.str x) (R.map V.str) = decide (x ∈ R) := by
  unfold inV
  rw [Bool.eq_iff_iff, List.any_eq_true, decide_eq_true_eq]
  constructor
  · rintro ⟨y, hy, e⟩
    obtain ⟨z, hz, rfl⟩ := List.mem_map.mp hy
    have : z = x := by simpa [eqV] using e
    exact this ▸ hz
  · intro h
    exact ⟨.str x, List.mem_map_of_mem h, by simp [eqV]⟩
theorem flat_st (R : List Str) : (R.map V.str).all flatV = true := by
  rw [List.all_eq_true]
  intro x hx
  obtain ⟨z, _, rfl⟩ := List.mem_map.mp hx
  rfl
/-- plans put together -/
def rCatP : R2 := fun x y H Q => ∃ (a b : Addr) (X Y : List (Str × Int)), x = .ref a ∧ y = .ref b ∧ PlAt H a X ∧ PlAt H b Y ∧ X.length + Y.length ≤ 8000 ∧ ∀ H' p, Same H H' → PlAt H' p (X ++ Y) → Q (.ref p) H'
theorem op_catP {X : Cx} : OpR X (binaryOp .Add) rCatP := by
  intro pins s σ H x y v u Q I rx ry h
  obtain ⟨a, b, Y, Z, rfl, rfl, hY, hZ, hz, q⟩ := h
  obtain ⟨ps, p1, p2, p3⟩ := id hY
  obtain ⟨qs, q1, q2, q3⟩ := id hZ
  have l1 : Y.length = ps.length := by rw [p2, List.length_map]
  have l2 : Z.length = qs.length := by rw [q2, List.length_map]
  refine op_catA pins s σ H _ _ v u Q I rx ry ⟨a, b, _, _, rfl, rfl, p1.sq, q1.sq, by rw [List.length_map, List.length_map]; exact Nat.le_trans (show ps.length + qs.length ≤ 8000 by omega) (by decide), fun e => q H b (Same.refl _) ?_, fun _ e => q H a (Same.refl _) ?_, fun _ _ p hp => q _ p (same_upd hp) ?_⟩
  · rw [List.map_eq_nil_iff] at e
    rw [p2, e]
    exact hZ
  · rw [List.map_eq_nil_iff] at e
    rw [q2, e, List.map_nil, List.append_nil]
    exact hY
  · refine ⟨ps ++ qs, .inl ?_, by rw [p2, q2, List.map_append], fun z hz => ?_⟩
    · rw [upd_same, List.map_append]
    · rcases List.mem_append.mp hz with m | m
      · exact same_upd hp _ _ (p3 z m)
      · exact same_upd hp _ _ (q3 z m)
theorem shr_sub (P : List (Str × Int)) (C : List Int) : (shr P C).length ≤ P.length := by
  unfold shr
  rw [List.length_map]
  exact Nat.le_trans (List.length_filter_le _ _) (List.length_filter_le _ _)
section
variable {P : Program} {w : World} {K : PySem.W.Frag} {mg : Str → Option Value} {base : Heap}
end
end Fw
set_option maxHeartbeats 2000000
namespace Fw
open PySem PySem.Spec PyProof.Rows L2
/-! the regions exist (math; cut out of Sf) -/
theorem up_minA {y : Int} {ys : List Int} (h : (y :: ys).Pairwise (· < ·)) : ∀ v ∈ y :: ys, y ≤ v := fun v hv => by
  rcases List.mem_cons.mp hv with e | e
  · omega
  · have := (List.pairwise_cons.mp h).1 v e
    omega
theorem regs_exA (D : List (Int × Int)) {R : List Int} (upR : R.Pairwise (· < ·)) : ∃ Ls, Regs D R Ls := by
  classical
  have ex : ∀ r, ∃ l, r ∈ R → IsC D R r l := fun r => by
    by_cases h : r ∈ R
    · obtain ⟨l, hl⟩ := isC_ex D upR h
      exact ⟨l, fun _ => hl⟩
    · exact ⟨[], fun z => absurd z h⟩
  let C : Int → List Int := fun r => (ex r).choose
  have hC : ∀ r ∈ R, IsC D R r (C r) := fun r hr => (ex r).choose_spec hr
  have hd : ∀ r ∈ R, (∀ v ∈ C r, r ≤ v) → ∃ ys, C r = r :: ys := fun r hr hm => by
    have h1 := (hC r hr).has
    have h2 := (hC r hr).up
    cases e : C r with
    | nil => rw [e] at h1; cases h1
    | cons y ys =>
      rw [e] at h1 h2 hm
      have a := up_minA h2 r h1
      have b := hm y List.mem_cons_self
      exact ⟨ys, by rw [show y = r by omega]⟩
  refine ⟨(R.filter fun r => decide (∀ v ∈ C r, r ≤ v)).map C, ?_, fun l => ⟨fun hl => ?_, fun hl => ?_⟩⟩
  · rw [List.pairwise_map]
    refine List.Pairwise.imp_of_mem (R := (· < ·)) (fun {x y} hx hy h => ?_) (upR.filter _)
    obtain ⟨hx1, hx2⟩ := List.mem_filter.mp hx
    obtain ⟨hy1, hy2⟩ := List.mem_filter.mp hy
    obtain ⟨xs, ex⟩ := hd x hx1 (of_decide_eq_true hx2)
    obtain ⟨ys, ey⟩ := hd y hy1 (of_decide_eq_true hy2)
    rw [ex, ey]
    exact lexI_head h
  · obtain ⟨r, hr, rfl⟩ := List.mem_map.mp hl
    have := (List.mem_filter.mp hr).1
    exact ⟨r, this, hC r this⟩
  · obtain ⟨r, hr, ic⟩ := hl
    have h1 := ic.has
    cases e : l with
    | nil => rw [e] at h1; cases h1
    | cons y ys =>
      have my : y ∈ l := by rw [e]; exact List.mem_cons_self
      have yR := ic.sub hr y my
      have icy := ic.re hr my
      have ey := (hC y yR).one icy
      refine List.mem_map.mpr ⟨y, List.mem_filter.mpr ⟨yR, decide_eq_true ?_⟩, by rw [ey, e]⟩
      rw [ey, e]
      have := icy.up
      rw [e] at this
      exact up_minA this
end Fw
set_option maxHeartbeats 2000000
namespace Fw
open PySem PySem.Spec PyProof.Rows L2
/-! no block (cut out of Sf) -/
/-- there is no block -/
def Opn (D : List (Int × Int)) (n : Int) (P G : List (Str × Int)) : Prop := outp D (occ n P) G P = [] ∧ ∀ Ls, Regs D (occ n P) Ls → stL D n P G Ls = []
open Classical in
noncomputable def opnB (D : List (Int × Int)) (n : Int) (P G : List (Str × Int)) : Bool := decide (Opn D n P G)
open Classical in
theorem opnB_iff {D : List (Int × Int)} {n : Int} {P G : List (Str × Int)} : opnB D n P G = true ↔ Opn D n P G := by unfold opnB; rw [decide_eq_true_eq]
theorem opn_of {D : List (Int × Int)} {n : Int} {P G : List (Str × Int)} {Ls : List (List Int)} (RL : Regs D (occ n P) Ls) : Opn D n P G ↔ outp D (occ n P) G P = [] ∧ stL D n P G Ls = [] :=
  ⟨fun o => ⟨o.1, o.2 Ls RL⟩, fun o => ⟨o.1, fun L RL' => by rw [RL'.uniq RL]; exact o.2⟩⟩
theorem BlkAt.same {H H' : Hp} {v : V} {D : List (Int × Int)} {n : Int} {P G : List (Str × Int)} {Ls : List (List Int)} (b : BlkAt H v D n P G Ls) (s : Same H H') : BlkAt H' v D n P G Ls := by
  rcases b with ⟨nm, ns, t, h1, h2, h3⟩ | h | ⟨C, Cs, r, q, t, c, rs, h1, h2, h3, h4, h5, h6, h7⟩
  · exact .inl ⟨nm, ns, t, h1, h2, s _ _ h3⟩
  · exact .inr (.inl h)
  · exact .inr (.inr ⟨C, Cs, r, q, t, c, rs, h1, h2, h3, h4, s _ _ h5, h6.same s, h7⟩)
/-- what find_block answers is None exactly where there is no block -/
theorem blk_cases {H : Hp} {v : V} {D : List (Int × Int)} {n : Int} {P G : List (Str × Int)} (b : ∀ Ls, Regs D (occ n P) Ls → BlkAt H v D n P G Ls) : (v = .non ∧ Opn D n P G) ∨ (∃ t, v = .ref t) ∧ ¬ Opn D n P G := by
  obtain ⟨Ls, RL⟩ := regs_exA D (occ_up n P)
  rcases b Ls RL with ⟨nm, ns, t, h1, h2, h3⟩ | ⟨h1, h2, h3⟩ | ⟨C, Cs, r, q, t, c, rs, h1, h2, h3, h4, _⟩
  · exact .inr ⟨⟨t, h2⟩, fun o => by rw [o.1] at h1; cases h1⟩
  · exact .inl ⟨h3, (opn_of RL).mpr ⟨h1, h2⟩⟩
  · exact .inr ⟨⟨t, h4⟩, fun o => by rw [o.2 Ls RL] at h2; cases h2⟩
end Fw
set_option maxHeartbeats 2000000
namespace Fw
open PySem PySem.Spec PyProof.Rows L2
/-! placements that are reached in so many moves, and how many there can be -/
inductive Rb (n : Int) (D : List (Int × Int)) : Nat → List (Str × Int) → List (Str × Int) → Prop
  | zero {P : List (Str × Int)} : Rb n D 0 P P
  | step {k : Nat} {P Q : List (Str × Int)} {a : Str} {r : Int} : Rb n D k P Q → (a, r) ∈ mvs n D Q Q → Rb n D (k + 1) P (mvd Q a r)
section
variable {n : Int} {D : List (Int × Int)} {P Q R : List (Str × Int)} {k : Nat}
theorem Rb.names (h : Rb n D k P R) : R.map (·.1) = P.map (·.1) := by
  induction h with
  | zero => rfl
  | step _ _ ih => rw [mvd_names, ih]
/-- the rooms with somebody in them only become fewer -/
theorem Rb.rooms (h : Rb n D k P R) {r : Int} (m : r ∈ R.map (·.2)) : r ∈ P.map (·.2) := by
  induction h with
  | zero => exact m
  | step _ ma ih =>
    obtain ⟨c, _, _, ht⟩ := mvs_mem ma
    obtain ⟨x, hx, e⟩ := List.mem_map.mp m
    obtain ⟨y, hy, e'⟩ := List.mem_map.mp hx
    subst e'
    dsimp only at e
    split at e
    · exact ih (e ▸ ht)
    · exact ih (e ▸ List.mem_map_of_mem (f := (·.2)) hy)
theorem Rb.pl (h : Rb n D k P R) (pl : Pl n P) : Pl n R := by
  refine ⟨by rw [h.names]; exact pl.nm, fun x hx => ?_⟩
  obtain ⟨y, hy, e⟩ := List.mem_map.mp (h.rooms (List.mem_map_of_mem (f := (·.2)) hx))
  rw [← e]
  exact pl.rm y hy
end
/-- all placements of these people in n rooms -/
def allP (n : Nat) : List Str → List (List (Str × Int))
  | [] => [[]]
  | z :: zs => (List.range n).flatMap fun r : Nat => (allP n zs).map fun R => (z, Int.ofNat r) :: R
theorem sum_const {α : Type} (m : Nat) : ∀ xs : List α, (xs.map fun _ => m).sum = xs.length * m
  | [] => by simp
  | x :: xs => by rw [List.map_cons, List.sum_cons, sum_const m xs, List.length_cons, Nat.succ_mul, Nat.add_comm]
theorem allP_len (n : Nat) : ∀ zs, (allP n zs).length = n ^ zs.length
  | [] => rfl
  | z :: zs => by
    unfold allP
    rw [List.length_flatMap]
    simp only [List.length_map, allP_len n zs]
    rw [sum_const, List.length_range, List.length_cons, Nat.pow_succ, Nat.mul_comm]
theorem allP_mem {n : Int} : ∀ {R : List (Str × Int)}, (∀ x ∈ R, 0 ≤ x.2 ∧ x.2 < n) → R ∈ allP n.toNat (R.map (·.1))
  | [], _ => List.mem_singleton.mpr rfl
  | x :: R, h => by
    have hx := h x (List.mem_cons_self ..)
    have ih := allP_mem fun y hy => h y (List.mem_cons_of_mem _ hy)
    refine List.mem_flatMap.mpr ⟨x.2.toNat, List.mem_range.mpr (by omega), List.mem_map.mpr ⟨R, ih, ?_⟩⟩
    rw [show Int.ofNat x.2.toNat = x.2 from Int.toNat_of_nonneg hx.1]
theorem len_in {α : Type} [DecidableEq α] : ∀ {xs ys : List α}, xs.Nodup → (∀ x ∈ xs, x ∈ ys) → xs.length ≤ ys.length
  | [], _, _, _ => Nat.zero_le _
  | x :: xs, ys, nd, h => by
    have nd := List.nodup_cons.mp nd
    have i := len_in (xs := xs) (ys := ys.erase x) nd.2 fun y hy => (List.mem_erase_of_ne (show y ≠ x from fun e => nd.1 (e ▸ hy))).mpr (h y (List.mem_cons_of_mem _ hy))
    have e := List.length_erase_of_mem (h x (List.mem_cons_self ..))
    have p := List.length_pos_of_mem (h x (List.mem_cons_self ..))
    rw [List.length_cons]
    omega
/-- so many at most -/
theorem reached_few {n : Int} {P : List (Str × Int)} {Rs : List (List (Str × Int))} (nd : Rs.Nodup) (h : ∀ R ∈ Rs, R.map (·.1) = P.map (·.1) ∧ Pl n R) : Rs.length ≤ n.toNat ^ P.length := by
  have := len_in (ys := allP n.toNat (P.map (·.1))) nd fun R hR => by
    have m := allP_mem (h R hR).2.rm
    rwa [(h R hR).1] at m
  rwa [allP_len, List.length_map] at this
/-- the fewest moves -/
def Few (n : Int) (D : List (Int × Int)) (k : Nat) (P R : List (Str × Int)) : Prop := Rb n D k P R ∧ ∀ i, i < k → ¬ Rb n D i P R
section
variable {n : Int} {D : List (Int × Int)} {P R : List (Str × Int)}
theorem few_of : ∀ {k : Nat}, Rb n D k P R → ∃ j, j ≤ k ∧ Few n D j P R := by
  intro k
  induction k using Nat.strongRecOn with
  | ind k ih =>
    intro h
    by_cases z : ∃ i, i < k ∧ Rb n D i P R
    · obtain ⟨i, hi, hr⟩ := z
      obtain ⟨j, hj, f⟩ := ih i hi hr
      exact ⟨j, by omega, f⟩
    · exact ⟨k, Nat.le_refl _, h, fun i hi hr => z ⟨i, hi, hr⟩⟩
theorem few_one {j k : Nat} (h : Few n D j P R) (g : Few n D k P R) : j = k := by
  rcases Nat.lt_trichotomy j k with l | l | l
  · exact absurd h.1 (g.2 j l)
  · exact l
  · exact absurd g.1 (h.2 k l)
/-- the next layer comes from this one -/
theorem few_step {k : Nat} (h : Few n D (k + 1) P R) : ∃ Q a r, Few n D k P Q ∧ (a, r) ∈ mvs n D Q Q ∧ R = mvd Q a r := by
  obtain ⟨h1, h2⟩ := h
  cases h1 with
  | step hq m => exact ⟨_, _, _, ⟨hq, fun i hi hr => h2 (i + 1) (by omega) (hr.step m)⟩, m, rfl⟩
/-- what is one move from this layer is in the next one or was there -/
theorem few_next {k : Nat} {Q : List (Str × Int)} {a : Str} {r : Int} (h : Few n D k P Q) (m : (a, r) ∈ mvs n D Q Q) : Few n D (k + 1) P (mvd Q a r) ∨ ∃ j, j ≤ k ∧ Few n D j P (mvd Q a r) := by
  obtain ⟨j, hj, f⟩ := few_of (h.1.step m)
  by_cases e : j = k + 1
  · exact .inl (e ▸ f)
  · exact .inr ⟨j, by omega, f⟩
/-- an empty layer is the end -/
theorem few_end {k : Nat} (h : ∀ Q, ¬ Few n D k P Q) : ∀ {j : Nat} {R : List (Str × Int)}, Rb n D j P R → ∃ i, i < k ∧ Rb n D i P R := by
  intro j
  induction j with
  | zero =>
    intro R hr
    cases hr
    cases k with
    | zero => exact absurd ⟨.zero, fun i hi => absurd hi (Nat.not_lt_zero _)⟩ (h P)
    | succ k => exact ⟨0, Nat.succ_pos _, .zero⟩
  | succ j ih =>
    intro R hr
    cases hr with
    | step hq m =>
      obtain ⟨i, hi, hr⟩ := ih hq
      by_cases e : i + 1 < k
      · exact ⟨i + 1, e, hr.step m⟩
      · have e : i + 1 = k := by omega
        obtain ⟨j', hj, f⟩ := few_of (hr.step m)
        by_cases z : j' = k
        · exact absurd (z ▸ f) (h _)
        · exact ⟨j', by omega, f.1⟩
end
/-- the search between two rounds: all within r moves are found, the edge is what takes r -/
structure Lay (n : Int) (D : List (Int × Int)) (P : List (Str × Int)) (r : Nat) (ks : List (List (Str × Int) × V)) (E : List (List (Str × Int))) : Prop where
  nd : (ks.map (·.1)).Nodup
  vl : ∀ p ∈ ks, ∃ j : Nat, p.2 = .int j ∧ Few n D j P p.1
  me : ∀ R, R ∈ ks.map (·.1) ↔ ∃ j, j ≤ r ∧ Few n D j P R
  ed : ∀ R, R ∈ E ↔ Few n D r P R
/-- the search within a round: S are the placements that were looked at -/
structure Mdl (n : Int) (D : List (Int × Int)) (P : List (Str × Int)) (r : Nat) (ks : List (List (Str × Int) × V)) (N S : List (List (Str × Int))) : Prop where
  nd : (ks.map (·.1)).Nodup
  vl : ∀ p ∈ ks, ∃ j : Nat, p.2 = .int j ∧ Few n D j P p.1
  ol : ∀ R j, j ≤ r → Few n D j P R → R ∈ ks.map (·.1)
  nw : ∀ R ∈ ks.map (·.1), (∃ j, j ≤ r ∧ Few n D j P R) ∨ R ∈ N
  nn : ∀ R ∈ N, Few n D (r + 1) P R ∧ R ∈ ks.map (·.1)
  se : ∀ T ∈ S, T ∈ ks.map (·.1)
section
variable {n : Int} {D : List (Int × Int)} {P : List (Str × Int)} {r : Nat} {ks : List (List (Str × Int) × V)} {E N S : List (List (Str × Int))}
theorem Lay.start : Lay n D P 0 [(P, .int 0)] [P] := by
  have z : Few n D 0 P P := ⟨.zero, fun i hi => absurd hi (Nat.not_lt_zero _)⟩
  have one : ∀ R, Few n D 0 P R → R = P := fun R h => by
    obtain ⟨h, _⟩ := h
    cases h
    rfl
  refine ⟨by simp, fun p hp => ?_, fun R => ⟨fun m => ?_, fun ⟨j, hj, f⟩ => ?_⟩, fun R => ⟨fun m => ?_, fun f => ?_⟩⟩
  · rw [List.mem_singleton.mp hp]; exact ⟨0, rfl, z⟩
  · rw [List.mem_singleton.mp m]; exact ⟨0, Nat.le_refl _, z⟩
  · obtain rfl : j = 0 := by omega
    exact List.mem_singleton.mpr (one R f)
  · rw [List.mem_singleton.mp m]; exact z
  · exact List.mem_singleton.mpr (one R f)
theorem Lay.mid (h : Lay n D P r ks E) : Mdl n D P r ks [] [] := ⟨h.nd, h.vl, fun R j hj f => (h.me R).mpr ⟨j, hj, f⟩, fun R m => .inl ((h.me R).mp m), fun R m => (nomatch m), fun T m => (nomatch m)⟩
theorem Mdl.skip (h : Mdl n D P r ks N S) {T : List (Str × Int)} (m : T ∈ ks.map (·.1)) : Mdl n D P r ks N (S ++ [T]) :=
  ⟨h.nd, h.vl, h.ol, h.nw, h.nn, fun R hR => (List.mem_append.mp hR).elim (h.se R) fun e => List.mem_singleton.mp e ▸ m⟩
theorem Mdl.add (h : Mdl n D P r ks N S) {Q : List (Str × Int)} {a : Str} {t : Int} (f : Few n D r P Q) (m : (a, t) ∈ mvs n D Q Q) (no : mvd Q a t ∉ ks.map (·.1)) : Mdl n D P r (ks ++ [(mvd Q a t, .int ((r + 1 : Nat) : Int))]) (N ++ [mvd Q a t]) (S ++ [mvd Q a t]) := by
  have g : Few n D (r + 1) P (mvd Q a t) := (few_next f m).elim id fun ⟨j, hj, f'⟩ => absurd (h.ol _ j hj f') no
  have up : ∀ {R : List (Str × Int)}, R ∈ ks.map (·.1) → R ∈ (ks ++ [(mvd Q a t, V.int ((r + 1 : Nat) : Int))]).map (·.1) := fun {R} hR => by rw [List.map_append]; exact List.mem_append_left _ hR
  have self : mvd Q a t ∈ (ks ++ [(mvd Q a t, V.int ((r + 1 : Nat) : Int))]).map (·.1) := by rw [List.map_append]; exact List.mem_append_right _ (List.mem_singleton.mpr rfl)
  refine ⟨?_, fun p hp => ?_, fun R j hj f' => up (h.ol R j hj f'), fun R hR => ?_, fun R hR => ?_, fun T hT => ?_⟩
  · rw [List.map_append, List.nodup_append]
    exact ⟨h.nd, List.pairwise_singleton _ _, fun x hx y hy e => no (by have z : y = mvd Q a t := List.mem_singleton.mp hy; rw [e, z] at hx; exact hx)⟩
  · rcases List.mem_append.mp hp with hp | hp
    · exact h.vl p hp
    · rw [List.mem_singleton.mp hp]; exact ⟨r + 1, rfl, g⟩
  · rw [List.map_append] at hR
    rcases List.mem_append.mp hR with hR | hR
    · exact (h.nw R hR).imp id (List.mem_append_left _)
    · exact .inr (List.mem_append_right _ hR)
  · rcases List.mem_append.mp hR with hR | hR
    · exact ⟨(h.nn R hR).1, up (h.nn R hR).2⟩
    · rw [List.mem_singleton.mp hR]; exact ⟨g, self⟩
  · rcases List.mem_append.mp hT with hT | hT
    · exact up (h.se T hT)
    · rw [List.mem_singleton.mp hT]; exact self
theorem Mdl.lay (h : Mdl n D P r ks N S) (all : ∀ Q a t, Few n D r P Q → (a, t) ∈ mvs n D Q Q → mvd Q a t ∈ S) : Lay n D P (r + 1) ks N := by
  have nx : ∀ R, Few n D (r + 1) P R → R ∈ ks.map (·.1) := fun R f => by
    obtain ⟨Q, a, t, fq, m, rfl⟩ := few_step f
    exact h.se _ (all Q a t fq m)
  refine ⟨h.nd, h.vl, fun R => ⟨fun m => ?_, fun ⟨j, hj, f⟩ => ?_⟩, fun R => ⟨fun m => (h.nn R m).1, fun f => ?_⟩⟩
  · rcases h.nw R m with ⟨j, hj, f⟩ | m
    · exact ⟨j, by omega, f⟩
    · exact ⟨r + 1, Nat.le_refl _, (h.nn R m).1⟩
  · by_cases e : j = r + 1
    · exact nx R (e ▸ f)
    · exact h.ol R j (by omega) f
  · rcases h.nw R (nx R f) with ⟨j, hj, f'⟩ | m
    · exact absurd (few_one f f') (by omega)
    · exact m
/-- the end of the search -/
theorem Lay.done (h : Lay n D P r ks []) {j : Nat} {R : List (Str × Int)} (hr : Rb n D j P R) : R ∈ ks.map (·.1) := by
  obtain ⟨i, hi, g⟩ := few_end (fun Q f => nomatch (h.ed Q).mpr f) hr
  obtain ⟨j', hj, f⟩ := few_of g
  exact (h.me R).mpr ⟨j', by omega, f⟩
end
end Fw
set_option maxHeartbeats 2000000
namespace Fw
open PySem PySem.Spec PyProof.Rows L2
/-! a loose region reaches every target inside it (math) -/
/-- where somebody wants to be -/
def tgt (G : List (Str × Int)) (nm : Str) : Int := ((G.find? fun y => decide (y.1 = nm)).map (·.2)).getD 0
theorem tgt_of {G : List (Str × Int)} {nm : Str} {t : Int} (nd : (G.map (·.1)).Nodup) (m : (nm, t) ∈ G) : tgt G nm = t := by
  unfold tgt
  cases e : G.find? fun y => decide (y.1 = nm) with
  | none =>
    have := List.find?_eq_none.mp e (nm, t) m
    simp at this
  | some y =>
    have h1 := List.mem_of_find?_eq_some e
    have h2 : y.1 = nm := of_decide_eq_true (p := y.1 = nm) (List.find?_some (p := fun y : Str × Int => decide (y.1 = nm)) e)
    exact congrArg Prod.snd (key_uniq nd h1 m h2)
/-- the people of some rooms at their targets, all others where they are -/
def brt (P G : List (Str × Int)) (C : List Int) : List (Str × Int) := P.map fun x => (x.1, if x.2 ∈ C then tgt G x.1 else x.2)
theorem brt_names (P G : List (Str × Int)) (C : List Int) : (brt P G C).map (·.1) = P.map (·.1) := by
  unfold brt
  rw [List.map_map]
  exact List.map_congr_left fun _ _ => rfl
/-- one is reached from the other -/
def Rch (n : Int) (D : List (Int × Int)) (P Q : List (Str × Int)) : Prop := ∃ X, Runs n D P X Q
theorem Rch.refl {n : Int} {D : List (Int × Int)} (P : List (Str × Int)) : Rch n D P P := ⟨_, .nil P⟩
theorem Rch.trans {n : Int} {D : List (Int × Int)} {P Q R : List (Str × Int)} (h : Rch n D P Q) (k : Rch n D Q R) : Rch n D P R := by
  obtain ⟨X, h⟩ := h
  obtain ⟨Y, k⟩ := k
  exact ⟨_, h.app k⟩
/-- connected occupied rooms with all occupied ones beside them -/
structure Cl (D : List (Int × Int)) (P : List (Str × Int)) (C : List Int) : Prop where
  up : C.Pairwise (· < ·)
  occ : ∀ r ∈ C, r ∈ P.map (·.2)
  con : ∀ a ∈ C, ∀ b ∈ C, Wk D C a b
  cl : ∀ v ∈ C, ∀ o, adj D v o → o ∈ P.map (·.2) → o ∈ C
/-- two placements of the same people, who differ within some rooms -/
structure Mt (P G : List (Str × Int)) (C : List Int) : Prop where
  nm : P.map (·.1) = G.map (·.1)
  inn : ∀ nm c t, (nm, c) ∈ P → (nm, t) ∈ G → (c ∈ C ↔ t ∈ C)
  off : ∀ nm c t, (nm, c) ∈ P → (nm, t) ∈ G → c ∉ C → t = c
theorem pl_eq : ∀ {P G : List (Str × Int)}, P.map (·.1) = G.map (·.1) → (G.map (·.1)).Nodup → (∀ x ∈ P, x ∈ G) → P = G
  | [], [], _, _, _ => rfl
  | [], _ :: _, e, _, _ => by cases e
  | _ :: _, [], e, _, _ => by cases e
  | x :: P, y :: G, e, nd, h => by
    rw [List.map_cons, List.map_cons] at e
    injection e with e1 e2
    obtain rfl : x = y := key_uniq nd (h x (List.mem_cons_self ..)) (List.mem_cons_self ..) e1
    rw [List.map_cons, List.nodup_cons] at nd
    rw [pl_eq e2 nd.2 fun z hz => ?_]
    rcases List.mem_cons.mp (h z (List.mem_cons_of_mem _ hz)) with q | q
    · refine absurd ?_ nd.1
      rw [← e2, ← q]
      exact List.mem_map_of_mem (f := (·.1)) hz
    · exact q
theorem mvd_mem {P : List (Str × Int)} {nm : Str} {t : Int} {y : Str × Int} (h : y ∈ mvd P nm t) : ∃ x ∈ P, y.1 = x.1 ∧ ((x.1 = nm ∧ y.2 = t) ∨ (x.1 ≠ nm ∧ y = x)) := by
  obtain ⟨x, hx, rfl⟩ := List.mem_map.mp h
  refine ⟨x, hx, rfl, ?_⟩
  by_cases e : x.1 = nm
  · exact .inl ⟨e, by simp [e]⟩
  · exact .inr ⟨e, by simp [e]⟩
section
variable {n : Int} {D : List (Int × Int)} {P G : List (Str × Int)} {C : List Int}
theorem Cl.isC (h : Cl D P C) (pl : Pl n P) {s : Int} (hs : s ∈ C) : IsC D (Fw.occ n P) s C := by
  refine ⟨h.up, fun v => ⟨fun m => (h.con s hs v m).mono fun x hx => pl.mem_occ.mpr (h.occ x hx), fun w => ?_⟩⟩
  induction w with
  | base => exact hs
  | step _ ad mo ih => exact h.cl _ ih _ ad (pl.mem_occ.mp mo)
theorem Cl.wk (h : Cl D P C) {a b : Int} (ha : a ∈ C) (hb : b ∈ C) : Wk D (P.map (·.2)) a b := (h.con a ha b hb).mono h.occ
theorem Cl.of {P' : List (Str × Int)} (h : Cl D P C) (e : ∀ r, r ∈ P'.map (·.2) ↔ r ∈ P.map (·.2)) : Cl D P' C :=
  ⟨h.up, fun r hr => (e r).mpr (h.occ r hr), h.con, fun v hv o ad mo => h.cl v hv o ad ((e o).mp mo)⟩
theorem Cl.rng (h : Cl D P C) (pl : Pl n P) : ∀ r ∈ C, 0 ≤ r ∧ r < n := fun r hr => by
  obtain ⟨x, hx, e⟩ := List.mem_map.mp (h.occ r hr)
  rw [← e]
  exact pl.rm x hx
theorem Mt.step (m : Mt P G C) (nd : (P.map (·.1)).Nodup) {a : Str} {r t : Int} (ma : (a, r) ∈ P) (hr : r ∈ C) (ht : t ∈ C) : Mt (mvd P a t) G C := by
  refine ⟨by rw [mvd_names]; exact m.nm, fun nm c u h k => ?_, fun nm c u h k no => ?_⟩
  · obtain ⟨x, hx, e, z⟩ := mvd_mem h
    have e : nm = x.1 := e
    rcases z with ⟨z1, z2⟩ | ⟨z1, z2⟩
    · have z2 : c = t := z2
      have ea : x = (a, r) := key_uniq nd hx ma z1
      rw [e, ea] at k
      have := m.inn _ _ _ ma k
      rw [z2]
      exact ⟨fun _ => this.mp hr, fun _ => ht⟩
    · rw [← z2] at hx
      exact m.inn _ _ _ hx k
  · obtain ⟨x, hx, e, z⟩ := mvd_mem h
    rcases z with ⟨z1, z2⟩ | ⟨z1, z2⟩
    · have z2 : c = t := z2
      exact absurd (z2 ▸ ht) no
    · rw [← z2] at hx
      exact m.off _ _ _ hx k no
theorem Mt.symm (m : Mt P G C) : Mt G P C := by
  refine ⟨m.nm.symm, fun nm c t h k => (m.inn nm t c k h).symm, fun nm c t h k no => ?_⟩
  exact (m.off nm t c k h fun z => no ((m.inn nm t c k h).mp z)).symm
theorem mvd_inside (nd : (P.map (·.1)).Nodup) {a : Str} {r t : Int} (ma : (a, r) ∈ P) (hr : r ∈ C) (ht : t ∈ C) : inside (mvd P a t) C = inside P C := by
  unfold inside mvd
  rw [List.filter_map, List.map_map]
  rw [List.filter_congr (q := fun x : Str × Int => decide (x.2 ∈ C)) fun x hx => ?_]
  · exact List.map_congr_left fun _ _ => rfl
  · show decide ((if x.1 = a then t else x.2) ∈ C) = decide (x.2 ∈ C)
    by_cases c : x.1 = a
    · have e : x = (a, r) := key_uniq nd hx ma c
      rw [if_pos c, e]
      exact decide_eq_decide.mpr ⟨fun _ => hr, fun _ => ht⟩
    · rw [if_neg c]
theorem mem_insC {a : Str} {C : List Int} : a ∈ inside P C ↔ ∃ r, (a, r) ∈ P ∧ r ∈ C := by
  unfold inside
  constructor
  · intro h
    obtain ⟨x, hx, rfl⟩ := List.mem_map.mp h
    obtain ⟨h1, h2⟩ := List.mem_filter.mp hx
    exact ⟨x.2, h1, of_decide_eq_true h2⟩
  · rintro ⟨r, h1, h2⟩
    exact List.mem_map.mpr ⟨(a, r), List.mem_filter.mpr ⟨h1, decide_eq_true h2⟩, rfl⟩
theorem ins_nodup (nd : (P.map (·.1)).Nodup) : (inside P C).Nodup := (List.filter_sublist.map _).nodup nd
theorem Mt.len (m : Mt P G C) (nd : (P.map (·.1)).Nodup) : (inside P C).length ≤ (inside G C).length := by
  refine subset_len (ins_nodup nd) fun a ha => ?_
  obtain ⟨r, h1, h2⟩ := mem_insC.mp ha
  have : a ∈ G.map (·.1) := by rw [← m.nm]; exact List.mem_map_of_mem (f := (·.1)) h1
  obtain ⟨y, hy, e⟩ := List.mem_map.mp this
  have hy : (a, y.2) ∈ G := by rw [← e]; exact hy
  exact mem_insC.mpr ⟨y.2, hy, (m.inn _ _ _ h1 hy).mp h2⟩
/-- who leaves others behind leaves no room empty -/
theorem rooms_stay (nd : (P.map (·.1)).Nodup) {a : Str} {r t : Int} (ma : (a, r) ∈ P) (hx : ∃ x ∈ P, x.1 ≠ a ∧ x.2 = r) (ht : t ∈ P.map (·.2)) (v : Int) : v ∈ (mvd P a t).map (·.2) ↔ v ∈ P.map (·.2) := by
  refine ⟨mvd_rooms ht, fun h => ?_⟩
  obtain ⟨x0, h0, n0, e0⟩ := hx
  obtain ⟨x, hx, e⟩ := List.mem_map.mp h
  by_cases c : x.1 = a
  · have : x = (a, r) := key_uniq nd hx ma c
    rw [← e, this]
    exact List.mem_map.mpr ⟨x0, mvd_other h0 n0, e0⟩
  · exact List.mem_map.mpr ⟨x, mvd_other hx c, e⟩
/-- somebody walks within the region -/
theorem home_runs (hF : Forest n D) (pl : Pl n P) (cl : Cl D P C) {a : Str} {r t : Int} (ma : (a, r) ∈ P) (hr : r ∈ C) (ht : t ∈ C) : Rch n D P (mvd P a t) := by
  obtain ⟨p, hp, _⟩ := (cl.wk hr ht).within
  refine ⟨_, hp.runs hF pl.nodup ma fun u hu => ?_⟩
  obtain ⟨x, hx, e⟩ := List.mem_map.mp ((cl.wk hr ht).path hF hp u hu)
  refine ⟨x, hx, fun c => ?_, e⟩
  have : x = (a, r) := key_uniq pl.nodup hx ma c
  rw [this] at e
  have e : r = u := e
  exact hp.off (e ▸ hu)
/-- how many are astray -/
def asty (P G : List (Str × Int)) : Nat := P.countP fun x => decide (x ∉ G)
theorem mvd_count {f : Str × Int → Bool} {a : Str} {r t : Int} (nd : (P.map (·.1)).Nodup) (ma : (a, r) ∈ P) (h1 : f (a, r) = true) (h2 : f (a, t) = false) : (mvd P a t).countP f < P.countP f := by
  unfold mvd
  rw [List.countP_map]
  refine countP_lt (x := (a, r)) (fun y hy h => ?_) ma h1 ?_
  · by_cases c : y.1 = a
    · rw [show y = (a, r) from key_uniq nd hy ma c]
      exact h1
    · have h : f (y.1, if y.1 = a then t else y.2) = true := h
      rw [if_neg c] at h
      exact h
  · show f (a, if a = a then t else r) = false
    rw [if_pos rfl]
    exact h2
theorem mvd_countle {f : Str × Int → Bool} {a : Str} {r t : Int} (nd : (P.map (·.1)).Nodup) (ma : (a, r) ∈ P) (h1 : f (a, r) = true) : (mvd P a t).countP f ≤ P.countP f := by
  unfold mvd
  rw [List.countP_map]
  refine List.countP_mono_left fun y hy h => ?_
  by_cases c : y.1 = a
  · rw [show y = (a, r) from key_uniq nd hy ma c]
    exact h1
  · have h : f (y.1, if y.1 = a then t else y.2) = true := h
    rw [if_neg c] at h
    exact h
/-- from one placement without empty rooms to another one -/
theorem arr_runs (hF : Forest n D) (plG : Pl n G) (fG : ∀ r ∈ C, r ∈ G.map (·.2)) : ∀ k P, asty P G ≤ k → Pl n P → Cl D P C → Mt P G C → C.length < (inside P C).length → Rch n D P G := by
  intro k
  induction k with
  | zero =>
    intro P h _ _ mt _
    have h0 : P.countP (fun x => decide (x ∉ G)) = 0 := Nat.le_zero.mp h
    rw [List.countP_eq_zero] at h0
    rw [pl_eq mt.nm plG.nodup fun x hx => ?_]
    · exact Rch.refl G
    · have := h0 x hx
      simpa using this
  | succ k ih =>
    intro P h pl cl mt lo
    have nd := pl.nodup
    by_cases al : ∀ x ∈ P, x ∈ G
    · rw [pl_eq mt.nm plG.nodup al]
      exact Rch.refl G
    -- who is astray
    have goal : ∀ {a : Str} {r : Int}, (a, r) ∈ P → (a, r) ∉ G → ∃ t, (a, t) ∈ G ∧ t ≠ r ∧ r ∈ C ∧ t ∈ C := fun {a r} ma no => by
      have : a ∈ G.map (·.1) := by rw [← mt.nm]; exact List.mem_map_of_mem (f := (·.1)) ma
      obtain ⟨y, hy, e⟩ := List.mem_map.mp this
      have hy : (a, y.2) ∈ G := by rw [← e]; exact hy
      have ne : y.2 ≠ r := fun e => no (e ▸ hy)
      have rC : r ∈ C := Classical.byContradiction fun z => ne (mt.off _ _ _ ma hy z)
      exact ⟨y.2, hy, ne, rC, (mt.inn _ _ _ ma hy).mp rC⟩
    by_cases sh : ∃ a r, (a, r) ∈ P ∧ (a, r) ∉ G ∧ 1 < (inside P [r]).length
    · obtain ⟨a, r, ma, no, l1⟩ := sh
      obtain ⟨t, mt', ne, rC, tC⟩ := goal ma no
      have rr := rooms_stay nd ma (another nd a l1) (cl.occ t tC)
      have tr := cl.rng pl t tC
      refine (home_runs hF pl cl ma rC tC).trans (ih _ ?_ (pl.mvd tr.1 tr.2) (cl.of rr) (mt.step nd ma rC tC) ?_)
      · have : asty (mvd P a t) G < asty P G := mvd_count nd ma (decide_eq_true no) (decide_eq_false fun z => z mt')
        omega
      · rw [mvd_inside nd ma rC tC]
        exact lo
    · have alone : ∀ {a : Str} {r : Int}, (a, r) ∈ P → (a, r) ∉ G → ¬ 1 < (inside P [r]).length := fun ma no l => sh ⟨_, _, ma, no, l⟩
      obtain ⟨x, hx, no⟩ : ∃ x ∈ P, x ∉ G := Classical.byContradiction fun z => al fun x hx => Classical.byContradiction fun y => z ⟨x, hx, y⟩
      obtain ⟨a, ra⟩ := x
      obtain ⟨ta, mta, nea, raC, taC⟩ := goal hx no
      obtain ⟨y, hy, e⟩ := List.mem_map.mp (fG ra raC)
      have mb' : (y.1, ra) ∈ G := by rw [← e]; exact hy
      have : y.1 ∈ P.map (·.1) := by rw [mt.nm]; exact List.mem_map_of_mem (f := (·.1)) hy
      obtain ⟨z, hz, ez⟩ := List.mem_map.mp this
      generalize hb : y.1 = b at mb' ez
      have mb : (b, z.2) ∈ P := by rw [← ez]; exact hz
      generalize hrb : z.2 = rb at mb
      have nab : a ≠ b := fun e => nea (congrArg Prod.snd (key_uniq plG.nodup mta mb' e))
      have ne : ra ≠ rb := fun e => alone hx no (by
        have h1 : a ∈ inside P [ra] := mem_ins1.mpr hx
        have h2 : b ∈ inside P [ra] := mem_ins1.mpr (e ▸ mb)
        match q : inside P [ra], h1, h2 with
        | [u], h1, h2 => exact absurd ((List.mem_singleton.mp h1).trans (List.mem_singleton.mp h2).symm) nab
        | _ :: _ :: _, _, _ => simp)
      have nob : (b, rb) ∉ G := fun m => ne (congrArg Prod.snd (key_uniq plG.nodup mb' m rfl))
      have rbC : rb ∈ C := (mt.inn _ _ _ mb mb').mpr raC
      have na : a ∉ shr P C := fun m => by
        obtain ⟨r, h1, _, h3⟩ := mem_shr.mp m
        have : ra = r := congrArg Prod.snd (key_uniq nd hx h1 rfl)
        exact alone hx no (this ▸ h3)
      have nb : b ∉ shr P C := fun m => by
        obtain ⟨r, h1, _, h3⟩ := mem_shr.mp m
        have : rb = r := congrArg Prod.snd (key_uniq nd mb h1 rfl)
        exact alone mb nob (this ▸ h3)
      obtain ⟨c, hc⟩ := List.exists_mem_of_ne_nil _ (shr_some lo)
      obtain ⟨rc, mc, rcC, lc⟩ := mem_shr.mp hc
      obtain ⟨p, hp, _⟩ := (cl.wk raC rbC).within
      obtain ⟨q, hq, _⟩ := (cl.wk rbC raC).within
      obtain ⟨u, hu, _⟩ := (cl.wk rcC raC).within
      obtain ⟨v, hv, _⟩ := (cl.wk raC rcC).within
      have X : Xch D P C a ra b rb (go c u ++ go a p ++ go b q ++ go c v) := .inr ⟨ne, p, q, hp, hq, .inr (.inr ⟨na, nb, c, rc, u, v, mc, hc, hu, hv, rfl⟩)⟩
      have R := X.runs hF pl hx mb (cl.isC pl raC) (cl.wk raC rbC)
      have g1 := cl.rng pl ra raC
      have g2 := cl.rng pl rb rbC
      have pl1 := pl.mvd (nm := a) g2.1 g2.2
      have nd1 := pl1.nodup
      have mb1 : (b, rb) ∈ mvd P a rb := mvd_other mb nab.symm
      have rr : ∀ w, w ∈ (mvd (mvd P a rb) b ra).map (·.2) ↔ w ∈ P.map (·.2) := fun w => by
        constructor
        · intro h
          obtain ⟨x, hx', e⟩ := List.mem_map.mp h
          obtain ⟨x1, k1, _, k2⟩ := mvd_mem hx'
          rcases k2 with ⟨_, k2⟩ | ⟨_, k2⟩
          · rw [← e, k2]; exact cl.occ ra raC
          · rw [← k2] at k1
            obtain ⟨x2, j1, _, j2⟩ := mvd_mem k1
            rcases j2 with ⟨_, j2⟩ | ⟨_, j2⟩
            · rw [← e, j2]; exact cl.occ rb rbC
            · rw [← e, j2]; exact List.mem_map_of_mem (f := (·.2)) j1
        · intro h
          obtain ⟨x, hx', e⟩ := List.mem_map.mp h
          by_cases ea : x.1 = a
          · have : x = (a, ra) := key_uniq nd hx' hx ea
            rw [← e, this]
            exact List.mem_map_of_mem (f := (·.2)) (mvd_self mb1)
          · by_cases eb : x.1 = b
            · have : x = (b, rb) := key_uniq nd hx' mb eb
              rw [← e, this]
              exact List.mem_map_of_mem (f := (·.2)) (mvd_other (mvd_self hx) nab)
            · rw [← e]
              exact List.mem_map_of_mem (f := (·.2)) (mvd_other (mvd_other hx' ea) eb)
      refine Rch.trans ⟨_, R⟩ (ih _ ?_ (pl1.mvd g1.1 g1.2) (cl.of rr) ((mt.step nd hx raC rbC).step nd1 mb1 rbC raC) ?_)
      · have h1 : asty (mvd P a rb) G ≤ asty P G := mvd_countle nd hx (decide_eq_true no)
        have h2 : asty (mvd (mvd P a rb) b ra) G < asty (mvd P a rb) G := mvd_count nd1 mb1 (decide_eq_true nob) (decide_eq_false fun z => z mb')
        omega
      · rw [mvd_inside nd1 mb1 rbC raC, mvd_inside nd hx raC rbC]
        exact lo
/-- the first room without people on a way -/
theorem first_out {O : List Int} {g : Int} (hO : ∀ x, x ∈ O → x ∈ C) (hg : g ∈ O) {v : Int} (w : Wk D C g v) : (Wk D O g v ∧ v ∈ O) ∨ ∃ v o, Wk D O g v ∧ v ∈ O ∧ adj D v o ∧ o ∈ C ∧ o ∉ O := by
  induction w with
  | base => exact .inl ⟨.base, hg⟩
  | @step v o _ ad mo ih =>
    rcases ih with ⟨h1, h2⟩ | h
    · by_cases z : o ∈ O
      · exact .inl ⟨.step h1 ad z, z⟩
      · exact .inr ⟨v, o, h1, h2, ad, mo, z⟩
    · exact .inr h
/-- one step back: somebody who is not alone comes from an empty room -/
theorem grow_step (hF : Forest n D) (pl : Pl n G) {O : List Int} (hO : ∀ x, x ∈ O → x ∈ G.map (·.2)) {k : Str} {g o : Int} (mk : (k, g) ∈ G) (l1 : 1 < (inside G [g]).length) (no : o ∉ G.map (·.2)) (w : Wk D O o g) : ∃ p, SP (adj D) o g p ∧ Runs n D (mvd G k o) (go k p) G := by
  obtain ⟨p, hp, ins⟩ := w.within
  have nd := pl.nodup
  refine ⟨p, hp, ?_⟩
  have := hp.runs (P := mvd G k o) (nm := k) hF (by rw [mvd_names]; exact nd) (mvd_self mk) fun t ht => by
    have to : t ≠ o := fun e => hp.off (e ▸ ht)
    have tO : t ∈ O := (ins t (List.mem_of_mem_tail ht)).resolve_left to
    obtain ⟨x, hx, e⟩ := List.mem_map.mp (hO t tO)
    by_cases c : x.1 = k
    · obtain ⟨x0, h0, n0, e0⟩ := another nd k l1
      have : x = (k, g) := key_uniq nd hx mk c
      rw [this] at e
      exact ⟨x0, mvd_other h0 n0, n0, e0.trans e⟩
    · exact ⟨x, mvd_other hx c, c, e⟩
  rw [mvd_twice, mvd_stay nd mk] at this
  exact this
theorem grow_runs (hF : Forest n D) (up : C.Pairwise (· < ·)) (con : ∀ a ∈ C, ∀ b ∈ C, Wk D C a b) (rng : ∀ r ∈ C, 0 ≤ r ∧ r < n) (pl : Pl n P) : ∀ k G, (C.countP fun r => decide (r ∉ G.map (·.2))) ≤ k → Pl n G → Mt P G C → C.length < (inside G C).length → ∃ G', Pl n G' ∧ Mt P G' C ∧ (∀ r ∈ C, r ∈ G'.map (·.2)) ∧ Rch n D G' G := by
  intro k
  induction k with
  | zero =>
    intro G h plG mt _
    have h0 := List.countP_eq_zero.mp (Nat.le_zero.mp h)
    exact ⟨G, plG, mt, fun r hr => by simpa using h0 r hr, Rch.refl G⟩
  | succ k ih =>
    intro G h plG mt lo
    by_cases al : ∀ r ∈ C, r ∈ G.map (·.2)
    · exact ⟨G, plG, mt, al, Rch.refl G⟩
    obtain ⟨e, eC, ne⟩ : ∃ e ∈ C, e ∉ G.map (·.2) := Classical.byContradiction fun z => al fun x hx => Classical.byContradiction fun y => z ⟨x, hx, y⟩
    obtain ⟨c, hc⟩ := List.exists_mem_of_ne_nil _ (shr_some lo)
    obtain ⟨g, mc, gC, lc⟩ := mem_shr.mp hc
    let O := C.filter fun r => decide (r ∈ G.map (·.2))
    have mO : ∀ x, x ∈ O ↔ x ∈ C ∧ x ∈ G.map (·.2) := fun x => by
      show x ∈ C.filter _ ↔ _
      rw [List.mem_filter]
      exact and_congr Iff.rfl ⟨fun z => of_decide_eq_true z, fun z => decide_eq_true z⟩
    have gO : g ∈ O := (mO g).mpr ⟨gC, List.mem_map_of_mem (f := (·.2)) mc⟩
    rcases first_out (fun x hx => ((mO x).mp hx).1) gO (con g gC e eC) with ⟨_, z⟩ | ⟨v, o, w, vO, ad, oC, noO⟩
    · exact absurd ((mO e).mp z).2 ne
    have no : o ∉ G.map (·.2) := fun z => noO ((mO o).mpr ⟨oC, z⟩)
    have w' : Wk D O o g := (Wk.step .base (adj_symm ad) vO).trans (w.symm gO)
    obtain ⟨p, _, R⟩ := grow_step hF plG (fun x hx => ((mO x).mp hx).2) mc lc no w'
    have nd := plG.nodup
    have ro := rng o oC
    have keep : ∀ x, x ∈ G.map (·.2) → x ∈ (mvd G c o).map (·.2) := fun x hx => by
      obtain ⟨y, hy, e⟩ := List.mem_map.mp hx
      by_cases q : y.1 = c
      · obtain ⟨x0, h0, n0, e0⟩ := another nd c lc
        have : y = (c, g) := key_uniq nd hy mc q
        rw [this] at e
        exact List.mem_map.mpr ⟨x0, mvd_other h0 n0, e0.trans e⟩
      · exact List.mem_map.mpr ⟨y, mvd_other hy q, e⟩
    have new : o ∈ (mvd G c o).map (·.2) := List.mem_map_of_mem (f := (·.2)) (mvd_self mc)
    obtain ⟨G', h1, h2, h3, h4⟩ := ih (mvd G c o) (by
      have : (C.countP fun r => decide (r ∉ (mvd G c o).map (·.2))) < C.countP fun r => decide (r ∉ G.map (·.2)) :=
        countP_lt (x := o) (fun y _ hy => decide_eq_true fun z => of_decide_eq_true hy (keep y z)) oC (decide_eq_true no) (decide_eq_false fun z => z new)
      omega) (plG.mvd ro.1 ro.2) (mt.symm.step nd mc gC oC).symm (by rw [mvd_inside nd mc gC oC]; exact lo)
    exact ⟨G', h1, h2, h3, h4.trans ⟨_, R⟩⟩
/-- a loose region reaches every target inside it -/
theorem loose_rch (hF : Forest n D) (pl : Pl n P) (plG : Pl n G) (cl : Cl D P C) (mt : Mt P G C) (lo : C.length < (inside P C).length) : Rch n D P G := by
  obtain ⟨G', h1, h2, h3, h4⟩ := grow_runs hF cl.up cl.con (cl.rng pl) pl _ G (Nat.le_refl _) plG mt (Nat.lt_of_lt_of_le lo (mt.len pl.nodup))
  exact (arr_runs hF h1 h3 _ P (Nat.le_refl _) pl cl h2 lo).trans h4
end
end Fw
set_option maxHeartbeats 2000000
namespace Fw
open PySem PySem.Spec PyProof.Rows L2
/-! regions one after another; solvable pieces can be solved (math) -/
/-- the same people in these rooms -/
def Agr (P P' : List (Str × Int)) (C : List Int) : Prop := ∀ nm c, c ∈ C → ((nm, c) ∈ P ↔ (nm, c) ∈ P')
/-- the people of these rooms can be brought to their targets, whatever the others do -/
def Can (n : Int) (D : List (Int × Int)) (P G : List (Str × Int)) (C : List Int) : Prop :=
  ∀ P', Pl n P' → P'.map (·.1) = P.map (·.1) → Agr P P' C → Cl D P' C → Rch n D P' (brt P' G C)
theorem g_of {P G : List (Str × Int)} (e : P.map (·.1) = G.map (·.1)) {nm : Str} {c : Int} (m : (nm, c) ∈ P) : ∃ t, (nm, t) ∈ G := by
  have : nm ∈ G.map (·.1) := by rw [← e]; exact List.mem_map_of_mem (f := (·.1)) m
  obtain ⟨y, hy, e⟩ := List.mem_map.mp this
  exact ⟨y.2, by rw [← e]; exact hy⟩
section
variable {n : Int} {D : List (Int × Int)} {P P' G : List (Str × Int)} {C L : List Int}
theorem Can.agr (h : Can n D P G C) (e : P'.map (·.1) = P.map (·.1)) (a : Agr P P' C) : Can n D P' G C := fun Q pl nm ag cl => h Q pl (nm.trans e) (fun x c hc => (a x c hc).trans (ag x c hc)) cl
theorem brt_keep {nm : Str} {c : Int} (m : (nm, c) ∈ P) (no : c ∉ L) : (nm, c) ∈ brt P G L := List.mem_map.mpr ⟨(nm, c), m, by simp [no]⟩
theorem brt_mem {nm : Str} {c : Int} (m : (nm, c) ∈ brt P G L) : ∃ c0, (nm, c0) ∈ P ∧ ((c0 ∈ L ∧ c = tgt G nm) ∨ (c0 ∉ L ∧ c = c0)) := by
  obtain ⟨x, hx, e⟩ := List.mem_map.mp m
  have e1 : x.1 = nm := congrArg Prod.fst e
  have e2 : (if x.2 ∈ L then tgt G x.1 else x.2) = c := congrArg Prod.snd e
  refine ⟨x.2, by rw [← e1]; exact hx, ?_⟩
  by_cases z : x.2 ∈ L
  · rw [if_pos z, e1] at e2
    exact .inl ⟨z, e2.symm⟩
  · rw [if_neg z] at e2
    exact .inr ⟨z, e2.symm⟩
theorem brt_pl (pl : Pl n P) (plG : Pl n G) (e : P.map (·.1) = G.map (·.1)) : Pl n (brt P G L) := by
  refine ⟨by rw [brt_names]; exact pl.nm, fun x hx => ?_⟩
  obtain ⟨c0, m, z⟩ := brt_mem (nm := x.1) (c := x.2) hx
  rcases z with ⟨_, z⟩ | ⟨_, z⟩
  · obtain ⟨t, ht⟩ := g_of e m
    rw [z, tgt_of plG.nodup ht]
    exact plG.rm _ ht
  · rw [z]
    exact pl.rm _ m
theorem loose_can (hF : Forest n D) (pl : Pl n P) (plG : Pl n G) (e : P.map (·.1) = G.map (·.1)) (lo : C.length < (inside P C).length) (tg : ∀ nm c t, (nm, c) ∈ P → c ∈ C → (nm, t) ∈ G → t ∈ C) : Can n D P G C := by
  intro P' pl' nm' ag cl
  have e' := nm'.trans e
  have one : ∀ {nm : Str} {c t : Int}, (nm, c) ∈ P' → (nm, t) ∈ brt P' G C → (c ∈ C ∧ t = tgt G nm) ∨ (c ∉ C ∧ t = c) := fun {nm c t} h k => by
    obtain ⟨c0, m, z⟩ := brt_mem k
    have : c0 = c := congrArg Prod.snd (key_uniq pl'.nodup m h rfl)
    rw [this] at z
    exact z
  refine loose_rch hF pl' (brt_pl pl' plG e') cl ⟨(brt_names _ _ _).symm, fun nm c t h k => ?_, fun nm c t h k no => ?_⟩ (Nat.lt_of_lt_of_le lo (subset_len (ins_nodup pl.nodup) fun a ha => ?_))
  · rcases one h k with ⟨z1, z2⟩ | ⟨z1, z2⟩
    · obtain ⟨u, hu⟩ := g_of e' h
      rw [tgt_of plG.nodup hu] at z2
      rw [z2]
      exact ⟨fun _ => tg nm c u ((ag nm c z1).mpr h) z1 hu, fun _ => z1⟩
    · rw [z2]
  · rcases one h k with ⟨z1, z2⟩ | ⟨z1, z2⟩
    · exact absurd z1 no
    · exact z2
  · obtain ⟨r, h1, h2⟩ := mem_insC.mp ha
    exact mem_insC.mpr ⟨r, (ag a r h2).mp h1, h2⟩
theorem brt_nil (P G : List (Str × Int)) : brt P G [] = P := by
  unfold brt
  refine (List.map_congr_left fun x _ => ?_).trans (List.map_id P)
  show (x.1, if x.2 ∈ ([] : List Int) then tgt G x.1 else x.2) = x
  rw [if_neg List.not_mem_nil]
/-- one region after another -/
theorem comb_rch (plG : Pl n G) : ∀ {Ls : List (List Int)} {P : List (Str × Int)}, Ls.Pairwise (fun a b => ∀ x ∈ a, x ∉ b) → Pl n P → P.map (·.1) = G.map (·.1) → (∀ L ∈ Ls, Cl D P L) → (∀ L ∈ Ls, ∀ nm c t, (nm, c) ∈ P → c ∈ L → (nm, t) ∈ G → t ∈ L) → (∀ L ∈ Ls, Can n D P G L) → Rch n D P (brt P G Ls.flatten)
  | [], P, _, _, _, _, _, _ => by
    rw [List.flatten_nil, brt_nil]
    exact Rch.refl P
  | L :: Ls, P, ap, pl, e, cl, tg, cn => by
    obtain ⟨ap1, ap2⟩ := List.pairwise_cons.mp ap
    have hL := List.mem_cons_self (a := L) (l := Ls)
    have up : ∀ {M : List Int}, M ∈ Ls → M ∈ L :: Ls := List.mem_cons_of_mem _
    have st := cn L hL P pl rfl (fun _ _ _ => Iff.rfl) (cl L hL)
    have gt : ∀ {nm : Str} {c : Int}, (nm, c) ∈ P → c ∈ L → tgt G nm ∈ L := fun {nm c} h hc => by
      obtain ⟨t, ht⟩ := g_of e h
      rw [tgt_of plG.nodup ht]
      exact tg L hL nm c t h hc ht
    have back : ∀ {nm : Str} {c : Int}, (nm, c) ∈ brt P G L → c ∉ L → (nm, c) ∈ P := fun {nm c} h no => by
      obtain ⟨c0, m, z⟩ := brt_mem h
      rcases z with ⟨z1, z2⟩ | ⟨_, z2⟩
      · exact absurd (z2 ▸ gt m z1) no
      · rw [z2]; exact m
    have pl1 : Pl n (brt P G L) := brt_pl pl plG e
    have e1 : (brt P G L).map (·.1) = G.map (·.1) := (brt_names _ _ _).trans e
    have r1 : ∀ r, r ∈ (brt P G L).map (·.2) → r ∈ P.map (·.2) := fun r hr => by
      obtain ⟨x, hx, rfl⟩ := List.mem_map.mp hr
      obtain ⟨c0, m, z⟩ := brt_mem (nm := x.1) (c := x.2) hx
      rcases z with ⟨z1, z2⟩ | ⟨_, z2⟩
      · rw [z2]; exact (cl L hL).occ _ (gt m z1)
      · rw [z2]; exact List.mem_map_of_mem (f := (·.2)) m
    have no : ∀ {M : List Int}, M ∈ Ls → ∀ {c : Int}, c ∈ M → c ∉ L := fun hM _ hc z => ap1 _ hM _ z hc
    have rest := comb_rch (P := brt P G L) plG ap2 pl1 e1
      (fun M hM => by
        have k := cl M (up hM)
        refine ⟨k.up, fun r hr => ?_, k.con, fun v hv o ad mo => k.cl v hv o ad (r1 o mo)⟩
        obtain ⟨x, hx, rfl⟩ := List.mem_map.mp (k.occ r hr)
        exact List.mem_map.mpr ⟨(x.1, x.2), brt_keep hx (no hM hr), rfl⟩)
      (fun M hM nm c t h hc ht => tg M (up hM) nm c t (back h (no hM hc)) hc ht)
      (fun M hM => (cn M (up hM)).agr (brt_names _ _ _) fun nm c hc => ⟨fun h => brt_keep h (no hM hc), fun h => back h (no hM hc)⟩)
    have eq : brt (brt P G L) G Ls.flatten = brt P G (L :: Ls).flatten := by
      unfold brt
      rw [List.map_map]
      refine List.map_congr_left fun x hx => ?_
      show (x.1, if (if x.2 ∈ L then tgt G x.1 else x.2) ∈ Ls.flatten then tgt G x.1 else if x.2 ∈ L then tgt G x.1 else x.2) = (x.1, if x.2 ∈ (L :: Ls).flatten then tgt G x.1 else x.2)
      rw [List.flatten_cons]
      by_cases z : x.2 ∈ L
      · rw [if_pos z, if_pos (List.mem_append_left _ z)]
        split <;> rfl
      · rw [if_neg z]
        by_cases q : x.2 ∈ Ls.flatten
        · rw [if_pos q, if_pos (List.mem_append_right _ q)]
        · rw [if_neg q, if_neg fun h => (List.mem_append.mp h).elim z q]
    rw [← eq]
    exact st.trans rest
theorem Regs.apart {R : List Int} {Ls : List (List Int)} (h : Regs D R Ls) : Ls.Pairwise (fun a b => ∀ x ∈ a, x ∉ b) := by
  refine h.up.imp_of_mem fun {a b} ha hb lt x hx hy => ?_
  have := h.one ha hb hx hy
  rw [this, lex_irr] at lt
  cases lt
/-- a solvable piece can be solved -/
theorem sol_can (hF : Forest n D) (pl : Pl n P) (plG : Pl n G) (e : P.map (·.1) = G.map (·.1)) (so : Sol D P G C) : Pce D P G C → Can n D P G C := by
  induction so with
  | @still C st =>
    intro pc P' pl' nm' ag cl
    have : brt P' G C = P' := by
      unfold brt
      refine (List.map_congr_left fun x hx => ?_).trans (List.map_id P')
      show (x.1, if x.2 ∈ C then tgt G x.1 else x.2) = x
      by_cases z : x.2 ∈ C
      · obtain ⟨t, ht⟩ := g_of (nm'.trans e) (show (x.1, x.2) ∈ P' from hx)
        rw [if_pos z, tgt_of plG.nodup ht, st x.1 x.2 t ((ag _ _ z).mpr hx) z ht]
      · rw [if_neg z]
    rw [this]
    exact Rch.refl P'
  | @leave C r fr _ ih =>
    intro pc P' pl' nm' ag cl
    have sub : ∀ x ∈ P.map (·.1), x ∈ G.map (·.1) := fun x hx => by rw [← e]; exact hx
    obtain ⟨nm, t, a, q, m, mt, sp, aC⟩ := pc.ahead sub fr
    have rC := (fre_mem fr).1
    obtain ⟨nm0, m0, un⟩ := pc.who r rC
    obtain rfl := un nm m
    have m' : (nm, r) ∈ P' := (ag nm r rC).mp m
    have ar : a ≠ r := fun z => by
      have := sp.nodup
      rw [z, List.nodup_cons] at this
      exact this.1 List.mem_cons_self
    have ad : adj D r a := by
      cases sp with
      | cons h k _ =>
        obtain ⟨q', e'⟩ := k.hd
        injection e' with e1 _
        rw [e1]
        exact h
    have aP := cl.occ a aC
    have ra := cl.rng pl' a aC
    have pl1 : Pl n (mvd P' nm a) := pl'.mvd ra.1 ra.2
    have e1 : (mvd P' nm a).map (·.1) = G.map (·.1) := by rw [mvd_names]; exact nm'.trans e
    have first : Rch n D P' (mvd P' nm a) := ⟨_, .cons m' (hF.mem_nb.mpr ad) aP (.nil _)⟩
    obtain ⟨Ls, rg⟩ := regs_exA D (cut_up (r := r) pc.up)
    -- nobody is left in r
    have emp : ∀ {nm' : Str} {c : Int}, (nm', c) ∈ mvd P' nm a → c ≠ r := fun {nm' c} h z => by
      obtain ⟨x, hx, ex, y⟩ := mvd_mem h
      rcases y with ⟨_, y⟩ | ⟨y1, y2⟩
      · exact ar ((show c = a from y).symm.trans z)
      · rw [← y2, z] at hx
        exact y1 ((congrArg Prod.fst y2).symm.trans (un nm' ((ag nm' r rC).mpr hx)))
    have old : ∀ {nm' : Str} {c : Int}, (nm', c) ∈ mvd P' nm a → (nm' = nm ∧ c = a) ∨ (nm' ≠ nm ∧ (nm', c) ∈ P') := fun {nm' c} h => by
      obtain ⟨x, hx, ex, y⟩ := mvd_mem h
      have ex : nm' = x.1 := ex
      rcases y with ⟨y1, y2⟩ | ⟨y1, y2⟩
      · exact .inl ⟨ex.trans y1, y2⟩
      · exact .inr ⟨fun z => y1 (ex.symm.trans z), by rw [y2]; exact hx⟩
    have new : ∀ {nm' : Str} {c : Int}, (nm', c) ∈ P' → c ≠ r → (nm', c) ∈ mvd P' nm a := fun {nm' c} h z => mvd_other h fun y => z (congrArg Prod.snd (key_uniq pl'.nodup h m' y))
    have comp : ∀ L ∈ Ls, ∃ s ∈ cut C r, IsC D (cut C r) s L := fun L hL => (rg.mem L).mp hL
    have inC : ∀ L ∈ Ls, ∀ v ∈ L, v ∈ C ∧ v ≠ r := fun L hL v hv => by
      obtain ⟨s, hs, ic⟩ := comp L hL
      exact mem_cut.mp (ic.sub' hs hv)
    have pcL : ∀ L ∈ Ls, Pce D P G L := fun L hL => by
      obtain ⟨s, hs, ic⟩ := comp L hL
      exact pc.cut fr hs ic
    have clL : ∀ L ∈ Ls, Cl D (mvd P' nm a) L := fun L hL => by
      obtain ⟨s, hs, ic⟩ := comp L hL
      refine ⟨ic.up, fun v hv => ?_, (pcL L hL).con, fun v hv o ad' mo => ?_⟩
      · obtain ⟨x, hx, rfl⟩ := List.mem_map.mp (cl.occ v (inC L hL v hv).1)
        exact List.mem_map.mpr ⟨(x.1, x.2), new hx (inC L hL _ hv).2, rfl⟩
      · have oC := cl.cl v (inC L hL v hv).1 o ad' (mvd_rooms aP mo)
        obtain ⟨x, hx, rfl⟩ := List.mem_map.mp mo
        have ne := emp (nm' := x.1) (c := x.2) hx
        exact (ic.mem _).mpr (.step ((ic.mem v).mp hv) ad' (mem_cut.mpr ⟨oC, ne⟩))
    have way : Wk D (cut C r) a t := by
      obtain ⟨p', hp', ins⟩ := (pc.con r rC t (pc.tgt nm r t m rC mt)).within
      rw [hF.uniq _ _ _ _ hp' sp] at ins
      have off := sp.off
      have tl : SP (adj D) a t (a :: q) := by
        cases sp with
        | cons h k _ =>
          obtain ⟨q', e'⟩ := k.hd
          injection e' with e1 e2
          subst e1
          exact k
      refine tl.walks fun x hx => mem_cut.mpr ⟨?_, fun z => off (z ▸ List.mem_cons_of_mem _ hx)⟩
      rcases ins x (List.mem_cons_of_mem _ (List.mem_cons_of_mem _ hx)) with z | z
      · rw [z]; exact rC
      · exact z
    have tgL : ∀ L ∈ Ls, ∀ nm' c t', (nm', c) ∈ mvd P' nm a → c ∈ L → (nm', t') ∈ G → t' ∈ L := fun L hL nm' c t' h hc ht => by
      obtain ⟨s, hs, ic⟩ := comp L hL
      rcases old h with ⟨z1, z2⟩ | ⟨_, z⟩
      · rw [z1] at ht
        have : t' = t := congrArg Prod.snd (key_uniq plG.nodup ht mt rfl)
        rw [this]
        rw [z2] at hc
        exact (ic.closed hc way).2
      · exact (pcL L hL).tgt nm' c t' ((ag nm' c (inC L hL c hc).1).mpr z) hc ht
    have cn : ∀ L ∈ Ls, Can n D (mvd P' nm a) G L := fun L hL => by
      obtain ⟨s, hs, ic⟩ := comp L hL
      by_cases aL : a ∈ L
      · refine loose_can hF pl1 plG e1 ?_ (tgL L hL)
        have h1 := inside_ge (P := P) (up_nodup ic.up) fun v hv => by
          obtain ⟨x, hx, _⟩ := (pcL L hL).who v hv
          exact List.mem_map_of_mem (f := (·.2)) hx
        have h2 : (nm :: inside P L).Nodup := by
          refine List.nodup_cons.mpr ⟨fun z => ?_, ins_nodup pl.nodup⟩
          obtain ⟨c, k1, k2⟩ := mem_insC.mp z
          have : c = r := congrArg Prod.snd (key_uniq pl.nodup k1 m rfl)
          exact (inC L hL c k2).2 this
        have h3 := subset_len h2 (ys := inside (mvd P' nm a) L) fun x hx => by
          rcases List.mem_cons.mp hx with z | z
          · rw [z]
            exact mem_insC.mpr ⟨a, mvd_self m', aL⟩
          · obtain ⟨c, k1, k2⟩ := mem_insC.mp z
            obtain ⟨k3, k4⟩ := inC L hL c k2
            exact mem_insC.mpr ⟨c, new ((ag x c k3).mp k1) k4, k2⟩
        rw [List.length_cons] at h3
        omega
      · refine (ih s hs L ic (fun a' ha' z => ?_) (pcL L hL)).agr (by rw [mvd_names]; exact nm') fun nm' c hc => ?_
        · rw [pc.ahd_one hF plG.nodup rC ha' ⟨nm, t, q, m, mt, sp⟩] at z
          exact aL z
        · obtain ⟨k3, k4⟩ := inC L hL c hc
          refine ⟨fun h => new ((ag nm' c k3).mp h) k4, fun h => ?_⟩
          rcases old h with ⟨_, z2⟩ | ⟨_, z⟩
          · exact absurd (z2 ▸ hc) aL
          · exact (ag nm' c k3).mpr z
    have all := comb_rch plG rg.apart pl1 e1 clL tgL cn
    have eq : brt (mvd P' nm a) G Ls.flatten = brt P' G C := by
      unfold brt mvd
      rw [List.map_map]
      refine List.map_congr_left fun x hx => ?_
      have fm := rg.flat_mem (cut_up pc.up)
      show (x.1, if (if x.1 = nm then a else x.2) ∈ Ls.flatten then tgt G x.1 else if x.1 = nm then a else x.2) = (x.1, if x.2 ∈ C then tgt G x.1 else x.2)
      by_cases z : x.1 = nm
      · have : x = (nm, r) := key_uniq pl'.nodup hx m' z
        rw [if_pos z, if_pos ((fm a).mpr (mem_cut.mpr ⟨aC, ar⟩)), this, if_pos rC]
      · rw [if_neg z]
        have xr : x.2 ≠ r := fun y => z (un x.1 ((ag x.1 r rC).mpr (y ▸ hx)))
        by_cases q : x.2 ∈ C
        · rw [if_pos q, if_pos ((fm _).mpr (mem_cut.mpr ⟨q, xr⟩))]
        · rw [if_neg q, if_neg fun h => q (mem_cut.mp ((fm _).mp h)).1]
    rw [← eq]
    exact first.trans all
/-- the regions are closed -/
theorem Cl.region (pl : Pl n P) {Ls : List (List Int)} (rg : Regs D (Fw.occ n P) Ls) (hC : C ∈ Ls) : Cl D P C := by
  obtain ⟨s, hs, ic⟩ := (rg.mem C).mp hC
  refine ⟨ic.up, fun r hr => pl.mem_occ.mp (ic.sub' hs hr), fun a ha b hb => (ic.closed ha ((((ic.mem a).mp ha).symm hs).trans ((ic.mem b).mp hb))).1, fun v hv o ad mo => (ic.mem o).mpr (.step ((ic.mem v).mp hv) ad (pl.mem_occ.mpr mo))⟩
/-- where nobody is outside and every tight region is solvable the target is reached -/
theorem all_rch (hF : Forest n D) (pl : Pl n P) (plG : Pl n G) (e : P.map (·.1) = G.map (·.1)) {Ls : List (List Int)} (rg : Regs D (occ n P) Ls) (out : ∀ nm c t, (nm, c) ∈ P → (nm, t) ∈ G → Wk D (occ n P) c t) (so : ∀ C ∈ Ls, (inside P C).length = C.length → Sol D P G C) : Rch n D P G := by
  have sub : ∀ x ∈ P.map (·.1), x ∈ G.map (·.1) := fun x hx => by rw [← e]; exact hx
  have tg : ∀ L ∈ Ls, ∀ nm c t, (nm, c) ∈ P → c ∈ L → (nm, t) ∈ G → t ∈ L := fun L hL nm c t h hc ht => by
    obtain ⟨s, hs, ic⟩ := (rg.mem L).mp hL
    exact (ic.mem t).mpr (((ic.mem c).mp hc).trans (out nm c t h ht))
  have all := comb_rch plG rg.apart pl e (fun L hL => Cl.region pl rg hL) tg fun L hL => by
    by_cases ti : (inside P L).length = L.length
    · exact sol_can hF pl plG e (so L hL ti) (Pce.region pl plG.nodup sub rg hL ti (tg L hL))
    · refine loose_can hF pl plG e ?_ (tg L hL)
      have := inside_ge (P := P) (up_nodup (Cl.region pl rg hL).up) (Cl.region pl rg hL).occ
      omega
  have eq : brt P G Ls.flatten = G := pl_eq ((brt_names _ _ _).trans e) plG.nodup fun x hx => by
    obtain ⟨c0, m, z⟩ := brt_mem (nm := x.1) (c := x.2) hx
    have oc : c0 ∈ Ls.flatten := (rg.flat_mem (occ_up n P) c0).mpr (pl.mem_occ.mpr (List.mem_map_of_mem (f := (·.2)) m))
    rcases z with ⟨_, z⟩ | ⟨z, _⟩
    · obtain ⟨t, ht⟩ := g_of e m
      rw [tgt_of plG.nodup ht] at z
      have : x = (x.1, t) := by rw [← z]
      rw [this]
      exact ht
    · exact absurd oc z
  rw [eq] at all
  exact all
end
end Fw
set_option maxHeartbeats 2000000
namespace Fw
open PySem PySem.Spec PyProof.Rows L2
/-! what reaches the target: nobody was outside, tight regions were solvable (math) -/
section
variable {n : Int} {D : List (Int × Int)} {P P' G : List (Str × Int)} {C L : List Int}
theorem Agr.symm (h : Agr P P' C) : Agr P' P C := fun x c hc => (h x c hc).symm
theorem Sol.agr (so : Sol D P G C) : ∀ {P'}, Agr P P' C → Sol D P' G C := by
  induction so with
  | still st => exact fun ag => .still fun nm c t h hc ht => st nm c t ((ag nm c hc).mpr h) hc ht
  | @leave C r fr _ ih =>
    intro P' ag
    obtain ⟨rC, fr⟩ := fre_mem fr
    refine .leave (mem_fre rC fun nm c t h hc ht => fr nm c t ((ag nm c hc).mpr h) hc ht) fun s hs L ic no => ih s hs L ic (fun a ⟨nm, t, q, h1, h2, h3⟩ => no a ⟨nm, t, q, (ag nm r rC).mp h1, h2, h3⟩) fun nm c hc => ag nm c (mem_cut.mp (ic.sub' hs hc)).1
theorem Runs.names {X : List (Str × Int)} (h : Runs n D P X G) : P.map (·.1) = G.map (·.1) := by
  induction h with
  | nil => rfl
  | cons _ _ _ _ ih => rw [← ih, mvd_names]
/-- nobody was outside -/
theorem Runs.out {X : List (Str × Int)} (h : Runs n D P X G) (hF : Forest n D) : (P.map (·.1)).Nodup → ∀ nm c t, (nm, c) ∈ P → (nm, t) ∈ G → Wk D (P.map (·.2)) c t := by
  induction h with
  | nil P =>
    intro nd nm c t h k
    have : c = t := congrArg Prod.snd (key_uniq nd h k rfl)
    rw [this]
    exact .base
  | @cons P X Q nm c r m a o k ih =>
    intro nd nm' c' t h ht
    have ih := ih (by rw [mvd_names]; exact nd)
    by_cases z : nm' = nm
    · subst z
      have : c' = c := congrArg Prod.snd (key_uniq nd h m rfl)
      rw [this]
      exact (Wk.step .base (hF.mem_nb.mp a) o).trans ((ih nm' r t (mvd_self m) ht).mono fun x hx => mvd_rooms o hx)
    · exact (ih nm' c' t (mvd_other h z) ht).mono fun x hx => mvd_rooms o hx
/-- tight regions were solvable -/
theorem Runs.sol {X : List (Str × Int)} (h : Runs n D P X G) (hF : Forest n D) : (P.map (·.1)).Nodup → ∀ C : List Int, C.Pairwise (· < ·) → (∀ v ∈ C, ∀ o, adj D v o → o ∈ P.map (·.2) → o ∈ C) → (∀ r ∈ C, ∃ nm, (nm, r) ∈ P ∧ ∀ nm', (nm', r) ∈ P → nm' = nm) → Sol D P G C := by
  induction h with
  | nil P =>
    intro nd C _ _ _
    exact .still fun nm c t h _ k => (congrArg Prod.snd (key_uniq nd h k rfl)).symm
  | @cons P X Q nm c r m a o k ih =>
    intro nd C up cl who
    have nd1 : ((mvd P nm r).map (·.1)).Nodup := by rw [mvd_names]; exact nd
    have ih := ih nd1
    have ad := hF.mem_nb.mp a
    have cP : c ∈ P.map (·.2) := List.mem_map_of_mem (f := (·.2)) m
    have old : ∀ {nm' : Str} {v : Int}, (nm', v) ∈ mvd P nm r → (nm' = nm ∧ v = r) ∨ (nm' ≠ nm ∧ (nm', v) ∈ P) := fun {nm' v} h => by
      obtain ⟨x, hx, ex, y⟩ := mvd_mem h
      have ex : nm' = x.1 := ex
      rcases y with ⟨y1, y2⟩ | ⟨y1, y2⟩
      · exact .inl ⟨ex.trans y1, y2⟩
      · exact .inr ⟨fun z => y1 (ex.symm.trans z), by rw [y2]; exact hx⟩
    have new : ∀ {nm' : Str} {v : Int}, (nm', v) ∈ P → v ≠ c → (nm', v) ∈ mvd P nm r := fun {nm' v} h z => mvd_other h fun y => z (congrArg Prod.snd (key_uniq nd h m y))
    -- rooms that neither end is in
    have keep : ∀ L : List Int, c ∉ L → r ∉ L → Agr (mvd P nm r) P L := fun L h1 h2 nm' v hv => by
      refine ⟨fun h => ?_, fun h => new h fun z => h1 (z ▸ hv)⟩
      rcases old h with ⟨_, z⟩ | ⟨_, z⟩
      · exact absurd (z ▸ hv) h2
      · exact z
    have whoL : ∀ L : List Int, c ∉ L → r ∉ L → (∀ v ∈ L, v ∈ C) → ∀ v ∈ L, ∃ nm', (nm', v) ∈ mvd P nm r ∧ ∀ nm'', (nm'', v) ∈ mvd P nm r → nm'' = nm' := fun L h1 h2 sub v hv => by
      obtain ⟨nm', w1, w2⟩ := who v (sub v hv)
      exact ⟨nm', (keep L h1 h2 nm' v hv).mpr w1, fun nm'' h => w2 nm'' ((keep L h1 h2 nm'' v hv).mp h)⟩
    by_cases cC : c ∈ C
    · have rC : r ∈ C := cl c cC r ad o
      obtain ⟨nm0, m0, un⟩ := who c cC
      obtain rfl := un nm m
      have rc : r ≠ c := fun e => ad.elim (fun h => by have := hF.ends h; omega) fun h => by have := hF.ends h; omega
      have gone : c ∉ (mvd P nm r).map (·.2) := fun h => by
        obtain ⟨x, hx, ex⟩ := List.mem_map.mp h
        rcases old (nm' := x.1) (v := x.2) hx with ⟨_, z⟩ | ⟨z1, z2⟩
        · exact rc (z.symm.trans ex)
        · rw [ex] at z2
          exact z1 (un x.1 z2)
      have out1 := k.out hF nd1
      have off : ∀ {nm' : Str} {v t : Int}, (nm', v) ∈ mvd P nm r → (nm', t) ∈ Q → ∃ p, SP (adj D) v t p ∧ c ∉ p := fun {nm' v t} h ht => by
        obtain ⟨p, hp, ins⟩ := (out1 nm' v t h ht).within
        refine ⟨p, hp, fun z => ?_⟩
        rcases ins c z with e | e
        · exact gone (e ▸ List.mem_map_of_mem (f := (·.2)) h)
        · exact gone e
      refine .leave (r := c) (mem_fre cC fun nm' v t h hv ht => ?_) fun s hs L ic no => ?_
      · by_cases z : nm' = nm
        · subst z
          have : v = c := congrArg Prod.snd (key_uniq nd h m rfl)
          obtain ⟨p, hp, np⟩ := off (mvd_self m) ht
          exact ⟨fun e => np (e ▸ hp.last), fun ⟨_, _, _, q, _⟩ => q this.symm⟩
        · obtain ⟨p, hp, np⟩ := off (mvd_other h z) ht
          refine ⟨fun e => np (e ▸ hp.last), fun ⟨p', hp', q, _⟩ => ?_⟩
          rw [hF.uniq _ _ _ _ hp' hp] at q
          exact np q
      · have sub : ∀ v ∈ L, v ∈ C ∧ v ≠ c := fun v hv => mem_cut.mp (ic.sub' hs hv)
        have cL : c ∉ L := fun z => (sub c z).2 rfl
        have rL : r ∉ L := by
          obtain ⟨t, ht⟩ := g_of (P := P) (G := Q) ((mvd_names P nm r).symm.trans k.names) m
          obtain ⟨p, hp, np⟩ := off (mvd_self m) ht
          obtain ⟨q, rfl⟩ := hp.hd
          exact no r ⟨nm, t, q, m, ht, .cons ad hp np⟩
        refine (ih L ic.up (fun v hv x ad' mx => ?_) (whoL L cL rL fun v hv => (sub v hv).1)).agr (keep L cL rL)
        have xC := cl v (sub v hv).1 x ad' (mvd_rooms o mx)
        exact (ic.mem x).mpr (.step ((ic.mem v).mp hv) ad' (mem_cut.mpr ⟨xC, fun e => gone (e ▸ mx)⟩))
    · have rC : r ∉ C := fun z => cC (cl r z c (adj_symm ad) cP)
      exact (ih C up (fun v hv x ad' mx => cl v hv x ad' (mvd_rooms o mx)) (whoL C cC rC fun v hv => hv)).agr (keep C cC rC)
/-- the target is reached exactly where nobody is outside and every tight region is solvable -/
theorem rch_iff (hF : Forest n D) (pl : Pl n P) (plG : Pl n G) (e : P.map (·.1) = G.map (·.1)) {Ls : List (List Int)} (rg : Regs D (occ n P) Ls) : Rch n D P G ↔ (∀ nm c t, (nm, c) ∈ P → (nm, t) ∈ G → Wk D (occ n P) c t) ∧ ∀ C ∈ Ls, (inside P C).length = C.length → Sol D P G C := by
  refine ⟨fun ⟨X, h⟩ => ⟨fun nm c t h1 h2 => (Wk.congr fun x => pl.mem_occ).mpr (h.out hF pl.nodup nm c t h1 h2), fun C hC ti => ?_⟩, fun ⟨h1, h2⟩ => all_rch hF pl plG e rg h1 h2⟩
  have cl := Cl.region pl rg hC
  refine h.sol hF pl.nodup C cl.up cl.cl fun r hr => ?_
  obtain ⟨x, hx, rfl⟩ := List.mem_map.mp (cl.occ r hr)
  exact ⟨x.1, hx, fun nm' m => tight_one (up_nodup cl.up) cl.occ ti hr m hx⟩
end
end Fw
set_option maxHeartbeats 2000000
namespace Fw
open PySem PySem.Spec PyProof.Rows L2
/-! reached by moves, in two ways; the whole of a full house (math) -/
section
variable {n : Int} {D : List (Int × Int)} {P G : List (Str × Int)}
theorem Rb.rch {k : Nat} {Q : List (Str × Int)} (hF : Forest n D) (h : Rb n D k P Q) : Rch n D P Q := by
  induction h with
  | zero => exact Rch.refl _
  | @step k P Q a r _ m ih =>
    obtain ⟨c, h1, h2, h3⟩ := mvs_mem m
    exact ih.trans ⟨_, .cons h1 h2 h3 (.nil _)⟩
theorem Rb.first {k : Nat} {a : Str} {r : Int} {Q : List (Str × Int)} (m : (a, r) ∈ mvs n D P P) (h : Rb n D k (mvd P a r) Q) : Rb n D (k + 1) P Q := by
  generalize e : mvd P a r = P1 at h
  induction h with
  | zero => rw [← e]; exact .step .zero m
  | step _ m' ih => exact .step (ih e) m'
theorem mem_mvs {P X : List (Str × Int)} {nm : Str} {c t : Int} (h : (nm, c) ∈ X) (h1 : t ∈ nb n D c) (h2 : t ∈ P.map (·.2)) : (nm, t) ∈ mvs n D P X :=
  List.mem_flatMap.mpr ⟨(nm, c), h, List.mem_map.mpr ⟨t, List.mem_filter.mpr ⟨h1, decide_eq_true h2⟩, rfl⟩⟩
theorem Runs.rb {X Q : List (Str × Int)} (h : Runs n D P X Q) : ∃ k, Rb n D k P Q := by
  induction h with
  | nil => exact ⟨0, .zero⟩
  | cons m a o _ ih =>
    obtain ⟨k, hk⟩ := ih
    exact ⟨k + 1, Rb.first (mem_mvs m a o) hk⟩
theorem rch_rb (hF : Forest n D) {Q : List (Str × Int)} : Rch n D P Q ↔ ∃ k, Rb n D k P Q := ⟨fun ⟨_, h⟩ => h.rb, fun ⟨_, h⟩ => h.rch hF⟩
/-- a full house's target is reached exactly where the whole is solvable -/
theorem whole_rch (hF : Forest n D) (ed : D.length + 1 = n.toNat) (pm : (P.map (·.2)).Perm (rg n)) (pl : Pl n P) (plG : Pl n G) (e : P.map (·.1) = G.map (·.1)) : Rch n D P G ↔ Sol D P G (rg n) := by
  have pc := Pce.whole (G := G) hF ed pm pl plG
  have cl : Cl D P (rg n) := ⟨pc.up, fun r hr => pm.mem_iff.mpr hr, pc.con, fun _ _ o _ mo => pm.mem_iff.mp mo⟩
  constructor
  · rintro ⟨X, h⟩
    exact h.sol hF pl.nodup _ cl.up cl.cl pc.who
  · intro so
    have := sol_can hF pl plG e so pc P pl rfl (fun _ _ _ => Iff.rfl) cl
    have eq : brt P G (rg n) = G := pl_eq ((brt_names _ _ _).trans e) plG.nodup fun x hx => by
      obtain ⟨c0, m, z⟩ := brt_mem (nm := x.1) (c := x.2) hx
      rcases z with ⟨_, z⟩ | ⟨z, _⟩
      · obtain ⟨t, ht⟩ := g_of e m
        rw [tgt_of plG.nodup ht] at z
        have : x = (x.1, t) := by rw [← z]
        rw [this]
        exact ht
      · exact absurd (pm.mem_iff.mp (List.mem_map_of_mem (f := (·.2)) m)) z
    rw [eq] at this
    exact this
end
end Fw
set_option maxHeartbeats 2000000
namespace Fw
open PySem PySem.Spec PyProof.Rows L2
/-! no block exactly where the target is reached (math) -/
section
variable {n : Int} {D : List (Int × Int)} {P G : List (Str × Int)}
open Classical in
theorem outp_nil (ndG : (G.map (·.1)).Nodup) (e : P.map (·.1) = G.map (·.1)) {R : List Int} : outp D R G P = [] ↔ ∀ nm c t, (nm, c) ∈ P → (nm, t) ∈ G → Wk D R c t := by
  unfold outp
  rw [List.map_eq_nil_iff, List.filter_eq_nil_iff]
  constructor
  · intro h nm c t h1 h2
    have := h (nm, c) h1
    refine Classical.byContradiction fun no => this (decide_eq_true fun t' ht' w => no ?_)
    have e' : t = t' := congrArg Prod.snd (key_uniq ndG h2 ht' rfl)
    rw [e']
    exact w
  · intro h x hx z
    obtain ⟨t, ht⟩ := g_of (P := P) (G := G) e (nm := x.1) (c := x.2) hx
    exact (of_decide_eq_true z) t ht (h x.1 x.2 t hx ht)
theorem opn_rch (hF : Forest n D) (pl : Pl n P) (plG : Pl n G) (e : P.map (·.1) = G.map (·.1)) : Opn D n P G ↔ Rch n D P G := by
  obtain ⟨Ls, rg⟩ := regs_exA D (occ_up n P)
  rw [opn_of rg, rch_iff hF pl plG e rg, outp_nil plG.nodup e]
  refine and_congr_right fun out => ?_
  unfold stL
  rw [List.filter_eq_nil_iff]
  constructor
  · intro h C hC ti
    have := h C (List.mem_filter.mpr ⟨hC, ctb_iff.mpr ⟨ti, fun nm _ z => by rw [(outp_nil plG.nodup e).mpr out] at z; cases z⟩⟩)
    refine solB_iff.mp (Classical.byContradiction fun z => this ?_)
    rw [Bool.eq_false_iff.mpr z]
    rfl
  · intro h C hC
    obtain ⟨h1, h2⟩ := List.mem_filter.mp hC
    rw [solB_iff.mpr (h C h1 (ctb_iff.mp h2).1)]
    decide
end
end Fw
set_option maxHeartbeats 8000000
namespace Fw
open PySem PySem.Spec PyProof.Rows L2
/-! a part of a plan -/
theorem Runs.split {n : Int} {D : List (Int × Int)} {P X G : List (Str × Int)} (h : Runs n D P X G) : ∀ i, ∃ Q, Runs n D P (X.take i) Q ∧ Runs n D Q (X.drop i) G := by
  induction h with
  | nil P => exact fun i => ⟨P, by rw [List.take_nil]; exact .nil _, by rw [List.drop_nil]; exact .nil _⟩
  | @cons P X G nm c r m a o rest ih =>
    intro i
    cases i with
    | zero => exact ⟨P, .nil _, .cons m a o rest⟩
    | succ i =>
      obtain ⟨Q, q1, q2⟩ := ih i
      exact ⟨Q, .cons m a o q1, q2⟩
theorem Runs.rooms {n : Int} {D : List (Int × Int)} {P X G : List (Str × Int)} (h : Runs n D P X G) : ∀ r, r ∈ G.map (·.2) → r ∈ P.map (·.2) := by
  induction h with
  | nil P => exact fun r hr => hr
  | cons m a o rest ih => exact fun r hr => mvd_rooms o (ih r hr)
theorem Runs.pl {n : Int} {D : List (Int × Int)} {P X G : List (Str × Int)} (h : Runs n D P X G) : Pl n P → Pl n G := by
  induction h with
  | nil P => exact id
  | cons m a o rest ih =>
    intro pl
    have := (mem_nb.mp a).1
    exact ih (pl.mvd this.1 this.2)
theorem Wk.widen {D : List (Int × Int)} {R R' : List Int} {a b : Int} (h : Wk D R a b) (m : ∀ x ∈ R, x ∈ R') : Wk D R' a b := h.wider m
/-- t[lo:hi] of a tuple of pairs -/
def rSlP : V → Option Int → Option Int → Hp → VK → Prop := fun x lo hi H Q => ∃ (a : Addr) (X : List (Str × Int)), x = .ref a ∧ PlAt H a X ∧ ∀ H' p, Same H H' → PlAt H' p ((X.drop (HT.sIx X.length 0 lo)).take (HT.sIx X.length X.length hi - HT.sIx X.length 0 lo)) → Q (.ref p) H'
theorem sl_P {X : Cx} : SlR X rSlP := by
  rintro pins s σ H x v vl vu lo hi sl Q I rx hs pl pu ⟨a, Y, rfl, hY, q⟩
  obtain ⟨ps, o1, o2, o3⟩ := id hY
  have el : Y.length = ps.length := by rw [o2, List.length_map]
  refine sl_tupA pins s σ H _ v vl vu lo hi sl Q I rx hs pl pu ⟨a, _, rfl, o1.sq, fun w => q H a (Same.refl _) ?_, fun _ p hp => q _ p (same_upd hp) ?_⟩
  · obtain ⟨w1, w2⟩ := w
    rw [List.length_map] at w1 w2
    rw [el, w1, w2, ← el, List.drop_zero, Nat.sub_zero, List.take_length]
    exact hY
  · refine ⟨(ps.drop (HT.sIx Y.length 0 lo)).take (HT.sIx Y.length Y.length hi - HT.sIx Y.length 0 lo), .inl ?_, by rw [o2, List.map_take, List.map_drop, List.length_map], fun z hz => same_upd hp _ _ (o3 z (List.mem_of_mem_drop (List.mem_of_mem_take hz)))⟩
    rw [upd_same]
    unfold cutV
    rw [List.length_map, List.map_take, List.map_drop, el]
theorem sl_to {X : List (Str × Int)} {i : Int} (h0 : 0 ≤ i) (h1 : i ≤ (X.length : Nat)) : (X.drop (HT.sIx X.length 0 none)).take (HT.sIx X.length X.length (some i) - HT.sIx X.length 0 none) = X.take i.toNat := by
  show (X.drop 0).take ((if i < 0 then (i + (X.length : Nat)).toNat else min i.toNat X.length) - 0) = _
  rw [if_neg (by omega), List.drop_zero, Nat.sub_zero, show min i.toNat X.length = i.toNat by omega]
theorem sl_from {X : List (Str × Int)} {i : Int} (h0 : 0 ≤ i) (h1 : i ≤ (X.length : Nat)) : (X.drop (HT.sIx X.length 0 (some i))).take (HT.sIx X.length X.length none - HT.sIx X.length 0 (some i)) = X.drop i.toNat := by
  show (X.drop (if i < 0 then (i + (X.length : Nat)).toNat else min i.toNat X.length)).take (X.length - (if i < 0 then (i + (X.length : Nat)).toNat else min i.toNat X.length)) = _
  rw [if_neg (by omega), show min i.toNat X.length = i.toNat by omega, List.take_of_length_le (by rw [List.length_drop]; exact Nat.le_refl _)]
section
variable {P : Program} {w : World} {K : PySem.W.Frag} {mg : Str → Option Value} {base : Heap}
end
end Fw
set_option maxHeartbeats 2000000
namespace Fw
open PySem PySem.Spec PyProof.Rows L2
/-! mutual reachability (math) -/
/-- from both to both: the same rooms; each in the region of before, and in a tight one where they were -/
def Mutl (n : Int) (D : List (Int × Int)) (P G : List (Str × Int)) : Prop :=
  (∀ x, x ∈ P.map (·.2) ↔ x ∈ G.map (·.2)) ∧ ∀ nm r r', (nm, r) ∈ P → (nm, r') ∈ G → ∀ C, IsC D (occ n P) r C → r' ∈ C ∧ ((inside P C).length = C.length → r' = r)
theorem inside_iff : ∀ {P G : List (Str × Int)} (S : List Int), G.map (·.1) = P.map (·.1) → (P.map (·.1)).Nodup → (inside P S = inside G S ↔ ∀ nm r r', (nm, r) ∈ P → (nm, r') ∈ G → (r ∈ S ↔ r' ∈ S))
  | [], [], S, _, _ => ⟨fun _ nm r r' h => (nomatch h), fun _ => rfl⟩
  | [], _ :: _, S, e, _ => (nomatch e)
  | _ :: _, [], S, e, _ => (nomatch e)
  | (a, r0) :: P, (b, s0) :: G, S, e, nd => by
    rw [List.map_cons, List.map_cons] at e
    obtain ⟨e1, e2⟩ := List.cons.inj e
    have e1 : b = a := e1
    subst e1
    rw [List.map_cons, List.nodup_cons] at nd
    have ih := inside_iff (P := P) (G := G) S e2 nd.2
    have noP : ∀ {r}, (b, r) ∈ P → False := fun {r} h => nd.1 (List.mem_map_of_mem (f := (·.1)) h)
    have noG : ∀ {r}, (b, r) ∈ G → False := fun {r} h => nd.1 (by
      show b ∈ P.map (·.1)
      rw [← e2]
      exact List.mem_map_of_mem (f := (·.1)) h)
    have cut : ∀ (c : Int) (Q : List (Str × Int)), inside ((b, c) :: Q) S = if c ∈ S then b :: inside Q S else inside Q S := fun c Q => by
      unfold inside
      by_cases h : c ∈ S
      · rw [List.filter_cons_of_pos (by simpa using h), List.map_cons, if_pos h]
      · rw [List.filter_cons_of_neg (by simpa using h), if_neg h]
    have notin : ∀ {Q : List (Str × Int)}, (∀ {r}, (b, r) ∈ Q → False) → b ∉ inside Q S := fun {Q} no h => by
      obtain ⟨x, hx, e⟩ := List.mem_map.mp h
      have e : x.1 = b := e
      exact no (r := x.2) (e ▸ (List.mem_filter.mp hx).1)
    rw [cut, cut]
    constructor
    · intro h nm r r' h1 h2
      by_cases c1 : r0 ∈ S <;> by_cases c2 : s0 ∈ S
      · rw [if_pos c1, if_pos c2] at h
        have h := (List.cons.inj h).2
        rcases List.mem_cons.mp h1 with q1 | q1 <;> rcases List.mem_cons.mp h2 with q2 | q2
        · cases q1; cases q2; exact ⟨fun _ => c2, fun _ => c1⟩
        · cases q1; exact (noG q2).elim
        · cases q2; exact (noP q1).elim
        · exact ih.mp h nm r r' q1 q2
      · rw [if_pos c1, if_neg c2] at h
        exact (notin noG (h ▸ List.mem_cons_self)).elim
      · rw [if_neg c1, if_pos c2] at h
        exact (notin noP (h ▸ List.mem_cons_self)).elim
      · rw [if_neg c1, if_neg c2] at h
        rcases List.mem_cons.mp h1 with q1 | q1 <;> rcases List.mem_cons.mp h2 with q2 | q2
        · cases q1; cases q2; exact ⟨fun z => (c1 z).elim, fun z => (c2 z).elim⟩
        · cases q1; exact (noG q2).elim
        · cases q2; exact (noP q1).elim
        · exact ih.mp h nm r r' q1 q2
    · intro h
      have h0 := h b r0 s0 List.mem_cons_self List.mem_cons_self
      have ht := ih.mpr fun nm r r' h1 h2 => h nm r r' (List.mem_cons_of_mem _ h1) (List.mem_cons_of_mem _ h2)
      by_cases c1 : r0 ∈ S
      · rw [if_pos c1, if_pos (h0.mp c1), ht]
      · rw [if_neg c1, if_neg fun z => c1 (h0.mpr z), ht]
section
variable {n : Int} {D : List (Int × Int)} {P G : List (Str × Int)}
theorem same_occ (h : ∀ x, x ∈ P.map (·.2) ↔ x ∈ G.map (·.2)) : occ n P = occ n G := by
  unfold occ
  refine List.filter_congr fun r _ => ?_
  rw [Bool.eq_iff_iff, decide_eq_true_eq, decide_eq_true_eq]
  exact h r
/-- regions that meet are one -/
theorem meet {R : List Int} {r s x : Int} {C E : List Int} (hr : r ∈ R) (hs : s ∈ R) (hC : IsC D R r C) (hE : IsC D R s E) (xC : x ∈ C) (xE : x ∈ E) : C = E := by
  have a := (hC.mem x).mp xC
  have b := (hE.mem x).mp xE
  have rs : Wk D R r s := a.trans (b.symm hs)
  have sr := rs.symm hr
  exact hC.one ⟨hE.up, fun v => (hE.mem v).trans ⟨fun g => rs.trans g, fun g => sr.trans g⟩⟩
theorem Mutl.inC (nm : G.map (·.1) = P.map (·.1)) (pl : Pl n P) (plG : Pl n G) (h : Mutl n D P G) {s : Int} {C : List Int} (hs : s ∈ occ n P) (hC : IsC D (occ n P) s C) {a : Str} {r r' : Int} (h1 : (a, r) ∈ P) (h2 : (a, r') ∈ G) : r ∈ C ↔ r' ∈ C := by
  have hr : r ∈ occ n P := pl.mem_occ.mpr (List.mem_map_of_mem (f := (·.2)) h1)
  obtain ⟨E, hE⟩ := isC_ex D (occ_up n P) hr
  have := (h.2 a r r' h1 h2 E hE).1
  constructor
  · intro m
    rw [meet hs hr hC hE m hE.has]
    exact this
  · intro m
    rw [meet hs hr hC hE m this]
    exact hE.has
theorem Mutl.symm (nm : G.map (·.1) = P.map (·.1)) (pl : Pl n P) (plG : Pl n G) (h : Mutl n D P G) : Mutl n D G P := by
  have oc : occ n G = occ n P := (same_occ h.1).symm
  refine ⟨fun x => (h.1 x).symm, fun a r' r h2 h1 C hC => ?_⟩
  rw [oc] at hC
  have hr' : r' ∈ occ n P := by rw [← oc]; exact plG.mem_occ.mpr (List.mem_map_of_mem (f := (·.2)) h2)
  have hr : r ∈ occ n P := pl.mem_occ.mpr (List.mem_map_of_mem (f := (·.2)) h1)
  have both := h.inC nm pl plG hr' hC h1 h2
  refine ⟨both.mpr hC.has, fun t => ?_⟩
  have ins : inside P C = inside G C := (inside_iff C nm pl.nodup).mpr fun c s s' h3 h4 => h.inC nm pl plG hr' hC h3 h4
  have hC2 : IsC D (occ n P) r C := by
    obtain ⟨E, hE⟩ := isC_ex D (occ_up n P) hr
    rw [meet hr' hr hC hE (both.mpr hC.has) hE.has]
    exact hE
  exact ((h.2 a r r' h1 h2 C hC2).2 (by rw [ins]; exact t)).symm
/-- what the program asks of each lasting part -/
def parts (P : List (Str × Int)) (C : List Int) : List (List Int) := if (inside P C).length = C.length then C.map fun r => [r] else [C]
theorem mutl_parts (nm : G.map (·.1) = P.map (·.1)) (pl : Pl n P) (plG : Pl n G) {Ls : List (List Int)} (rg : Regs D (occ n P) Ls) (oc : ∀ x, x ∈ P.map (·.2) ↔ x ∈ G.map (·.2)) :
    Mutl n D P G ↔ ∀ C ∈ Ls, ∀ S ∈ parts P C, inside P S = inside G S := by
  constructor
  · intro h C hC S hS
    obtain ⟨s, hs, ic⟩ := (rg.mem C).mp hC
    unfold parts at hS
    by_cases t : (inside P C).length = C.length
    · rw [if_pos t] at hS
      obtain ⟨r0, h0, rfl⟩ := List.mem_map.mp hS
      refine (inside_iff _ nm pl.nodup).mpr fun a r r' h1 h2 => ?_
      have hr : r ∈ occ n P := pl.mem_occ.mpr (List.mem_map_of_mem (f := (·.2)) h1)
      rw [List.mem_singleton, List.mem_singleton]
      have both := h.inC nm pl plG hs ic h1 h2
      have eq : r ∈ C → r' = r := fun m => by
        obtain ⟨E, hE⟩ := isC_ex D (occ_up n P) hr
        have e := meet hs hr ic hE m hE.has
        subst e
        exact (h.2 a r r' h1 h2 _ hE).2 t
      exact ⟨fun e => (eq (e ▸ h0)).trans e, fun e => (eq (both.mpr (e ▸ h0))).symm.trans e⟩
    · rw [if_neg t] at hS
      rw [List.mem_singleton.mp hS]
      exact (inside_iff _ nm pl.nodup).mpr fun a r r' h1 h2 => h.inC nm pl plG hs ic h1 h2
  · intro h
    refine ⟨oc, fun a r r' h1 h2 C hC => ?_⟩
    have hr : r ∈ occ n P := pl.mem_occ.mpr (List.mem_map_of_mem (f := (·.2)) h1)
    have mC : C ∈ Ls := (rg.mem C).mpr ⟨r, hr, hC⟩
    have hh := h C mC
    unfold parts at hh
    by_cases t : (inside P C).length = C.length
    · rw [if_pos t] at hh
      have := (inside_iff _ nm pl.nodup).mp (hh [r] (List.mem_map.mpr ⟨r, hC.has, rfl⟩)) a r r' h1 h2
      have e : r' = r := List.mem_singleton.mp (this.mp (List.mem_singleton.mpr rfl))
      exact ⟨by rw [e]; exact hC.has, fun _ => e⟩
    · rw [if_neg t] at hh
      exact ⟨((inside_iff _ nm pl.nodup).mp (hh C (List.mem_singleton.mpr rfl)) a r r' h1 h2).mp hC.has, fun z => (t z).elim⟩
end
end Fw
set_option maxHeartbeats 2000000
namespace Fw
open PySem PySem.Spec PyProof.Rows L2
/-! reached from each other: the law of mutual reachability (math) -/
section
variable {n : Int} {D : List (Int × Int)} {P S : List (Str × Int)} {C : List Int}
/-- where no room is emptied nobody of a tight region moves -/
theorem Runs.stay (hF : Forest n D) {X : List (Str × Int)} (h : Runs n D P X S) : (P.map (·.1)).Nodup → (∀ r ∈ P.map (·.2), r ∈ S.map (·.2)) → (∀ v ∈ C, ∀ o, adj D v o → o ∈ P.map (·.2) → o ∈ C) → (∀ r ∈ C, ∀ a b, (a, r) ∈ P → (b, r) ∈ P → a = b) → ∀ nm c, (nm, c) ∈ P → c ∈ C → (nm, c) ∈ S := by
  induction h with
  | nil P => exact fun _ _ _ _ nm c m _ => m
  | @cons P X S a c r mc rn rP rest ih =>
    intro nd rm cl un nm v m hv
    have ad := hF.mem_nb.mp rn
    have cP : c ∈ P.map (·.2) := List.mem_map_of_mem (f := (·.2)) mc
    have cC : c ∉ C := fun hc => by
      obtain ⟨y, hy, ey⟩ := List.mem_map.mp (rest.rooms c (rm c cP))
      obtain ⟨y0, hy0, e1, z⟩ := mvd_mem hy
      rcases z with ⟨_, z⟩ | ⟨z1, z2⟩
      · exact hF.adj_ne ad (ey.symm.trans z)
      · have ey0 : y0 = (y0.1, c) := by rw [← ey, z2]
        exact z1 (un c hc y0.1 a (ey0 ▸ hy0) mc)
    have rC : r ∉ C := fun hr => cC (cl r hr c (adj_symm ad) cP)
    have ne : ∀ {x : Str} {u : Int}, (x, u) ∈ P → u ∈ C → x ≠ a := fun {x u} h1 h2 e => cC (by
      have : u = c := congrArg Prod.snd (key_uniq nd h1 mc e)
      rw [← this]; exact h2)
    refine ih (by rw [mvd_names]; exact nd) (fun x hx => rm x (mvd_rooms rP hx)) (fun u hu o ho hoP => cl u hu o ho (mvd_rooms rP hoP)) (fun u hu x y hx hy => ?_) nm v (mvd_other m (ne m hv)) hv
    have back : ∀ {z : Str}, (z, u) ∈ mvd P a r → (z, u) ∈ P := fun {z} hz => by
      obtain ⟨y0, hy0, e1, q⟩ := mvd_mem hz
      rcases q with ⟨_, q⟩ | ⟨_, q⟩
      · exact absurd (show u = r from q) fun e => rC (e ▸ hu)
      · rw [q]; exact hy0
    exact un u hu x y (back hx) (back hy)
theorem mutl_of (hF : Forest n D) (pl : Pl n P) (plS : Pl n S) (h : Rch n D P S) (k : Rch n D S P) : Mutl n D P S := by
  obtain ⟨X, h⟩ := h
  obtain ⟨Y, k⟩ := k
  have rms : ∀ x, x ∈ P.map (·.2) ↔ x ∈ S.map (·.2) := fun x => ⟨k.rooms x, h.rooms x⟩
  refine ⟨rms, fun nm r r' m m' C ic => ?_⟩
  have w := h.out hF pl.nodup nm r r' m m'
  have wO : Wk D (occ n P) r r' := (Wk.congr fun x => pl.mem_occ).mpr w
  refine ⟨(ic.mem r').mpr wO, fun ti => ?_⟩
  have rC : r ∈ C := (ic.mem r).mpr .base
  have rO : r ∈ occ n P := pl.mem_occ.mpr (List.mem_map_of_mem (f := (·.2)) m)
  have oc : ∀ v ∈ C, v ∈ P.map (·.2) := fun v hv => pl.mem_occ.mp (ic.sub' rO hv)
  have := h.stay hF (C := C) pl.nodup (fun x hx => (rms x).mp hx) (fun v hv o ad ho => (ic.mem o).mpr (.step ((ic.mem v).mp hv) ad (pl.mem_occ.mpr ho))) (fun x hx a b ha hb => tight_one (up_nodup ic.up) oc ti hx ha hb) nm r m rC
  exact congrArg Prod.snd (key_uniq plS.nodup m' this rfl)
end
end Fw
namespace Fw
open PySem PySem.Spec PyProof.Rows L2
theorem cmulR {i j : Int} (h0 : -1000000 ≤ j) (h1 : j ≤ 1000000) : CMul i j := .inr ⟨Int.lt_of_lt_of_le (by decide) h0, Int.lt_of_le_of_lt h1 (by decide)⟩
theorem cmulL {i j : Int} (h0 : -1000000 ≤ i) (h1 : i ≤ 1000000) : CMul i j := .inl ⟨Int.lt_of_lt_of_le (by decide) h0, Int.lt_of_le_of_lt h1 (by decide)⟩
/-- x *= e, whole numbers -/
theorem ip_mulI {X : Cx} : PIp X .Mult (fun x y H Q => ∃ i j, x = .int i ∧ y = .int j ∧ CMul i j ∧ Q (.int (i * j)) H) := by
  rintro pins s σ H _ _ v u Q I r1 r2 ⟨i, j, rfl, rfl, hc, q⟩
  obtain ⟨t, rfl⟩ := r1
  obtain ⟨t', rfl⟩ := r2
  exact imul_int ⟨.int _, H, I.tok _, ⟨_, rfl⟩, q⟩ hc.ok
/-! ### how many ways to fill all rooms -/
def fstep (r : Nat) (ws : List Int) : List Int := 0 :: (List.range r).map fun (i : Nat) => (1 + (i : Int)) * (ws.getD (i + 1) 0 + ws.getD i 0)
def fways (r : Nat) : Nat → List Int
  | 0 => 1 :: List.replicate r 0
  | m + 1 => fstep r (fways r m)
def full (m r : Nat) : Int := (fways r m).getD r 0
theorem fways_len (r : Nat) : ∀ m, (fways r m).length = r + 1
  | 0 => by rw [fways, List.length_cons, List.length_replicate]
  | m + 1 => by rw [fways, fstep, List.length_cons, List.length_map, List.length_range]
theorem rep0' : ∀ r : Nat, (List.replicate r [V.int 0]).flatten = vi (List.replicate r 0)
  | 0 => rfl
  | r + 1 => by
    rw [List.replicate_succ, List.flatten_cons, rep0' r, List.replicate_succ]
    rfl
theorem rep0 (r : Nat) : [V.int 1] ++ (List.replicate r [V.int 0]).flatten = vi (fways r 0) := by
  rw [fways, rep0']
  rfl
theorem get_at {ws : List Int} {i : Nat} (h : i < ws.length) : atI (vi ws) (i : Int) = some (.int (ws.getD i 0)) := by
  refine atI_nat ?_
  rw [List.getElem?_map, List.getElem?_eq_getElem h, List.getD_eq_getElem?_getD, List.getElem?_eq_getElem h]
  rfl
def chs (r : Nat) : Nat → Int × Int
  | 0 => (1, 1)
  | j + 1 => (((chs r j).1 * ((r : Int) - (0 + (j : Int)))).fdiv (0 + (j : Int) + 1), 0 - (chs r j).2)
def sjf (m r : Nat) : Nat → Int
  | 0 => 0
  | j + 1 => sjf m r j + (chs r j).2 * (chs r j).1 * ((r : Int) - (0 + (j : Int))) ^ m
theorem chs_small : ∀ (r : Fin 9) (j : Fin 10), -1000 ≤ (chs r j).1 ∧ (chs r j).1 ≤ 1000 ∧ -1 ≤ (chs r j).2 ∧ (chs r j).2 ≤ 1 := by decide +kernel
theorem full_sjf : ∀ (m : Fin 13) (r : Fin 9), full m r = sjf m r (r.val + 1) ∧ -(2 ^ 64) < full m r ∧ full m r < 2 ^ 64 := by decide +kernel
/-- the factor of a region -/
def fac (P : List (Str × Int)) (C : List Int) : Int := if (inside P C).length = C.length then 1 else full (inside P C).length C.length
def csz (P : List (Str × Int)) (Ls : List (List Int)) : Int := Ls.foldl (fun a C => a * fac P C) 1
theorem csz_snoc {P : List (Str × Int)} {Ls : List (List Int)} {i : Nat} {C : List Int} (h : Ls[i]? = some C) : csz P (Ls.take (i + 1)) = csz P (Ls.take i) * fac P C := by
  unfold csz
  rw [take_snoc h, List.foldl_append]
  rfl
theorem fac_mul {P : List (Str × Int)} {C : List Int} (lP : P.length ≤ 12) (lC : C.length ≤ 8) (i : Int) : CMul i (full (inside P C).length C.length) := by
  have h := inside_len P C
  exact .inr (full_sjf ⟨(inside P C).length, by omega⟩ ⟨C.length, by omega⟩).2
section
variable {P : Program} {w : World} {K : PySem.W.Frag} {mg : Str → Option Value} {base : Heap}
def spFullA : Sp := fun vs H Q _ => ∃ (m r : Nat), vs = [.int m, .int r] ∧ m ≤ 100 ∧ r ≤ 20 ∧ ∀ H', Same H H' → Q (.int (full m r)) H'
abbrev nFullA : List Str := ["people", "rooms", "ways", "person", "k"]
theorem scFullA : FnScope nFullA ["people", "rooms"] (defScope sFullA) := ⟨rfl, rfl, rfl, by decide +kernel, rfl, by decide +kernel, by decide +kernel⟩
theorem ok_fulla {f : Addr} {fd : FuncData} {k : Nat} (F : Fun K "full_assignments" "full_assignments" sFullA f fd) (T : Nm mg) : FnOk P w K mg base CX0 (k + 1) f fd ["people", "rooms"] spFullA := by
  refine F.ok scFullA (fun vs H Q E h => ?_) (fun cdv A outer s H vs Q E hr h => ?_)
  · obtain ⟨m, r, rfl, _⟩ := h
    rfl
  · obtain ⟨m, r, rfl, m1, r1, q⟩ := h
    refine ⟨_, (pss_cons (ps_set (i := 2) scFullA.nd rfl (.inr rfl) (pe_op op_cat (pe_lst (pa_cons pe_int pa_nil)) (pe_op op_rep (pe_lst (pa_cons pe_int pa_nil)) (pv 1))))
      (pss_cons (ps_for PassesOwn.never rfl (pi_range1 (by rfl) T.range (pa_cons (pv 0) pa_nil)) (pg_name (i := 3) scFullA.nd rfl (.inl rfl))
      (pss_one (ps_set (i := 2) scFullA.nd rfl (.inr rfl) (pe_op op_cat (pe_lst (pa_cons pe_int pa_nil)) (pe_lc (own := [("k", 4)]) (g := gName 4) (by rfl) scFullA.nd (pi_range2 (by rfl) T.range (pa_cons pe_int (pa_cons (pe_op op_add (pv 1) pe_int) pa_nil)))
 (blkOk_by (own := [("k", 4)]) (N := nFullA) (sc := defScope sFullA) (by decide +kernel))
 (fun _ _ _ _ _ => (pg_name (i := 4) scFullA.nd rfl (.inl rfl))) (fun _ _ _ _ _ => pts_nil) (fun _ _ _ _ _ => (pe_op op_mul (pv 4) (pe_op op_add (pe_ix (ix_listK K rfl) (pv 2) (pv 4) (fun _ _ => rfl)) (pe_ix (ix_listK K rfl) (pv 2) (pe_op op_sub (pv 4) pe_int) (fun _ _ => rfl))))))))))
      (pss_one (ps_ret (pe_ix (ix_listK K rfl) (pv 2) (pv 1) (fun _ _ => rfl)))))), ?_⟩
    refine ⟨by show 1 ≤ sizeLine; decide, fun a ha => ⟨by show 1 ≤ sizeLine; decide, fun b hb => ⟨_, rfl, b, _, _, rfl, rfl, upd_same, by omega, by omega, ?_, fun c hc => ?_⟩⟩⟩
    · simp only [List.length_cons, List.length_nil]
      exact Nat.le_of_lt (small1000 (by omega))
    have sb := (same_upd (o := .lst [.int 1]) ha).trans (same_upd (o := .lst [.int 0]) hb)
    have ea := (same_upd (o := .lst [.int 0]) hb).trans (same_upd (o := .lst (List.replicate (r : Int).toNat [V.int 0]).flatten) hc) _ _ (upd_same (H := H) (a := a) (o := .lst [.int 1]))
    refine ⟨a, c, _, _, rfl, rfl, ea, upd_same, ?_, fun W hW => ?_⟩
    · simp only [List.length_cons, List.length_nil, List.length_flatten, List.map_replicate, List.sum_replicate_nat]
      exact Nat.le_of_lt (small1000 (by omega))
    have sc := sb.trans (same_upd (o := .lst (List.replicate (r : Int).toNat [V.int 0]).flatten) hc)
    have ew : [V.int 1] ++ (List.replicate (r : Int).toNat [V.int 0]).flatten = vi (fways r 0) := by
      rw [show (r : Int).toNat = r by omega]
      exact rep0 r
    refine ⟨_, rfl, m, rfl, by omega, by omega, for_range (lo := 0) (n := (m : Int).toNat) (fun i σ' H' => ∃ W' y3 y4, σ' = [some (.int m), some (.int r), some (.ref W'), y3, y4] ∧ Same H H' ∧ H' W' = some (.lst (vi (fways r i))))
      ⟨_, _, _, rfl, sc.trans (same_upd hW), by rw [upd_same, ew]⟩ ?_ ?_⟩
    · rintro i σ' H1 hi ⟨W1, y3, y4, rfl, s1, e1⟩
      have l1 := fways_len r i
      refine ⟨by show 1 ≤ sizeLine; decide, fun a1 ha1 => ?_⟩
      have s2 := same_upd (o := .lst [.int 0]) ha1
      refine ⟨_, rfl, _, _, rfl, rfl, 1, _, rfl, ⟨by decide, by decide, by omega, by omega⟩, fun L hL => lc_range (lo := 1) (n := ((r : Int) + 1 - 1).toNat) (fun j H' => Same (upd H1 a1 (.lst [.int 0])) H' ∧ H' L = some (.lst (vi ((List.range j).map fun (i' : Nat) => (1 + (i' : Int)) * ((fways r i).getD (i' + 1) 0 + (fways r i).getD i' 0)))))
        ⟨same_upd hL, upd_same⟩ ?_ ?_⟩
      · rintro j H2 hj ⟨s3, e3⟩
        have g1 : atI (vi (fways r i)) (1 + (j : Int)) = some (.int ((fways r i).getD (j + 1) 0)) := by
          have := get_at (ws := fways r i) (i := j + 1) (by omega)
          rw [show ((j + 1 : Nat) : Int) = 1 + (j : Int) by omega] at this
          exact this
        have g2 : atI (vi (fways r i)) (1 + (j : Int) - 1) = some (.int ((fways r i).getD j 0)) := by
          have := get_at (ws := fways r i) (i := j) (by omega)
          rw [show ((j : Nat) : Int) = 1 + (j : Int) - 1 by omega] at this
          exact this
        have eW := s3 _ _ (s2 _ _ e1)
        refine ⟨rfl, ?_⟩
        unfold tYes
        refine iteT ⟨_, rfl, _, rfl, _, rfl, W1, _, _, _, rfl, rfl, SqL.of eW, g1, _, rfl, _, rfl, _, _, rfl, rfl, W1, _, _, _, rfl, rfl, SqL.of eW, g2, _, _, rfl, rfl, _, _, rfl, rfl, cmulL (by omega) (by omega), _, e3, ?_, same_put s3 hL, ?_⟩
        · rw [List.length_map, List.length_map, List.length_range]
          exact small1000 (by omega)
        · rw [upd_same, List.range_succ, List.map_append, vi_app]
          rfl
      · rintro H2 ⟨s3, e3⟩
        refine ⟨a1, L, _, _, rfl, rfl, s3 _ _ upd_same, e3, ?_, fun W2 hW2 => ?_⟩
        · rw [List.length_map, List.length_map, List.length_range]
          exact Nat.le_of_lt (small1000 (by simp only [List.length_cons, List.length_nil]; omega))
        refine ⟨W2, _, _, rfl, (s1.trans (s2.trans s3)).trans (same_upd hW2), ?_⟩
        rw [upd_same, fways, fstep, show ((r : Int) + 1 - 1).toNat = r by omega]
        rfl
    · rintro σ' H1 ⟨W1, y3, y4, rfl, s1, e1⟩
      rw [show (m : Int).toNat = m by omega] at e1
      have l1 := fways_len r m
      exact ⟨_, rfl, _, rfl, W1, _, _, _, rfl, rfl, SqL.of e1, get_at (by omega), q _ s1⟩
def spCSize : Sp := fun vs H Q _ => ∃ (h p : Addr) (n : Int) (D : List (Int × Int)) (P : List (Str × Int)), vs = [.ref h, .ref p] ∧ HouseAt H h n D ∧ Forest n D ∧ 0 ≤ n ∧ n ≤ 8 ∧ PlAt H p P ∧ Pl n P ∧ P.length ≤ 12 ∧
  ∀ H' Ls, Same H H' → Regs D (occ n P) Ls → Q (.int (csz P Ls)) H'
abbrev nCSize : List Str := ["house", "placement", "size", "region"]
theorem scCSize : FnScope nCSize ["house", "placement"] (defScope sCSize) := ⟨rfl, rfl, rfl, by decide +kernel, rfl, by decide +kernel, by decide +kernel⟩
theorem ok_csize {f : Addr} {fd : FuncData} {k : Nat} (F : Fun K "class_size" "class_size" sCSize f fd) (T : Nm mg) (Cfind_regions : Cal P w K mg base (k + 4) "find_regions" pHP spFReg) (Cis_tight : Cal P w K mg base (k + 4) "is_tight" pSurp (spTight K))
    (Cpeople_within : Cal P w K mg base (k + 4) "people_within" pPWi (spPWi K)) (Cfull : Cal P w K mg base (k + 4) "full_assignments" ["people", "rooms"] spFullA) : FnOk P w K mg base CX0 (k + 5) f fd pHP spCSize := by
  refine F.ok scCSize (fun vs H Q E h => ?_) (fun cdv A outer s H vs Q E hr h => ?_)
  · obtain ⟨h, p, n, D, P, rfl, _⟩ := h
    rfl
  · obtain ⟨h, p, n, D, P, rfl, hH, hF, n0, n1, hP, pl, lP, q⟩ := h
    refine ⟨_, (pss_cons (ps_set (i := 2) scCSize.nd rfl (.inl rfl) pe_int)
      (pss_cons (ps_for PassesOwn.never rfl (pi_tupK K rfl (pe_cal Cfind_regions hr (by rfl) (pa_cons (pv 0) (pa_cons (pv 1) pa_nil)))) (pg_name (i := 3) scCSize.nd rfl (.inl rfl))
      (pss_one (ps_if (pt_not (pt_val (pe_cal Cis_tight hr (by rfl) (pa_cons (pv 1) (pa_cons (pv 3) pa_nil)))))
       (pss_one (ps_aug (i := 2) scCSize.nd rfl (.inl rfl) (pe_cal Cfull hr (by rfl) (pa_cons (pe_callB (call_lenK K rfl) (by rfl) T.len (by decide +kernel) (pa_cons (pe_cal Cpeople_within hr (by rfl) (pa_cons (pv 1) (pa_cons (pv 3) pa_nil))) pa_nil)) (pa_cons (pe_callB (call_lenK K rfl) (by rfl) T.len (by decide +kernel) (pa_cons (pv 3) pa_nil)) pa_nil))) ip_mulI))
       pss_nil)))
      (pss_one (ps_ret (pv 2))))), ?_⟩
    refine ⟨_, rfl, _, rfl, h, p, n, D, P, rfl, hH, hF, n0, n1, hP, by omega, fun H1 t Cs s1 hC => ?_⟩
    obtain ⟨e1, tC, lC, RC⟩ := hC
    refine ⟨t, rfl, ⟨_, SqT.of e1⟩, for_tup (K := K) (a := t) (xs := refs Cs) (fun i σ' H' => ∃ y3, σ' = [some (.ref h), some (.ref p), some (.int (csz P ((Cs.map (·.2)).take i))), y3] ∧ Same H1 H')
      ⟨_, rfl, Same.refl _⟩ (fun i σ' H' _ hh => ?_) ?_ ?_⟩
    · obtain ⟨_, _, s'⟩ := hh
      exact SqT.of (s' _ _ e1)
    · rintro i x σ' H2 hx ⟨y3, rfl, s2⟩
      obtain ⟨c, hc, rfl⟩ := get_refs hx
      have hcm := List.mem_of_getElem? hc
      have hck : (Cs.map (·.2))[i]? = some c.2 := by rw [List.getElem?_map, hc]; rfl
      have hCm := List.mem_of_getElem? hck
      have lc := RC.small n1 hCm
      have li := inside_len P c.2
      have ec := csz_snoc (P := P) hck
      have tc := tC.same s2 c hcm
      refine ⟨_, rfl, _, rfl, p, c.1, P, c.2, rfl, hP.same (s1.trans s2), SqT.of tc.1, by omega, fun H3 s3 => ⟨_, rfl, ?_⟩⟩
      unfold fac at ec
      refine ite2 (fun z => ?_) (fun z => ?_)
      · have z : ¬ (inside P c.2).length = c.2.length := by simpa using z
        rw [if_neg z] at ec
        refine ⟨_, rfl, _, rfl, _, rfl, p, c.1, P, c.2, rfl, hP.same ((s1.trans s2).trans s3), SqT.of (s3 _ _ tc.1), by omega, fun H4 u s4 e4 => ⟨u, _, rfl, .inr (SqT.of e4), _, rfl, c.1, _, rfl, .inr (SqT.of (s4 _ _ (s3 _ _ tc.1))), (inside P c.2).length, c.2.length, ?_, by omega, by omega, fun H5 s5 => ⟨_, _, rfl, rfl, fac_mul lP lc _, some (.ref c.1), ?_, (s2.trans s3).trans (s4.trans s5)⟩⟩⟩
        · simp only [List.length_map]
          rfl
        · rw [ec]
          rfl
      · have z : (inside P c.2).length = c.2.length := by simpa using z
        rw [if_pos z, Int.mul_one] at ec
        refine ⟨some (.ref c.1), ?_, s2.trans s3⟩
        rw [ec]
        rfl
    · rintro σ' H2 ⟨y3, rfl, s2⟩
      have el : (refs Cs).length = (Cs.map (·.2)).length := by rw [refs, List.length_map, List.length_map]
      refine ⟨_, rfl, ?_⟩
      have q := q H2 (Cs.map (·.2)) (s1.trans s2) RC
      rw [el, List.take_length]
      exact q
end
end Fw
set_option maxHeartbeats 2000000
namespace Fw
open PySem PySem.Spec PyProof.Rows L2
/-- what the written part says of one of the error classes -/
structure EC (K : PySem.W.Frag) (C : Addr) : Prop where
  o : OexC K C
  x : XfC K C
  cl : (PySem.W.clsIn K C).isSome = true
  ofc : PySem.W.findIn K (.ref C) "__class__" = some (some (.builtin "object.__class__"))
  sp : PySem.W.specialIn K (.builtin "object.__class__") "__get__" = some (some (.builtin "getset_descriptor.__get__"))
  tk : PySem.W.takesIn K (.builtin "object.__class__") = some true
  mo : PySem.W.mroIn K C (.type "object") = some true
/-- C(e, ..) as a value: the exception stays tracked -/
def tMkV (C : Addr) (sp : Sp) (ta : TA) : TE := fun σ H Q => ta σ H fun vs H1 => vs.length ≤ 1000 ∧ ∀ a, H1 a = none → sp (.ref a :: vs) (upd H1 a (exo a C none)) (fun v H2 => v = .non ∧ Q (.ref a) H2) E0
section
variable {X : Cx} {e : Expr} {es : List Expr} {ta : TA} {p pos : Pos}
theorem run_oex {C fI : Addr} {k : Nat} {fd : FuncData} {ps : List Str} {sp : Sp} {pins : List (Addr × Obj)} {σ : L2.St} {H1 : Hp} {z : Shared} {us : List Value} {vs : List V} {Q : VK} (T : OexC X.K C) (iC : PySem.W.findIn X.K (.ref C) "__init__" = some (some (.ref fI))) (tI : PySem.W.typeIn X.K (.ref fI) = some (.type "function"))
    (F1 : FnOk X.prog X.w X.K X.mg X.base CX0 k fI fd ps sp) (hr : Room (k + 1) X.A) (hb : Binds X.K fd ps []) (I1 : Inv X pins σ H1 z) (r1 : Vals vs us) (hz : vs.length ≤ 1000)
    (qi : ∀ a, H1 a = none → sp (.ref a :: vs) (upd H1 a (exo a C none)) (fun v H2 => v = .non ∧ Q (.ref a) H2) E0) : wpAny (model X.prog X.w) X.A (call (.ref C) us) (EP X pins σ Q) X.xe z := by
  obtain ⟨_, _, _, _, bm, _, _, _, _, _, _, _, _, _, _, hC, hbm⟩ := T.cls
  obtain ⟨hp, g, dr, tk, os⟩ := z
  have le : hp.objs.size ≤ hp.objs.size + 1 := Nat.le_succ _
  have hq := qi (hp.objs.size + 1) (I1.hok.fresh le)
  have at2 : ((hp.push (PySem.W.kdv_tup us)).push (PySem.HandSPX.excO C hp.objs.size)).get? (hp.objs.size + 1) = some (PySem.HandSPX.excO C hp.objs.size) := by heap_get
  have Jn : Inv X pins σ (upd H1 (hp.objs.size + 1) (exo (hp.objs.size + 1) C none)) ⟨(hp.push (PySem.W.kdv_tup us)).push (PySem.HandSPX.excO C hp.objs.size), g, dr, tk, os⟩ :=
    I1.laid (t' := tk) (fun b o e => Heap.get?_push_of_some _ (Heap.get?_push_of_some _ e)) le (exo_ok at2)
  have rs : Vals (V.ref (hp.objs.size + 1) :: vs) (Value.ref (hp.objs.size + 1) :: us) := .cons rfl r1
  have ln : (Value.ref (hp.objs.size + 1) :: us ++ []).length = ps.length := by
    rw [List.append_nil, ← rs.length]
    exact F1.len _ _ _ _ hq
  have few : us.length ≤ sizeLine := by
    rw [← r1.length, sizeLine_eq]
    omega
  have bi := hb _ (Value.ref (hp.objs.size + 1) :: us) Jn.kIn ln
  rw [List.append_nil] at bi
  refine wpAny_call (PySem.HandSPX.call_own F.excBase_ValueError (fun Y => PySem.HandSPX.refsVE_contains Y bm hbm) (I1.kIn _ _ hC) (PySem.W.looks_findIn I1.kIn iC) (fun self => PySem.W.bind_fn I1.kIn self tI) few
    (codeAny_mono (F1.run _ X.stack _ _ ⟨Value.ref (hp.objs.size + 1) :: us, []⟩ (Value.ref (hp.objs.size + 1) :: us) _ _ E0 (hr.make C us []) (Jn.env0.make C us []) bi rs hq) ?_))
  intro r z' e
  match r, e with
  | .error _, e => exact e.elim
  | .ok .next, e => exact e.elim
  | .ok .brk, e => exact e.elim
  | .ok .cont, e => exact e.elim
  | .ok (.ret u), e =>
    obtain ⟨v, H2, J, rv, ev, qv⟩ := Jn.after e
    subst ev
    exact ⟨rv, .ref (hp.objs.size + 1), H2, J, rfl, qv⟩
theorem pe_oex {x : Str} {C fI : Addr} {k : Nat} {fd : FuncData} {ps : List Str} {sp : Sp} (T : OexC X.K C) (iC : PySem.W.findIn X.K (.ref C) "__init__" = some (some (.ref fI))) (tI : PySem.W.typeIn X.K (.ref fI) = some (.type "function"))
    (F1 : FnOk X.prog X.w X.K X.mg X.base CX0 k fI fd ps sp) (hr : Room (k + 1) X.A) (hb : Binds X.K fd ps []) (hg : Gl X x) (hm : X.mg x = some (.ref C)) (ha : PA X (e :: es) ta)
    (hdb : (x == ("__debug__" : Str)) = false := by decide) (h1 : starEach (e :: es) X.env = (false, eval e X.env) :: starEach es X.env := by rfl) (h2 : (backTo pos (starEach es X.env)).any (·.1) = false := by rfl) :
    PE X (.Call (.Name x p) (e :: es) [] pos) (tMkV C sp ta) := by
  constructor
  intro pins z σ H Q I h
  refine wpAny_Call_Name_kw (ld_glob I hg hm (PySem.W.callWith_K (h₀ := X.base) I.ok.mod.kin T.kC (thn (ha.run pos pins z σ H _ I h) ?_) h1 h2) hdb)
  rintro us z1 ⟨vs, H1, I1, r1, hz, q1⟩
  exact ⟨I1.kIn, run_oex T iC tI F1 hr hb I1 r1 hz q1⟩
theorem pe_oex0 {x : Str} {C fI : Addr} {k : Nat} {fd : FuncData} {ps : List Str} {sp : Sp} (T : OexC X.K C) (iC : PySem.W.findIn X.K (.ref C) "__init__" = some (some (.ref fI))) (tI : PySem.W.typeIn X.K (.ref fI) = some (.type "function"))
    (F1 : FnOk X.prog X.w X.K X.mg X.base CX0 k fI fd ps sp) (hr : Room (k + 1) X.A) (hb : Binds X.K fd ps []) (hg : Gl X x) (hm : X.mg x = some (.ref C)) (hdb : (x == ("__debug__" : Str)) = false := by decide) : PE X (.Call (.Name x p) [] [] pos) (tMkV C sp tNil) := by
  constructor
  intro pins z σ H Q I h
  obtain ⟨hz, q1⟩ := h
  exact wpAny_Call_Name_kw (ld_glob I hg hm (PySem.W.callWith_K0 I.kIn T.kC (run_oex T iC tI F1 hr hb I .nil hz q1)) hdb)
/-- e.f of such an exception -/
def tEf (K : PySem.W.Frag) (f : Str) (te : TE) : TE := fun σ H Q => te σ H fun x H1 => ∃ (a C dx : Addr) (fs : List (Str × V)) (v : V), x = .ref a ∧ XfC K C ∧ PySem.W.findIn K (.ref C) f = some none ∧ H1 a = some (exo a C (some dx)) ∧ H1 dx = some (exd dx fs) ∧ fs.lookup f = some v ∧ Q v H1
theorem pe_ef {te : TE} {f : Str} (he : PE X e te) (hb : attributeBase e f X.env (eval e X.env) = eval e X.env := by rfl) : PE X (.Attribute e f pos) (tEf X.K f te) := by
  constructor
  intro pins z σ H Q I h
  refine attr_of hb (thn (he.run pins z σ H _ I h) ?_)
  rintro u z1 ⟨x, H1, I1, rx, a, C, dx, fs, v, rfl, T, no, ea, ed, l, q⟩
  obtain rfl : u = Value.ref a := rx
  obtain ⟨t1, ho⟩ := exo_at I1.hok ea
  obtain ⟨mA, ns, hr⟩ := exd_at I1.hok ed
  obtain ⟨od, hod, hl⟩ := lookIn_ns ns
  obtain ⟨u, hu, ru⟩ := RelO.some_of (v := v) (o := mA f) (by rw [← l]; exact hr f)
  have J : PySem.W.InstAt z1.heap a _ C (some od) := ⟨ho, rfl, rfl, hod⟩
  exact HandSPX.exc_get I1.kIn J T.ga T.gg T.exC (PySem.W.findObj_own T.hdC no rfl (by rw [hl, hu])) (handed_of ru) ⟨v, H1, I1.tok _, ru, q⟩
/-- isinstance(e, c) of such an exception -/
def rIsX (K : PySem.W.Frag) : List V → Hp → VK → Prop := fun xs H Q => ∃ (a D : Addr) (c : V) (cv : Value) (d : Option Addr) (b : Bool), xs = [.ref a, c] ∧ ClsV c cv ∧ EC K D ∧ H a = some (exo a D d) ∧ (∀ dx, d = some dx → ∃ fs, H dx = some (exd dx fs)) ∧ PySem.W.kitOne K (.ref D) cv = some b ∧ Q (.bl b) H
theorem call_isX : CallR X (.builtin "isinstance") (rIsX X.K) := by
  intro pn sh σ H xs us Q J rr hx
  obtain ⟨a, D, c, cv, d, b, rfl, k, T, ea, hd, e, q⟩ := hx
  obtain ⟨ua, ub, rfl, ra, rb⟩ := vals2 rr
  have e2 := k.eq rb
  subst e2
  cases (show ua = Value.ref a from ra)
  obtain ⟨t1, ho⟩ := exo_at J.hok ea
  have M : ∃ od, PySem.W.InstAt sh.heap a { cls := .ref D, dict := d, data := .fields #[.ref t1, .none, .none, .none, .bool false, .none] } D od := by
    cases d with
    | none => exact ⟨none, ho, rfl, rfl, trivial⟩
    | some dx =>
      obtain ⟨fs, ed⟩ := hd dx rfl
      obtain ⟨mA, ns, _⟩ := exd_at J.hok ed
      obtain ⟨od, hod, _⟩ := lookIn_ns ns
      exact ⟨some od, ho, rfl, rfl, hod⟩
  obtain ⟨od, M⟩ := M
  exact PySem.W.kia_one (PySem.W.kitx_exc T.cl T.x.ga T.x.gg T.x.exC T.ofc T.sp T.tk T.mo) J.kIn M e (fun z => nomatch z) fun tk => ⟨.bl b, H, J.tok tk, rfl, q⟩
/-- l.count(True), l a list of bools -/
def rCntB (K : PySem.W.Frag) : V → List V → Hp → VK → Prop := fun x xs H Q => ∃ (p : Addr) (bs : List Bool), x = .ref p ∧ xs = [.bl true] ∧ SqL K H p (bs.map V.bl) ∧ Q (.int ((bs.count true : Nat) : Int)) H
def isT : Value → Bool
  | .bool b => b
  | _ => false
theorem mt_countB : MtR X "list.count" (rCntB X.K) := by
  intro pn s σ H x xs v us Q I rx rys hx
  obtain ⟨p, bs, rfl, rfl, hs, q⟩ := hx
  cases rx
  obtain ⟨ut, rfl, rt⟩ := rys.one
  cases (show ut = Value.bool true from rt)
  obtain ⟨its, rv, ⟨⟨oc, dd, od, sl⟩, n, ho, hc, _, hd⟩, _⟩ := I.list hs
  simp only at hc hd
  subst hc hd
  have all : ∀ {bs : List Bool} {us : List Value}, Vals (bs.map V.bl) us → (∀ y ∈ us, ∃ b, y = Value.bool b) ∧ us.countP isT = bs.count true := by
    intro bs
    induction bs with
    | nil => intro us r; cases r; exact ⟨fun y hy => (by cases hy), rfl⟩
    | cons b bs ih =>
      intro us r
      cases r with
      | cons r rr =>
        obtain ⟨h1, h2⟩ := ih rr
        have e := (show _ = Value.bool b from r)
        subst e
        refine ⟨fun y hy => ?_, ?_⟩
        · rcases List.mem_cons.mp hy with e | e
          · exact ⟨b, e⟩
          · exact h1 y e
        · rw [List.countP_cons, List.count_cons, h2]
          cases b <;> rfl
  obtain ⟨h1, h2⟩ := all rv
  refine call_meets PySem.F.slot_list_count ⟨_, ho, rfl⟩ PySem.F.entry_list_count (PySem.F.args_list_count_2 _ _) (SeqAt.list_countAt p its.toArray n dd sl (.bool true) isT) ⟨ho, fun y hy => ?_, ?_⟩
  · obtain ⟨b, rfl⟩ := h1 y (by simpa using hy)
    have := SeqAt.EqAt.bool_bool (A := X.A.in1) (s := s) b true
    rw [show (b == true) = isT (.bool b) by cases b <;> rfl] at this
    exact this
  · refine ⟨.int ((bs.count true : Nat) : Int), H, I.tok _, ⟨s.toks, ?_⟩, q⟩
    show Value.int ((its.toArray.toList.countP isT : Nat) : Int) s.toks = _
    rw [← h2]
end
end Fw
set_option maxHeartbeats 2000000
namespace Fw
open PySem PySem.Spec PyProof.Rows L2
/-- the classes above an error class, without itself -/
abbrev above (E : Addr) : List Value := [.ref E, .type "ValueError", .type "Exception", .type "BaseException", .type "object"]
/-- an error class by its place, with its __init__ -/
structure CF (K : PySem.W.Frag) (mg : Str → Option Value) (x : Str) (q : Str) (st : Stmt) (ps : List Str) (E C : Addr) (f : Addr) (fd : FuncData) : Prop where
  e : EC K C
  g : mg x = some (.ref C)
  mro : ∃ cd, PySem.W.clsIn K C = some cd ∧ cd.mro = .ref C :: above E
  i : PySem.W.findIn K (.ref C) "__init__" = some (some (.ref f))
  t : PySem.W.typeIn K (.ref f) = some (.type "function")
  F : Fun K "__init__" q st f fd
  b : Binds K fd ps []
theorem cf_mk {K : PySem.W.Frag} {h : Heap} {mg : Str → Option Value} {x q : Str} {st : Stmt} {ps : List Str} {E C f : Addr}
    {nm qn : Str} {N : Addr} {bs : List Value} {sn : List Str} {sub : List Value} {ab : Bool} {col : Option Bool} {dd : Option Addr} {m0 m1 m2 m3 m5 : Option Value}
    {od an : Option Addr} {sl : Array (Option Value)} {oc kV dc pm cd ct : Value} (X : K.In h) (G : h.Ns mainGlobals mg)
    (hb : ∀ fd, Fun K "__init__" q st f fd → Binds K fd ps [])
    (aC : PySem.W.nsIn K mainGlobals x = some (some (.ref C)))
    (xL : K.lookup C = some (excClassObj nm qn C N bs (above E) true sn sub ab col dd m0 m1 m2 m3 m5 "ValueError.__new__"))
    (sa : PySem.W.findIn K (.ref C) "__setattr__" = some (some (.builtin "object.__setattr__"))) (ga : PySem.W.findIn K (.ref C) "__getattribute__" = some (some (.builtin "BaseException.__getattribute__"))) (gg : PySem.W.findIn K (.ref C) "__getattr__" = some none)
    (a1 : PySem.W.findIn K (.ref C) "__init__" = some (some (.ref f))) (t1 : PySem.W.typeIn K (.ref f) = some (.type "function"))
    (l1 : K.lookup f = some ⟨oc, od, .func (PySem.W.fnOf "__init__" q (defArgs st) (defBody st) (defScope st) .none kV dc pm an cd ct), sl⟩) (c1 : PySem.W.codeIn K cd q = true) (k1 : PySem.W.keepIn K (.ref f) = true)
    (kC : PySem.W.keepIn K (.ref C) = true) (tC : PySem.W.typeIn K (.ref C) = some (.type "type")) (hC : PySem.W.hasDictIn K C = true)
    (ca : PySem.W.findIn K (.ref C) "__class__" = some (some (.builtin "object.__class__")))
    (sp : PySem.W.specialIn K (.builtin "object.__class__") "__get__" = some (some (.builtin "getset_descriptor.__get__"))) (tk : PySem.W.takesIn K (.builtin "object.__class__") = some true) :
    ∃ fd, CF K mg x q st ps E C f fd := by
  have cl : PySem.W.clsIn K C = some { name := nm, bases := bs, mro := .ref C :: above E, ns := N, qualname := qn, hasDict := true, slotNames := sn, subclasses := sub, abstract := ab, collection := col, hasDel := false } := by
    unfold PySem.W.clsIn
    rw [xL]
  have mr : ∀ v, PySem.W.mroIn K C v = some ((Value.ref C :: above E).contains v) := fun v => by
    unfold PySem.W.mroIn
    rw [cl]
    rfl
  have exC : PySem.W.subIn K (.ref C) (.type "BaseException") = some true := (mr _).trans rfl
  have F1 := fun_mk (st := st) l1 c1 k1
  refine ⟨_, ⟨⟨⟨nm, qn, N, bs, _, sn, sub, ab, col, dd, m0, m1, m2, m3, m5, xL, rfl⟩, sa, exC, tC, kC⟩, ⟨ga, gg, exC, hC⟩, by rw [cl]; rfl, ca, sp, tk, (mr _).trans rfl⟩, PySem.W.mg_of X G aC, ⟨_, cl, rfl⟩, a1, t1, F1, hb _ F1⟩
end Fw
set_option maxHeartbeats 2000000
namespace Fw
open PySem PySem.Spec PyProof.Rows L2
/-- what the __init__ of an error with a field does -/
def spIniF (f : Str) (C : Addr) : Sp := fun vs H Q _ => ∃ (a : Addr) (v : V), vs = [.ref a, v] ∧ H a = some (exo a C none) ∧ ∀ dx, H dx = none → dx ≠ a → Q .non (upd (upd H dx (exd dx [(f, v)])) a (exo a C (some dx)))
/-- an error class of the text with one field -/
def CE (K : PySem.W.Frag) (mg : Str → Option Value) (x q fld : Str) (st : Stmt) : Prop := ∃ E C f fd, CF K mg x q st ["self", fld] E C f fd ∧ PySem.W.findIn K (.ref C) fld = some none
/-- an error class that can be raised, by its name -/
structure ErR (P : Program) (w : World) (K : PySem.W.Frag) (mg : Str → Option Value) (base : Heap) (x fld : Str) (E C : Addr) : Prop where
  e : EC K C
  g : mg x = some (.ref C)
  mro : ∃ cd, PySem.W.clsIn K C = some cd ∧ cd.mro = .ref C :: above E
  no : PySem.W.findIn K (.ref C) fld = some none
  i : ∃ f fd, PySem.W.findIn K (.ref C) "__init__" = some (some (.ref f)) ∧ PySem.W.typeIn K (.ref f) = some (.type "function") ∧ Binds K fd ["self", fld] [] ∧ FnOk P w K mg base CX0 1 f fd ["self", fld] (spIniF fld C)
section
variable {P : Program} {w : World} {K : PySem.W.Frag} {mg : Str → Option Value} {base : Heap}
end
/-! ### except among the errors -/
theorem exm_ref {K : PySem.W.Frag} {D E C : Addr} (hm : ∃ cd, PySem.W.clsIn K D = some cd ∧ cd.mro = .ref D :: above E) (e : EC K C) : PySem.W.exmOne K (.ref D) (.ref C) = some (decide (C = D ∨ C = E)) := by
  obtain ⟨cd, h1, h2⟩ := hm
  unfold PySem.W.exmOne
  rw [if_pos (by rw [e.o.exC]; rfl)]
  unfold PySem.W.kitCls
  simp only [e.cl, e.o.tyC]
  rw [if_pos (by rfl)]
  show PySem.W.mroIn K D (.ref C) = _
  unfold PySem.W.mroIn
  rw [h1]
  show (if cd.mro.isEmpty then none else some (cd.mro.contains (.ref C))) = _
  rw [h2]
  show some ((Value.ref D :: above E).contains (.ref C)) = _
  by_cases e1 : C = D <;> by_cases e2 : C = E <;> simp [e1, e2]
theorem exm_two {K : PySem.W.Frag} {D E C1 C2 : Addr} (hm : ∃ cd, PySem.W.clsIn K D = some cd ∧ cd.mro = .ref D :: above E) (e1 : EC K C1) (e2 : EC K C2) (h : C1 = D ∨ C2 = D) : PySem.W.exmAny K (.ref D) [.ref C1, .ref C2] = some true := by
  unfold PySem.W.exmAny PySem.W.exmAny PySem.W.exmAny
  rw [exm_ref hm e1, exm_ref hm e2]
  show some _ = some true
  congr 1
  rcases h with h | h <;> simp [h]
/-! ### raise -/
theorem raise_end {fld : Str} {C : Addr} {v : V} {H1 : Hp} {Q : XK} (q : ∀ d H', Same H1 H' → H' d = some (.xd [(fld, v)]) → Q (.ref C) (some d) H') : ([v] : List V).length ≤ 1000 ∧ ∀ a, H1 a = none → spIniF fld C (.ref a :: ([v] ++ [])) (upd H1 a (exo a C none))
    (fun v H2 => v = .non ∧ ∃ (d : Addr) (fs : List (Str × V)), H2 a = some (exo a C (some d)) ∧ H2 d = some (exd d fs) ∧ H1 d = none ∧ Q (.ref C) (some d) (upd (del H2 a) d (.xd fs))) (fun _ _ _ => False) := by
  refine ⟨by show 1 ≤ 1000; decide, fun a ha => ⟨a, v, rfl, upd_same, fun dx h1 h2 => ?_⟩⟩
  have hd : H1 dx = none := by rw [← h1, upd_ne h2]
  refine ⟨rfl, dx, _, upd_same, (upd_ne h2).trans upd_same, hd, q _ _ (fun b o e => ?_) upd_same⟩
  have n1 : b ≠ a := ne_of_none e ha
  have n2 : b ≠ dx := ne_of_none e hd
  rw [upd_ne n2, del_ne n1, upd_ne n1, upd_ne n2, upd_ne n1]
  exact e
theorem pmk_er {X : Cx} {x fld : Str} {E C : Addr} {k : Nat} {p pos : Pos} {e : Expr} {te : TE} (R : ErR X.prog X.w X.K X.mg X.base x fld E C) (hr : Room (k + 2) X.A) (hg : Gl X x) (he : PE X e te) (hdb : (x == ("__debug__" : Str)) = false := by decide)
    (h1 : starEach [e] X.env = (false, eval e X.env) :: starEach [] X.env := by rfl) (h2 : (backTo pos (starEach [] X.env)).any (·.1) = false := by rfl) : PMk X (.Call (.Name x p) [e] [] pos) (tMkO C (spIniF fld C) [] (tCons te tNil)) := by
  obtain ⟨f, fd, a, b, c, d⟩ := R.i
  exact pmk_oex R.e.o a b (d.mono (Nat.le_add_left 1 k)) hr c .nil pass0 hg R.g (pa_cons he pa_nil (hs := h1)) hdb h1 h2
/-! ### a def that may raise, by its name -/
def CalX (P : Program) (w : World) (K : PySem.W.Frag) (mg : Str → Option Value) (base : Heap) (k : Nat) (x : Str) (ps : List Str) (sp : Sp) : Prop :=
  ∃ f fd, mg x = some (.ref f) ∧ PySem.W.keepIn K (.ref f) = true ∧ Binds K fd ps [] ∧ FnOk P w K mg base (L2.CX P w) k f fd ps sp
theorem DefE.calX {P : Program} {w : World} {K : PySem.W.Frag} {mg : Str → Option Value} {base : Heap} {x : Str} {st : Stmt} {ps : List Str} {k : Nat} {sp : Sp} (D : DefE K mg x st ps) (h : ∀ f fd, Def K mg x st f fd ps → FnOk P w K mg base (L2.CX P w) k f fd ps sp) : CalX P w K mg base k x ps sp := by
  obtain ⟨f, fd, d⟩ := D
  exact ⟨f, fd, d.g, d.F.kp, d.b, h f fd d⟩
theorem pe_calX {X : Cx} {W : WX} {k : Nat} {ps : List Str} {sp : Sp} {x : Str} {p pos : Pos} {e : Expr} {es : List Expr} {t : TA} (C : CalX X.prog X.w X.K X.mg X.base k x ps sp) (tk : Takes X W) (hr : Room k X.A) (hg : Gl X x) (ha : PA X (e :: es) t) (hdb : (x == ("__debug__" : Str)) = false := by decide)
    (h1 : starEach (e :: es) X.env = (false, eval e X.env) :: starEach es X.env := by rfl) (h2 : (backTo pos (starEach es X.env)).any (·.1) = false := by rfl) : PE X (.Call (.Name x p) (e :: es) [] pos) (tCallS sp (WE W) t) := by
  obtain ⟨f, fd, a, b, c, d⟩ := C
  exact pe_callS d hr hg a b c (fun σ => passAt tk σ) ha hdb h1 h2
/-! ### an exception that has landed, and the state around it -/
structure Air (X : Cx) (pins : List (Addr × Obj)) (B : Heap) (a : Addr) (cls : Value) (d : Option Addr) (σ : L2.St) (H : Hp) (z : Shared) : Prop where
  ex : ∃ g : Shared, Inv X pins σ H g ∧ (∀ b o, g.heap.get? b = some o → b ∉ frs X.stack → B.get? b = some o) ∧ g.heap.UpToSlots z.heap ∧ z.os = g.os
  fly : HandSPX.FlyingZ B (X.env :: X.outer) a (Zc cls d) z.heap
  free : H a = none
  bare : AllBare z.gens
section
variable {X : Cx} {pins : List (Addr × Obj)} {B : Heap} {a : Addr} {cls : Value} {d : Option Addr} {σ : L2.St} {H : Hp} {z : Shared}
theorem Air.inv (x : Air X pins B a cls d σ H z) : Inv X pins σ H z := by
  obtain ⟨g, i, k, u, o⟩ := x.ex
  exact i.landed k x.fly.1 u o x.bare
theorem Air.step {h' : Heap} (x : Air X pins B a cls d σ H z) (f : HandSPX.FlyingZ B (X.env :: X.outer) a (Zc cls d) h') (u : z.heap.UpToSlots h') : Air X pins B a cls d σ H { z with heap := h' } := by
  obtain ⟨g, i, k, u0, o⟩ := x.ex
  exact ⟨⟨g, i, k, u0.trans u, o⟩, f, x.free, x.bare⟩
theorem Air.push (x : Air X pins B a cls d σ H z) (o : Obj) : Air X pins B a cls d σ H { z with heap := z.heap.push o } := by
  have up : ∀ b q, z.heap.get? b = some q → (z.heap.push o).get? b = some q := fun b q e => Heap.get?_push_of_some _ e
  obtain ⟨c1, c2, c3, ob, fs, tb, ot, us, g1, g2, g3, g4, g5, g6, g7, g8, g9⟩ := x.fly
  exact x.step ⟨fun b q e => up b q (c1 b q e), c2, c3.of_keeps fun b q e _ => ⟨q, up b q e, rfl⟩, ob, fs, tb, ot, us, up _ _ g1, g2, g3, g4, g5, g6, up _ _ g7, g8, g9⟩ (Heap.UpToSlots.of_keeps up)
theorem Air.hold (x : Air X pins B a cls d σ H z) (fr : X.env.frame = some X.env.locals) : ∃ oe, z.heap.get? a = some oe ∧ Zc cls d oe ∧ (∃ vs, oe.data = .fields vs) ∧ Inv (X.suite a ((a, oe) :: (X.pn ++ pins))) [] σ H z := by
  obtain ⟨oe, fs, at0, zc, fd⟩ := x.fly.there
  have off : ∀ v : Env, v ∈ X.env :: X.outer → v.frame ≠ some a := by
    intro v mv ev
    obtain ⟨_, ob, at1, plain⟩ := x.fly.2.2.1.mem (List.mem_filterMap.2 ⟨v, mv, ev⟩)
    cases Option.some.inj (at0.symm.trans at1)
    exact plain fs fd
  refine ⟨oe, at0, zc, ⟨fs, fd⟩, x.inv.suite at0 fd x.free ?_ ?_⟩
  · intro same
    exact off X.env (.head _) (by rw [fr, same])
  · intro inFs
    obtain ⟨v, mv, ev⟩ := List.mem_filterMap.1 inFs
    exact off v (.tail _ mv) ev
/-- what comes of a suite, and of a try's body, told outside of it -/
theorem sp_suite {q : Addr × Obj} {D : Ends} {f : Flow} (ok : X.Ok) (h : L2.SP (X.suite a (q :: (X.pn ++ pins))) [] D f z) : L2.SP X pins D f z :=
  match f, h with
  | .next, ⟨t, G, J, w⟩ | .brk, ⟨t, G, J, w⟩ | .cont, ⟨t, G, J, w⟩ => ⟨t, G, J.unsuite ok, w⟩
  | .ret _, ⟨v, t, G, J, r, w⟩ => ⟨v, t, G, J.unsuite ok, r, w⟩
theorem sp_body {xe : Value → Shared → Prop} {D : Ends} {f : Flow} (ok : X.Ok) (h : L2.SP (X.tr (X.pn ++ pins) xe) [] D f z) : L2.SP X pins D f z :=
  match f, h with
  | .next, ⟨t, G, J, w⟩ | .brk, ⟨t, G, J, w⟩ | .cont, ⟨t, G, J, w⟩ => ⟨t, G, J.ofTry ok, w⟩
  | .ret _, ⟨v, t, G, J, r, w⟩ => ⟨v, t, G, J.ofTry ok, r, w⟩
/-- it lands -/
theorem air_of {W : WX} {xe : Value → Shared → Prop} {u : Value} {Q : Unit → Shared → Prop} {E : Value → Shared → Prop} (st : X.stack = X.env :: X.outer) (fr : X.env.frame = some X.env.locals) (ok : X.Ok) (x : XE (X.tr (X.pn ++ pins) xe) W u z)
    (k : ∀ B a cls d σ H z', u = .ref a → Air X pins B a cls d σ H z' → W cls d σ H → Q () z') :
    wpAny (model X.prog X.w) X.A (noteFrame u X.env) (fun _ y => wpAny (model X.prog X.w) X.A (setFlight u none) Q E y) E z := by
  obtain ⟨a, B, g, _, σ, H, cls, d, rfl, i, gr, us, sky, free, eo, bare, w⟩ := x
  refine Sky.land Zc.steady (ok.frames.trans (congrArg some st)) fr (st ▸ sky) fun h' fl us' => ?_
  exact k B a cls d σ H _ rfl ⟨⟨g, i.ofTry ok, gr, us.trans us', eo⟩, fl, free, bare⟩ w
/-- a class of the text, or a builtin one, by its name in a clause -/
theorem Air.name {x : Str} {c : Value} {p : Pos} {Q : Value → Shared → Prop} {E : Value → Shared → Prop} (y : Air X pins B a cls d σ H z) (fr : X.env.frame = some X.env.locals) (nm : L2.Names X x c) (h : Q c z) : wpAny (model X.prog X.w) (X.A.mark (some (.ref a))) (eval (.Name x p) X.env) Q E z := by
  obtain ⟨oe, _, _, _, J⟩ := y.hold fr
  obtain ⟨gl, nd, own | ⟨out, blt, nn⟩⟩ := nm
  · exact ld_glob J gl own h nd
  · exact ld_blt J gl out blt h nn nd
end
/-! ### try: .. except (A, B): .. , where it surely is one of the two -/
theorem ps_try_two {X : Cx} {body : List Stmt} {x1 x2 : Str} {c1 c2 : Value} {b₀ : Stmt} {suite : List Stmt} {p1 p2 tpos pos' pos : Pos} {kk : Nat} {tb : WX → TS} {ts : TS} (st : X.stack = X.env :: X.outer) (fr : X.env.frame = some X.env.locals) (n1 : L2.Names X x1 c1) (n2 : L2.Names X x2 c2)
    (hb : ∀ (W : WX) (pn : List (Addr × Obj)) (xe : Value → Shared → Prop), Takes (X.tr pn xe) W → PassesOwn (model X.prog X.w) X.A X.env xe → PSs (X.tr pn xe) body (tb W))
    (hsu : ∀ (a : Addr) (oe : Obj) (pn : List (Addr × Obj)), PSs (X.suite a ((a, oe) :: pn)) (b₀ :: suite) ts) :
    PS X (.Try body [.ExceptHandler (some (.Tuple [.Name x1 p1, .Name x2 p2] kk tpos)) none (b₀ :: suite) pos'] [] [] pos) (fun D σ H => tb (fun cls _ σ' H' => PySem.W.exmAny X.K cls [c1, c2] = some true ∧ ts D σ' H') D σ H) := by
  constructor
  intro pins z σ H D I rd
  have ok := I.ok
  have caught : ∀ (xe : Value → Shared → Prop) (u : Value) (y : Shared), XE (X.tr (X.pn ++ pins) xe) (fun cls _ σ' H' => PySem.W.exmAny X.K cls [c1, c2] = some true ∧ ts D σ' H') u y →
      wpAny (model X.prog X.w) X.A (noteFrame u X.env) (fun _ y1 => wpAny (model X.prog X.w) X.A (setFlight u none) (fun _ y2 =>
        wpAny (model X.prog X.w) X.A (handleBy u X.env [.ExceptHandler (some (.Tuple [.Name x1 p1, .Name x2 p2] kk tpos)) none (b₀ :: suite) pos']) (L2.SP X pins D) X.xe y2) X.xe y1) X.xe y := by
    intro xe u y air
    refine air_of st fr ok air fun B a cls d σ1 H1 y1 eu y1a yes => ?_
    subst eu
    refine wpAny_handleBy_cons (codeAny_handlers_test (wpAny_Tuple (wpAny_items_cons (y1a.name fr n1 (wpAny_items_cons (y1a.name fr n2 (wpAny_items_nil ⟨?_, ?_⟩))))))) fun e => nomatch e
    · show 2 ≤ sizeLine
      decide
    have y2a := y1a.push { cls := .type "tuple", data := .seq [c1, c2].toArray }
    obtain ⟨oe, at2, zc, _, _⟩ := y2a.hold fr
    have kind : PySem.W.Looks (model X.prog X.w) (y1.heap.push { cls := .type "tuple", data := .seq [c1, c2].toArray }) (typeOf (.ref a)) cls := fun _ _ _ _ keep w => wpAny_typeOf_ref (keep _ _ at2) (zc.1.symm ▸ w)
    refine (PySem.W.exm_tup2 y2a.inv.kIn kind (Heap.get?_push_size _ rfl) yes.1).here (codeAny_handlers_suite (HandSPX.lands_againZ y2a.fly fun h3 f3 u3 => ?_))
    obtain ⟨oe3, _, _, _, J3⟩ := (y2a.step f3 u3).hold fr
    exact wpAny_mono ((hsu a oe3 (X.pn ++ pins)).run [] _ _ H1 _ J3 yes.2) (fun _ _ r => sp_suite ok r) fun _ _ no => no.elim
  refine wpAny_Try_except (wpAny_mono ((hb _ (X.pn ++ pins) _ (fun u y air => caught _ u y air) PassesOwn.looking).run [] z σ H D (I.toTry _) rd) (fun f y r => ?_) fun _ _ r => r)
  have r := sp_body ok r
  match f, r with
  | .next, r => exact wpAny_execs_nil r
  | .brk, r | .cont, r | .ret _, r => exact r
end Fw
set_option maxHeartbeats 2000000
namespace Fw
open PySem PySem.Spec PyProof.Rows L2
/-- the class above all errors -/
structure HE (K : PySem.W.Frag) (mg : Str → Option Value) (E : Addr) : Prop where
  g : mg "HouseError" = some (.ref E)
  ex : PySem.W.subIn K (.ref E) (.type "BaseException") = some true
  cl : (PySem.W.clsIn K E).isSome = true
  ty : PySem.W.typeIn K (.ref E) = some (.type "type")
  m : (PySem.W.clsIn K E).map (·.mro) = some (above E)
/-- an error class of the text with one field, below E -/
def CEE (K : PySem.W.Frag) (mg : Str → Option Value) (E : Addr) (x q fld : Str) (st : Stmt) : Prop := ∃ C f fd, CF K mg x q st ["self", fld] E C f fd ∧ PySem.W.findIn K (.ref C) fld = some none
abbrev Mro (K : PySem.W.Frag) (E D : Addr) : Prop := ∃ cd, PySem.W.clsIn K D = some cd ∧ cd.mro = .ref D :: above E
theorem he_mk {K : PySem.W.Frag} {h : Heap} {mg : Str → Option Value} {E : Addr} {nm qn : Str} {N : Addr} {bs : List Value} {sn : List Str} {sub : List Value} {ab : Bool} {col : Option Bool} {dd : Option Addr} {m0 m1 m2 m3 m5 : Option Value} (X : K.In h) (G : h.Ns mainGlobals mg)
    (aE : PySem.W.nsIn K mainGlobals "HouseError" = some (some (.ref E))) (ex : PySem.W.subIn K (.ref E) (.type "BaseException") = some true)
    (xL : K.lookup E = some (excClassObj nm qn E N bs [.type "ValueError", .type "Exception", .type "BaseException", .type "object"] true sn sub ab col dd m0 m1 m2 m3 m5 "ValueError.__new__")) (ty : PySem.W.typeIn K (.ref E) = some (.type "type")) : HE K mg E := by
  have cl : ∃ cd, PySem.W.clsIn K E = some cd ∧ cd.mro = above E := by
    unfold PySem.W.clsIn
    rw [xL]
    exact ⟨_, rfl, rfl⟩
  obtain ⟨cd, h1, h2⟩ := cl
  exact ⟨PySem.W.mg_of X G aE, ex, by rw [h1]; rfl, ty, by rw [h1, ← h2]; rfl⟩
theorem HE.ne {K : PySem.W.Frag} {mg : Str → Option Value} {E C : Addr} (h : HE K mg E) (c : Mro K E C) : C ≠ E := fun e => by
  obtain ⟨cd, h1, h2⟩ := c
  have := h.m
  rw [← e, h1] at this
  simp only [Option.map_some, Option.some.injEq] at this
  rw [h2] at this
  have := congrArg List.length this
  cases this
theorem exm_he {K : PySem.W.Frag} {mg : Str → Option Value} {D E : Addr} (hm : Mro K E D) (h : HE K mg E) : PySem.W.exmOne K (.ref D) (.ref E) = some true := by
  obtain ⟨cd, h1, h2⟩ := hm
  unfold PySem.W.exmOne
  rw [if_pos (by rw [h.ex]; rfl)]
  unfold PySem.W.kitCls
  simp only [h.cl, h.ty]
  rw [if_pos (by rfl)]
  show PySem.W.mroIn K D (.ref E) = _
  unfold PySem.W.mroIn
  rw [h1]
  show (if cd.mro.isEmpty then none else some (cd.mro.contains (.ref E))) = _
  rw [h2]
  simp
theorem kitR {K : PySem.W.Frag} {D E C : Addr} (hm : Mro K E D) (hC : (PySem.W.clsIn K C).isSome = true) (tC : PySem.W.typeIn K (.ref C) = some (.type "type")) : PySem.W.kitOne K (.ref D) (.ref C) = some (decide (C = D ∨ C = E)) := by
  obtain ⟨cd, h1, h2⟩ := hm
  unfold PySem.W.kitOne
  by_cases e : D = C
  · rw [if_pos (by rw [e]; exact beq_self_eq_true _)]
    simp [e]
  · rw [if_neg (by simpa using e)]
    unfold PySem.W.kitCls
    simp only [hC, tC]
    rw [if_pos (by rfl)]
    show PySem.W.mroIn K D (.ref C) = _
    unfold PySem.W.mroIn
    rw [h1]
    show (if cd.mro.isEmpty then none else some (cd.mro.contains (.ref C))) = _
    rw [h2]
    show some ((Value.ref D :: above E).contains (.ref C)) = _
    have e' : C ≠ D := fun z => e z.symm
    by_cases e2 : C = E <;> simp [e', e2]
theorem kitVE {K : PySem.W.Frag} {D E : Addr} (hm : Mro K E D) : PySem.W.kitOne K (.ref D) (.type "ValueError") = some true := by
  obtain ⟨cd, h1, h2⟩ := hm
  unfold PySem.W.kitOne
  rw [if_neg (by simp)]
  unfold PySem.W.kitCls
  simp only []
  rw [if_pos (by decide +kernel)]
  show PySem.W.mroIn K D (.type "ValueError") = _
  unfold PySem.W.mroIn
  rw [h1]
  show (if cd.mro.isEmpty then none else some (cd.mro.contains _)) = _
  rw [h2]
  show some ((Value.ref D :: above E).contains _) = _
  simp
/-- none of them -/
theorem kit_none {K : PySem.W.Frag} {t : Value} : ∀ {cs : List Value}, (∀ c ∈ cs, PySem.W.kitOne K t c = some false) → PySem.W.kitAny K t cs = some false
  | [], _ => rfl
  | c :: cs, h => by
    unfold PySem.W.kitAny
    rw [h c (List.mem_cons_self ..)]
    exact kit_none fun x hx => h x (List.mem_cons_of_mem _ hx)
/-- isinstance of the exception that a suite holds -/
structure HeldX (K : PySem.W.Frag) (cls : Value) (d : Option Addr) (D : Addr) (H : Hp) : Prop where
  c : cls = .ref D
  e : EC K D
  x : ∀ dx, d = some dx → ∃ fs, H dx = some (.xd fs)
def rIsC (K : PySem.W.Frag) (a : Addr) (cls : Value) (d : Option Addr) : List V → Hp → VK → Prop := fun xs H Q => ∃ (D : Addr) (c : V) (cv : Value) (b : Bool), xs = [.ref a, c] ∧ HeldX K cls d D H ∧ ClsV c cv ∧ PySem.W.kitOne K (.ref D) cv = some b ∧ Q (.bl b) H
def rIsT (K : PySem.W.Frag) (a : Addr) (cls : Value) (d : Option Addr) : List V → Hp → VK → Prop := fun xs H Q => ∃ (D t : Addr) (cs : List V) (cvs : List Value) (b : Bool), xs = [.ref a, .ref t] ∧ HeldX K cls d D H ∧ SqT K H t cs ∧ (∀ us, Vals cs us → us = cvs) ∧ PySem.W.kitAny K (.ref D) cvs = some b ∧ Q (.bl b) H
section
variable {X : Cx} {a : Addr} {oe : Obj} {pn : List (Addr × Obj)} {cls : Value} {d : Option Addr}
theorem held_inst {pins : List (Addr × Obj)} {σ : L2.St} {H : Hp} {s : Shared} {D : Addr} (I : Inv (X.suite a ((a, oe) :: pn)) pins σ H s) (hz : Zc cls d oe) (hf : ∃ vs, oe.data = .fields vs) (h : HeldX X.K cls d D H) : ∃ od, PySem.W.InstAt s.heap a oe D od := by
  obtain ⟨here, _⟩ := I.pin (a, oe) (List.mem_append_left _ (List.mem_cons_self ..))
  obtain ⟨vs, hv⟩ := hf
  have nc : PySem.W.notCls oe := by unfold PySem.W.notCls; rw [hv]
  cases d with
  | none => exact ⟨none, here, hz.1.trans h.c, nc, by rw [hz.2]; trivial⟩
  | some dx =>
    obtain ⟨fs, e⟩ := h.x dx rfl
    obtain ⟨mA, ns, _⟩ := (show ObjOk X.prog X.w H s.heap dx (.xd fs) from I.hok dx _ e)
    obtain ⟨od, ho, _⟩ := lookIn_ns ns
    exact ⟨some od, here, hz.1.trans h.c, nc, by rw [hz.2]; exact ho⟩
theorem call_isC (hz : Zc cls d oe) (hf : ∃ vs, oe.data = .fields vs) : CallR (X.suite a ((a, oe) :: pn)) (.builtin "isinstance") (rIsC X.K a cls d) := by
  rintro pins s σ H _ us Q I r ⟨D, c, cv, b, rfl, h, k, e, q⟩
  obtain ⟨ua, ub, rfl, ra, rb⟩ := vals2 r
  cases k.eq rb
  cases (show ua = Value.ref a from ra)
  obtain ⟨od, M⟩ := held_inst I hz hf h
  exact PySem.W.kia_one (PySem.W.kitx_exc h.e.cl h.e.x.ga h.e.x.gg h.e.x.exC h.e.ofc h.e.sp h.e.tk h.e.mo) I.kIn M e (fun z => nomatch z) fun tk => ⟨.bl b, H, I.tok tk, rfl, q⟩
theorem call_isT (hz : Zc cls d oe) (hf : ∃ vs, oe.data = .fields vs) : CallR (X.suite a ((a, oe) :: pn)) (.builtin "isinstance") (rIsT X.K a cls d) := by
  rintro pins s σ H _ us Q I r ⟨D, t, cs, cvs, b, rfl, h, ht, all, e, q⟩
  obtain ⟨ua, ub, rfl, ra, rb⟩ := vals2 r
  cases (show ua = Value.ref a from ra)
  cases (show ub = Value.ref t from rb)
  obtain ⟨od, M⟩ := held_inst I hz hf h
  obtain ⟨its, rv, ⟨⟨tc, dd, da, ss⟩, at0, c0, n, d0⟩, _⟩ := I.tuple ht
  cases c0
  cases d0
  cases all its rv
  exact PySem.W.kia_tup (PySem.W.kitx_exc h.e.cl h.e.x.ga h.e.x.gg h.e.x.exC h.e.ofc h.e.sp h.e.tk h.e.mo) I.kIn M at0 e (fun z => nomatch z) fun tk => ⟨.bl b, H, I.tok tk, rfl, q⟩
end
/-- two classes of unlike names are not one -/
theorem CF.ne {K : PySem.W.Frag} {mg : Str → Option Value} {x y q1 q2 : Str} {s1 s2 : Stmt} {p1 p2 : List Str} {E C1 C2 f1 f2 : Addr} {d1 d2 : FuncData} (a : CF K mg x q1 s1 p1 E C1 f1 d1) (b : CF K mg y q2 s2 p2 E C2 f2 d2) (n : q1 ≠ q2) : C1 ≠ C2 := fun e => by
  subst e
  have ef : f1 = f2 := by
    have := a.i.symm.trans b.i
    cases this
    rfl
  subst ef
  obtain ⟨oc, od, kV, doc, pm, an, c, ct, osl, rfl, l1, _⟩ := a.F.ex
  obtain ⟨oc', od', kV', doc', pm', an', c', ct', osl', rfl, l2, _⟩ := b.F.ex
  rw [l1] at l2
  simp only [Option.some.injEq, Obj.mk.injEq, Data.func.injEq] at l2
  exact n (by have := congrArg (·.qualname) l2.2.2.1; exact this)
end Fw
set_option maxHeartbeats 2000000
namespace Fw
open PySem PySem.Spec PyProof.Rows L2
/-- an error class that can be raised, with all that is told of it -/
structure Er1 (P : Program) (w : World) (K : PySem.W.Frag) (mg : Str → Option Value) (base : Heap) (x q fld : Str) (E C : Addr) : Prop where
  r : ErR P w K mg base x fld E C
  c : ∃ st f fd, CF K mg x q st ["self", fld] E C f fd
theorem Er1.ne {P : Program} {w : World} {K : PySem.W.Frag} {mg : Str → Option Value} {base : Heap} {x y q1 q2 f1 f2 : Str} {E C1 C2 : Addr} (a : Er1 P w K mg base x q1 f1 E C1) (b : Er1 P w K mg base y q2 f2 E C2) (n : q1 ≠ q2) : C1 ≠ C2 := by
  obtain ⟨_, _, _, a⟩ := a.c
  obtain ⟨_, _, _, b⟩ := b.c
  exact a.ne b n
/-- e of class C is no D -/
theorem Er1.isnt {P : Program} {w : World} {K : PySem.W.Frag} {mg : Str → Option Value} {base : Heap} {x y q1 q2 f1 f2 : Str} {E C1 C2 : Addr} (a : Er1 P w K mg base x q1 f1 E C1) (b : Er1 P w K mg base y q2 f2 E C2) (h : HE K mg E) (n : q1 ≠ q2) : PySem.W.kitOne K (.ref C1) (.ref C2) = some false := by
  rw [kitR a.r.mro b.r.e.cl b.r.e.o.tyC, decide_eq_false]
  rintro (e | e)
  · exact a.ne b n e.symm
  · exact h.ne b.r.mro e
theorem Er1.is {P : Program} {w : World} {K : PySem.W.Frag} {mg : Str → Option Value} {base : Heap} {x q1 f1 : Str} {E C1 : Addr} (a : Er1 P w K mg base x q1 f1 E C1) : PySem.W.kitOne K (.ref C1) (.ref C1) = some true := by
  rw [kitR a.r.mro a.r.e.cl a.r.e.o.tyC, decide_eq_true (.inl rfl)]
section
variable {P : Program} {w : World} {K : PySem.W.Frag} {mg : Str → Option Value} {base : Heap} {E : Addr}
theorem HE.names {X : Cx} {E : Addr} (h : HE X.K X.mg E) (g : Gl X "HouseError") : L2.Names X "HouseError" (.ref E) := ⟨g, by decide, .inl h.g⟩
theorem er1_TightRegion (c : CEE K mg E "TightRegion" "TightRegion.__init__" "room" iTightRegion) : ∃ C, Er1 P w K mg base "TightRegion" "TightRegion.__init__" "room" E C := by
  obtain ⟨C, f, fd, c, no⟩ := c
  refine ⟨C, ⟨c.e, c.g, c.mro, no, f, fd, c.i, c.t, c.b, ?_⟩, _, _, _, c⟩
  refine Fun.ok c.F (N := ["self", "room"]) ⟨rfl, rfl, rfl, by decide +kernel, rfl, by decide +kernel, by decide +kernel⟩ (fun vs H Q E h => ?_) (fun cdv A outer s H vs Q E hr h => ?_)
  · obtain ⟨a, v, rfl, _⟩ := h
    rfl
  · obtain ⟨a, v, rfl, ea, q⟩ := h
    exact ⟨_, pss_one (ps_ost (pv 0) (pv 1)), _, rfl, _, rfl, a, C, rfl, c.e.o, no, .inl ⟨ea, q⟩⟩
end
end Fw
namespace Fw
open PySem PySem.Spec PyProof.Rows L2
/-- a statement that raises nothing, in a def that may raise -/
theorem ps_calm {X : Cx} {st : Stmt} {t : TS} (h : PS X.nox st t) : PS X st t := by
  constructor
  intro pins z σ H D I rd
  exact wpAny_mono (h.run pins z σ H D (I.wish _) rd) (fun _ _ => L2.SP.unwish) fun _ _ no => no.elim
section
variable {P : Program} {w : World} {K : PySem.W.Frag} {mg : Str → Option Value} {base : Heap}
end
end Fw
set_option maxHeartbeats 4000000
namespace Fw
open PySem PySem.Spec PyProof.Rows L2
/-! how many placements are reachable, or the first tight region -/
theorem iteF' {b : Bool} {A B : Prop} (h : ¬ b = true) (a : B) : if b = true then A else B := by rw [if_neg h]; exact a
/-- by the regions: the number, or the first room of a tight region that has doors -/
def crt (P : List (Str × Int)) : Int → List (List Int) → Int ⊕ Int
  | c, [] => .inl c
  | c, l :: Ls => if (inside P l).length = l.length ∧ 1 < l.length then .inr (l.getD 0 0) else crt P (c * (l.length : Int) ^ (inside P l).length) Ls
section
variable {P : Program} {w : World} {K : PySem.W.Frag} {mg : Str → Option Value} {base : Heap}
def spCRX (C : Addr) : Sp := fun vs H Q E => ∃ (h p : Addr) (n : Int) (D : List (Int × Int)) (P : List (Str × Int)), vs = [.ref h, .ref p] ∧ HouseAt H h n D ∧ Forest n D ∧ 0 ≤ n ∧ n ≤ 8 ∧ PlAt H p P ∧ P.length ≤ 100 ∧
  (∀ Ls, Regs D (occ n P) Ls → ∀ c, crt P 1 Ls = .inl c → ∀ H', Same H H' → Q (.int c) H') ∧ (∀ Ls, Regs D (occ n P) Ls → ∀ r, crt P 1 Ls = .inr r → ∀ d H', Same H H' → H' d = some (.xd [("room", .int r)]) → E (.ref C) (some d) H')
abbrev nCountReachable : List Str := ["house", "placement", "count", "region", "name"]
theorem scCountReachable : FnScope nCountReachable ["house", "placement"] (defScope sCountReachable) := ⟨rfl, rfl, rfl, by decide +kernel, rfl, by decide +kernel, by decide +kernel⟩
theorem ok_crX {f : Addr} {fd : FuncData} {k : Nat} {E0 C : Addr} (F : Fun K "count_reachable" "count_reachable" sCountReachable f fd) (T : Nm mg) (Cfind_regions : Cal P w K mg base (k + 4) "find_regions" pHP spFReg) (Cis_tight : Cal P w K mg base (k + 4) "is_tight" pSurp (spTight K)) (Cpeople_within : Cal P w K mg base (k + 4) "people_within" pPWi (spPWi K)) (RE : ErR P w K mg base "TightRegion" "room" E0 C) : FnOk P w K mg base (L2.CX P w) (k + 5) f fd ["house", "placement"] (spCRX C) := by
  refine F.okX scCountReachable (fun vs H Q E h => ?_) (fun cdv A outer s H vs Q E hr h => ?_)
  · obtain ⟨h, p, n, D, P, rfl, _⟩ := h
    rfl
  · obtain ⟨h, p, n, D, P, rfl, hH, hF, n0, n1, hP, lP, qc, qE⟩ := h
    refine ⟨_, (pss_cons (ps_set (i := 2) scCountReachable.nd rfl (.inl rfl) pe_int)
      (pss_cons (ps_for (passes_of rfl) rfl (pi_tupK K rfl (pe_cal Cfind_regions hr (by rfl) (pa_cons (pv 0) (pa_cons (pv 1) pa_nil)))) (pg_name (i := 3) scCountReachable.nd rfl (.inl rfl))
      (pss_one (ps_if (pt_not (pt_val (pe_cal Cis_tight hr (by rfl) (pa_cons (pv 1) (pa_cons (pv 3) pa_nil)))))
       (pss_one (ps_for (passes_of rfl) rfl (pi_tupK K rfl (pe_cal Cpeople_within hr (by rfl) (pa_cons (pv 1) (pa_cons (pv 3) pa_nil)))) (pg_name (i := 4) scCountReachable.nd rfl (.inl rfl))
        (pss_one (ps_aug (i := 2) scCountReachable.nd rfl (.inl rfl) (pe_callB (call_lenK K rfl) (by rfl) T.len (by decide +kernel) (pa_cons (pv 3) pa_nil)) ip_mulI))))
       (pss_one (ps_if (pt_cmpR op_gt (pe_callB (call_lenK K rfl) (by rfl) T.len (by decide +kernel) (pa_cons (pv 3) pa_nil)) pe_int (nomark _))
        (pss_one (ps_raise rfl (takes_of rfl rfl rfl rfl) (pmk_er RE hr (by rfl) (pe_ix (ix_tupK K rfl) (pv 3) pe_int (fun _ _ => rfl)))))
        pss_nil)))))
      (pss_one (ps_ret (pv 2))))), ?_⟩
    refine ⟨_, rfl, _, rfl, h, p, n, D, P, rfl, hH, hF, n0, n1, hP, lP, fun H1 t Cs s1 rg => ?_⟩
    refine ⟨t, rfl, ⟨_, SqT.of rg.1⟩, for_tup (K := K) (a := t) (xs := refs Cs) (fun i σ' H' => ∃ c y3 y4, σ' = [some (.ref h), some (.ref p), some (.int c), y3, y4] ∧ Same H1 H' ∧ crt P c ((Cs.map (·.2)).drop i) = crt P 1 (Cs.map (·.2))) ⟨1, _, _, rfl, Same.refl _, rfl⟩ ?_ ?_ ?_⟩
    · rintro i σ' H' _ ⟨_, _, _, rfl, s', _⟩
      exact SqT.of (s' _ _ rg.1)
    · rintro i x σ' H' hx ⟨c, y3, y4, rfl, s', cw⟩
      obtain ⟨d, hd, rfl⟩ := get_refs hx
      have md := List.mem_of_getElem? hd
      have ml : d.2 ∈ Cs.map (·.2) := List.mem_map_of_mem (f := (·.2)) md
      obtain ⟨ed, ld⟩ := rg.2.1 d md
      have ed := s' _ _ ed
      have gd : (Cs.map (·.2))[i]? = some d.2 := by rw [List.getElem?_map, hd]; rfl
      have hi := lt_of_get gd
      have e0 : (Cs.map (·.2))[i] = d.2 := by rw [List.getElem?_eq_getElem hi] at gd; injection gd
      rw [List.drop_eq_getElem_cons hi, e0, crt] at cw
      have ne : 0 < d.2.length := by
        obtain ⟨r, _, ic⟩ := (rg.2.2.2.mem d.2).mp ml
        exact List.length_pos_of_mem ic.has
      have hP' := (hP.same s1).same s'
      dsimp only [gName]
      refine ⟨_, rfl, _, rfl, p, d.1, P, d.2, rfl, hP', SqT.of ed, lP, fun H2 s2 => ⟨_, rfl, ?_⟩⟩
      have ed2 := s2 _ _ ed
      by_cases tg : (inside P d.2).length = d.2.length
      · refine iteF' (by rw [decide_eq_true tg]; decide) ?_
        refine ⟨_, rfl, d.1, _, rfl, .inr (SqT.of ed2), _, _, rfl, rfl, _, rfl, ?_⟩
        rw [List.length_map]
        by_cases l1 : 1 < d.2.length
        · rw [if_pos ⟨tg, l1⟩] at cw
          refine iteT' (decide_eq_true (by omega)) ?_
          have ai : atI (vi d.2) 0 = some (.int (d.2.getD 0 0)) := by
            cases e : d.2 with
            | nil => rw [e] at ne; cases ne
            | cons y ys => exact atI0
          exact ⟨_, rfl, d.1, _, _, _, rfl, rfl, SqT.of ed2, ai, raise_end fun dx H3 s3 e3 => qE _ rg.2.2.2 _ cw.symm dx H3 (((s1.trans s').trans s2).trans s3) e3⟩
        · rw [if_neg (fun z => l1 z.2)] at cw
          have e1 : d.2.length = 1 := by omega
          refine iteF' (by rw [decide_eq_false (by omega)]; decide) ⟨c, _, _, rfl, s'.trans s2, ?_⟩
          rw [e1] at cw
          rw [show c * ((1 : Nat) : Int) ^ (inside P d.2).length = c by rw [show ((1 : Nat) : Int) = 1 from rfl, Int.one_pow, Int.mul_one]] at cw
          exact cw
      · rw [if_neg (fun z => tg z.1)] at cw
        refine iteT' (by rw [decide_eq_false tg]; rfl) ?_
        refine ⟨_, rfl, _, rfl, p, d.1, P, d.2, rfl, hP'.same s2, SqT.of ed2, lP, fun H3 u s3 eu => ?_⟩
        refine ⟨u, rfl, ⟨_, SqT.of eu⟩, for_tup (K := K) (a := u) (xs := (inside P d.2).map V.str) (fun j σ'' H'' => ∃ y4, σ'' = [some (.ref h), some (.ref p), some (.int (c * (d.2.length : Int) ^ j)), some (.ref d.1), y4] ∧ Same H3 H'') ⟨_, by rw [Int.pow_zero, Int.mul_one]; rfl, Same.refl _⟩ ?_ ?_ ?_⟩
        · rintro j σ'' H'' _ ⟨_, rfl, s''⟩
          exact SqT.of (s'' _ _ eu)
        · rintro j y σ'' H'' hy ⟨y4, rfl, s''⟩
          dsimp only [gName]
          refine ⟨_, rfl, _, rfl, d.1, _, rfl, .inr (SqT.of ((s3.trans s'') _ _ ed2)), _, _, rfl, rfl, .inr ?_, ?_⟩
          · rw [List.length_map]
            constructor
            · omega
            · omega
          · refine ⟨some y, ?_, s''⟩
            rw [List.length_map, Int.pow_succ, ← Int.mul_assoc]
            rfl
        · rintro σ'' H'' ⟨y4, rfl, s''⟩
          rw [List.length_map]
          exact ⟨_, _, _, rfl, s'.trans (s2.trans (s3.trans s'')), cw⟩
    · rintro σ' H' ⟨c, y3, y4, rfl, s', cw⟩
      rw [show (refs Cs).length = (Cs.map (·.2)).length by unfold refs; rw [List.length_map, List.length_map], List.drop_length] at cw
      exact ⟨_, rfl, qc _ rg.2.2.2 c cw.symm _ (s1.trans s')⟩
end
end Fw
set_option maxHeartbeats 4000000
namespace Fw
open PySem PySem.Spec PyProof.Rows L2
/-! how many assignments -/
def sur : Nat → Nat → Nat → Nat
  | 0, _, u => if u = 0 then 1 else 0
  | m + 1, r, u => u * sur m r (u - 1) + (r - u) * sur m r u
theorem sur_step : ∀ (m r u : Nat), u ≤ r → sur m (r + 1) u = sur m (r + 1) (u + 1) + sur m r u
  | 0, r, u, _ => by
    show (if u = 0 then 1 else 0) = (if u + 1 = 0 then 1 else 0) + (if u = 0 then 1 else 0)
    rw [if_neg (show ¬ u + 1 = 0 by omega), Nat.zero_add]
  | m + 1, r, 0, _ => by
    have h := sur_step m r 0 (Nat.zero_le _)
    show 0 * sur m (r + 1) (0 - 1) + (r + 1 - 0) * sur m (r + 1) 0 = ((0 + 1) * sur m (r + 1) (0 + 1 - 1) + (r + 1 - (0 + 1)) * sur m (r + 1) (0 + 1)) + (0 * sur m r (0 - 1) + (r - 0) * sur m r 0)
    rw [Nat.zero_mul, Nat.zero_mul, Nat.zero_add, Nat.zero_add, Nat.zero_add, Nat.one_mul, Nat.sub_zero, Nat.sub_zero, Nat.add_sub_cancel, show 1 - 1 = 0 from rfl]
    rw [Nat.zero_add] at h
    generalize sur m (r + 1) 0 = a at *
    generalize sur m (r + 1) 1 = b at *
    generalize sur m r 0 = c at *
    subst h
    rw [Nat.add_mul, Nat.one_mul, Nat.mul_add]
    omega
  | m + 1, r, v + 1, hv => by
    have h1 := sur_step m r v (by omega)
    have h2 := sur_step m r (v + 1) hv
    obtain ⟨d, rfl⟩ : ∃ d, r = v + 1 + d := ⟨r - (v + 1), by omega⟩
    show (v + 1) * sur m (v + 1 + d + 1) v + (v + 1 + d + 1 - (v + 1)) * sur m (v + 1 + d + 1) (v + 1) = ((v + 1 + 1) * sur m (v + 1 + d + 1) (v + 1) + (v + 1 + d + 1 - (v + 1 + 1)) * sur m (v + 1 + d + 1) (v + 1 + 1)) + ((v + 1) * sur m (v + 1 + d) v + (v + 1 + d - (v + 1)) * sur m (v + 1 + d) (v + 1))
    rw [show v + 1 + d + 1 - (v + 1) = d + 1 by omega, show v + 1 + d + 1 - (v + 1 + 1) = d by omega, show v + 1 + d - (v + 1) = d by omega]
    generalize sur m (v + 1 + d + 1) v = a at *
    generalize sur m (v + 1 + d + 1) (v + 1) = b at *
    generalize sur m (v + 1 + d + 1) (v + 1 + 1) = c at *
    generalize sur m (v + 1 + d) v = e at *
    generalize sur m (v + 1 + d) (v + 1) = f at *
    subst h1
    have k : d * b = d * c + d * f := by rw [h2, Nat.mul_add]
    rw [Nat.add_mul d 1 b, k, Nat.one_mul, Nat.mul_add, Nat.add_mul (v + 1) 1 b, Nat.one_mul]
    omega
theorem sur_pow (r : Nat) : ∀ m, sur m r 0 = r ^ m
  | 0 => rfl
  | m + 1 => by
    show 0 * sur m r (0 - 1) + (r - 0) * sur m r 0 = r ^ (m + 1)
    rw [sur_pow r m, Nat.zero_mul, Nat.zero_add, Nat.sub_zero, Nat.pow_succ, Nat.mul_comm]
def combos : List (List Int) → List (List Int)
  | [] => [[]]
  | l :: ls => l.flatMap fun x => (combos ls).map (x :: ·)
inductive In2 : List Int → List (List Int) → Prop
  | nil : In2 [] []
  | cons {x : Int} {l : List Int} {c : List Int} {ls : List (List Int)} : x ∈ l → In2 c ls → In2 (x :: c) (l :: ls)
theorem mem_combos : ∀ {ls : List (List Int)} {c : List Int}, c ∈ combos ls ↔ In2 c ls
  | [], c => by
    show c ∈ [[]] ↔ _
    constructor
    · intro h; rw [List.mem_singleton.mp h]; exact .nil
    · intro h; cases h; exact List.mem_singleton.mpr rfl
  | l :: ls, c => by
    show c ∈ l.flatMap _ ↔ _
    rw [List.mem_flatMap]
    constructor
    · rintro ⟨x, hx, h⟩
      obtain ⟨d, hd, rfl⟩ := List.mem_map.mp h
      exact .cons hx (mem_combos.mp hd)
    · intro h
      cases h with
      | cons hx h => exact ⟨_, hx, List.mem_map.mpr ⟨_, mem_combos.mpr h, rfl⟩⟩
theorem combos_nodup : ∀ {ls : List (List Int)}, (∀ l ∈ ls, l.Nodup) → (combos ls).Nodup
  | [], _ => by show [[]].Nodup; simp
  | l :: ls, h => by
    have ih := combos_nodup (ls := ls) fun x hx => h x (List.mem_cons_of_mem _ hx)
    have nl := h l List.mem_cons_self
    show (l.flatMap fun x => (combos ls).map (x :: ·)).Nodup
    generalize combos ls = X at *
    clear h
    induction l with
    | nil => exact List.nodup_nil
    | cons y l ihl =>
      obtain ⟨n1, n2⟩ := List.nodup_cons.mp nl
      rw [List.flatMap_cons, List.nodup_append]
      refine ⟨?_, ihl n2, ?_⟩
      · rw [List.Nodup, List.pairwise_map]
        exact ih.imp fun ne e => ne (List.cons.inj e).2
      · intro a ha b hb e
        obtain ⟨d, _, rfl⟩ := List.mem_map.mp ha
        obtain ⟨z, hz, hb⟩ := List.mem_flatMap.mp hb
        obtain ⟨d', _, rfl⟩ := List.mem_map.mp hb
        exact n1 ((List.cons.inj e).1 ▸ hz)
def cov (U c : List Int) : Bool := U.all fun x => decide (x ∈ c)
def nco (ls : List (List Int)) (U : List Int) : Nat := ((combos ls).filter (cov U)).length
theorem cov_cons (U : List Int) (x : Int) (c : List Int) : cov U (x :: c) = cov (U.filter fun y => !decide (y = x)) c := by
  unfold cov
  rw [Bool.eq_iff_iff, List.all_eq_true, List.all_eq_true]
  constructor
  · intro h y hy
    obtain ⟨h1, h2⟩ := List.mem_filter.mp hy
    have := of_decide_eq_true (h y h1)
    rcases List.mem_cons.mp this with e | e
    · rw [e] at h2; simp at h2
    · exact decide_eq_true e
  · intro h y hy
    by_cases e : y = x
    · rw [e]; exact decide_eq_true List.mem_cons_self
    · exact decide_eq_true (List.mem_cons_of_mem _ (of_decide_eq_true (h y (List.mem_filter.mpr ⟨hy, by simp [e]⟩))))
theorem nco_cons (l : List Int) (ls : List (List Int)) (U : List Int) : nco (l :: ls) U = (l.map fun x => nco ls (U.filter fun y => !decide (y = x))).sum := by
  unfold nco
  show ((l.flatMap fun x => (combos ls).map (x :: ·)).filter (cov U)).length = _
  generalize combos ls = X
  induction l with
  | nil => rfl
  | cons y l ih =>
    rw [List.flatMap_cons, List.filter_append, List.length_append, ih, List.map_cons, List.sum_cons]
    congr 1
    rw [List.filter_map, List.length_map]
    congr 1
    refine congrArg (fun p => List.filter p X) ?_
    funext c
    exact cov_cons U y c
def prodB (f : List Int → Nat) : List (List Int) → Nat
  | [] => 1
  | B :: Bs => f B * prodB f Bs
theorem prodB_congr {f g : List Int → Nat} : ∀ {Bs : List (List Int)}, (∀ B ∈ Bs, f B = g B) → prodB f Bs = prodB g Bs
  | [], _ => rfl
  | B :: Bs, h => by
    show f B * prodB f Bs = g B * prodB g Bs
    rw [h B List.mem_cons_self, prodB_congr fun C hC => h C (List.mem_cons_of_mem _ hC)]
theorem prodB_app (f : List Int → Nat) : ∀ (As Bs : List (List Int)), prodB f (As ++ Bs) = prodB f As * prodB f Bs
  | [], Bs => by show _ = 1 * _; rw [Nat.one_mul]; rfl
  | A :: As, Bs => by show f A * prodB f (As ++ Bs) = f A * prodB f As * prodB f Bs; rw [prodB_app f As Bs, Nat.mul_assoc]
theorem prod_split (f : List Int → Nat) {l : List Int} : ∀ {Bs : List (List Int)}, l ∈ Bs → Bs.Nodup → ∃ K, ∀ g : List Int → Nat, (∀ B ∈ Bs, B ≠ l → g B = f B) → prodB g Bs = K * g l
  | B :: Bs, m, nd => by
    obtain ⟨n1, n2⟩ := List.nodup_cons.mp nd
    by_cases e : B = l
    · subst e
      refine ⟨prodB f Bs, fun g h => ?_⟩
      show g B * prodB g Bs = _
      rw [prodB_congr (f := g) (g := f) fun C hC => h C (List.mem_cons_of_mem _ hC) fun z => n1 (z ▸ hC), Nat.mul_comm]
    · have m' : l ∈ Bs := (List.mem_cons.mp m).resolve_left fun z => e z.symm
      obtain ⟨K, hK⟩ := prod_split f m' n2
      refine ⟨f B * K, fun g h => ?_⟩
      show g B * prodB g Bs = _
      rw [hK g fun C hC ne => h C (List.mem_cons_of_mem _ hC) ne, h B List.mem_cons_self e, Nat.mul_assoc]
theorem sum_two (U : List Int) (p q : Nat) : ∀ l : List Int, (l.map fun x => if x ∈ U then p else q).sum = (l.filter fun x => decide (x ∈ U)).length * p + (l.length - (l.filter fun x => decide (x ∈ U)).length) * q
  | [] => by simp
  | x :: l => by
    have le := List.length_filter_le (fun x => decide (x ∈ U)) l
    rw [List.map_cons, List.sum_cons, sum_two U p q l, List.filter_cons, List.length_cons]
    by_cases h : x ∈ U
    · rw [if_pos h, if_pos (decide_eq_true h), List.length_cons, Nat.add_mul, Nat.one_mul]
      rw [show l.length + 1 - ((l.filter fun x => decide (x ∈ U)).length + 1) = l.length - (l.filter fun x => decide (x ∈ U)).length by omega]
      omega
    · rw [if_neg h, if_neg (by simp [h])]
      rw [show l.length + 1 - (l.filter fun x => decide (x ∈ U)).length = (l.length - (l.filter fun x => decide (x ∈ U)).length) + 1 by omega, Nat.add_mul, Nat.one_mul]
      omega
theorem len_swap {U l : List Int} (nU : U.Nodup) (nl : l.Nodup) : (l.filter fun x => decide (x ∈ U)).length = (U.filter fun x => decide (x ∈ l)).length :=
  Nat.le_antisymm (subset_len (nl.sublist List.filter_sublist) fun x hx => by
      obtain ⟨h1, h2⟩ := List.mem_filter.mp hx
      exact List.mem_filter.mpr ⟨of_decide_eq_true h2, decide_eq_true h1⟩)
    (subset_len (nU.sublist List.filter_sublist) fun x hx => by
      obtain ⟨h1, h2⟩ := List.mem_filter.mp hx
      exact List.mem_filter.mpr ⟨of_decide_eq_true h2, decide_eq_true h1⟩)
theorem erase_len {x : Int} : ∀ {W : List Int}, W.Nodup → (W.filter fun y => !decide (y = x)).length = W.length - (if x ∈ W then 1 else 0)
  | [], _ => by simp
  | y :: W, nd => by
    obtain ⟨n1, n2⟩ := List.nodup_cons.mp nd
    have ih := erase_len (x := x) n2
    rw [List.filter_cons]
    by_cases e : y = x
    · subst e
      rw [if_neg (by simp), if_pos List.mem_cons_self, ih, if_neg n1]
      rfl
    · rw [if_pos (by simp [e]), List.length_cons, List.length_cons, ih]
      by_cases h : x ∈ W
      · rw [if_pos h, if_pos (List.mem_cons_of_mem _ h)]
        have := List.length_pos_of_mem h
        omega
      · rw [if_neg h, if_neg (fun z => (List.mem_cons.mp z).elim (fun q => e q.symm) h)]
        rfl
/-- blocks that share no room -/
structure Blks (Bs : List (List Int)) : Prop where
  nd : Bs.Nodup
  each : ∀ B ∈ Bs, B.Nodup
  dis : ∀ B ∈ Bs, ∀ B' ∈ Bs, ∀ x, x ∈ B → x ∈ B' → B = B'
theorem nco_prod {Bs : List (List Int)} (b : Blks Bs) : ∀ {ls : List (List Int)}, (∀ l ∈ ls, l ∈ Bs) → ∀ {U : List Int}, U.Nodup → (∀ x ∈ U, ∃ B ∈ Bs, x ∈ B) → nco ls U = prodB (fun B => sur (ls.count B) B.length (U.filter fun x => decide (x ∈ B)).length) Bs
  | [], _, U, nU, cU => by
    by_cases hU : U = []
    · subst hU
      have : ∀ Cs : List (List Int), prodB (fun B => sur (([] : List (List Int)).count B) B.length (([] : List Int).filter fun x => decide (x ∈ B)).length) Cs = 1 := fun Cs => by
        induction Cs with
        | nil => rfl
        | cons C Cs ih => show 1 * _ = 1; rw [ih]
      rw [this]
      rfl
    · have z : nco [] U = 0 := by
        cases U with
        | nil => exact absurd rfl hU
        | cons x U => rfl
      rw [z]
      cases U with
      | nil => exact absurd rfl hU
      | cons x U =>
        obtain ⟨B, hB, hx⟩ := cU x List.mem_cons_self
        obtain ⟨K, hK⟩ := prod_split (fun B => sur (([] : List (List Int)).count B) B.length ((x :: U).filter fun x => decide (x ∈ B)).length) hB b.nd
        rw [hK _ fun _ _ _ => rfl]
        have : ((x :: U).filter fun x => decide (x ∈ B)).length ≠ 0 := by
          rw [List.filter_cons, if_pos (decide_eq_true hx), List.length_cons]
          omega
        show 0 = K * (if ((x :: U).filter fun x => decide (x ∈ B)).length = 0 then 1 else 0)
        rw [if_neg this, Nat.mul_zero]
  | l :: ls, hl, U, nU, cU => by
    have hB := hl l List.mem_cons_self
    have nl := b.each l hB
    obtain ⟨K, hK⟩ := prod_split (fun B => sur (ls.count B) B.length (U.filter fun x => decide (x ∈ B)).length) hB b.nd
    have term : ∀ x ∈ l, nco ls (U.filter fun y => !decide (y = x)) = if x ∈ U then K * sur (ls.count l) l.length ((U.filter fun x => decide (x ∈ l)).length - 1) else K * sur (ls.count l) l.length (U.filter fun x => decide (x ∈ l)).length := fun x hx => by
      rw [nco_prod b (fun y hy => hl y (List.mem_cons_of_mem _ hy)) (nU.sublist List.filter_sublist) fun y hy => cU y (List.mem_filter.mp hy).1]
      rw [hK _ fun B hB' ne => ?_]
      · rw [List.filter_filter]
        have e : (U.filter fun a => (decide (a ∈ l) && !decide (a = x))) = (U.filter fun a => decide (a ∈ l)).filter fun y => !decide (y = x) := by
          rw [List.filter_filter]
          congr 1
          funext a
          exact Bool.and_comm _ _
        rw [e, erase_len (nU.sublist List.filter_sublist)]
        by_cases h : x ∈ U
        · rw [if_pos (List.mem_filter.mpr ⟨h, decide_eq_true hx⟩), if_pos h]
        · rw [if_neg (fun z => h (List.mem_filter.mp z).1), if_neg h]
          rfl
      · have nx : x ∉ B := fun z => ne (b.dis B hB' l hB x z hx)
        have : ((U.filter fun y => !decide (y = x)).filter fun x => decide (x ∈ B)) = U.filter fun x => decide (x ∈ B) := by
          rw [List.filter_filter]
          refine List.filter_congr fun a _ => ?_
          by_cases h : a ∈ B
          · rw [decide_eq_true h, Bool.true_and, decide_eq_false (show ¬ a = x from fun z => nx (z ▸ h))]
            rfl
          · rw [decide_eq_false h, Bool.false_and]
        rw [this]
    rw [nco_cons, List.map_congr_left term, sum_two, len_swap nU nl, hK _ fun B hB' ne => ?_]
    · rw [List.count_cons_self]
      show _ = K * (_ * sur (ls.count l) l.length _ + (_ - _) * sur (ls.count l) l.length _)
      rw [Nat.mul_add, Nat.mul_left_comm K, Nat.mul_left_comm K]
    · have : List.count B (l :: ls) = List.count B ls := List.count_cons_of_ne (fun z => ne z.symm)
      show sur (List.count B (l :: ls)) _ _ = sur (List.count B ls) _ _
      rw [this]

/-! the classes of placements, counted (k56) -/
theorem sur_one : ∀ m, 1 ≤ m → sur m 1 1 = 1
  | m + 1, _ => by
    show 1 * sur m 1 (1 - 1) + (1 - 1) * sur m 1 1 = 1
    rw [show 1 - 1 = 0 from rfl, sur_pow, Nat.zero_mul, Nat.one_pow]
theorem fways_sur (r : Nat) : ∀ m k, k ≤ r → (fways r m).getD k 0 = (sur m k k : Nat)
  | 0, k, _ => by
    unfold fways
    cases k with
    | zero => rfl
    | succ k =>
      show (List.replicate r (0 : Int)).getD k 0 = ((if k + 1 = 0 then 1 else 0 : Nat) : Int)
      rw [if_neg (by omega), List.getD_eq_getElem?_getD, List.getElem?_replicate]
      split <;> rfl
  | m + 1, k, hk => by
    show (fstep r (fways r m)).getD k 0 = _
    unfold fstep
    cases k with
    | zero =>
      have e : 0 * sur m 0 (0 - 1) + (0 - 0) * sur m 0 0 = 0 := by rw [Nat.sub_self, Nat.zero_mul]
      show (0 : Int) = ((0 * sur m 0 (0 - 1) + (0 - 0) * sur m 0 0 : Nat) : Int)
      rw [e]
      rfl
    | succ k =>
      show (((List.range r).map fun (i : Nat) => (1 + (i : Int)) * ((fways r m).getD (i + 1) 0 + (fways r m).getD i 0)).getD k 0) = (((k + 1) * sur m (k + 1) (k + 1 - 1) + (k + 1 - (k + 1)) * sur m (k + 1) (k + 1) : Nat) : Int)
      have hr : (List.range r)[k]? = some k := by rw [List.getElem?_range (by omega)]
      rw [List.getD_eq_getElem?_getD, List.getElem?_map, hr]
      show (1 + (k : Int)) * ((fways r m).getD (k + 1) 0 + (fways r m).getD k 0) = _
      have e : (k + 1) * sur m (k + 1) (k + 1 - 1) + (k + 1 - (k + 1)) * sur m (k + 1) (k + 1) = (k + 1) * (sur m (k + 1) (k + 1) + sur m k k) := by
        rw [Nat.add_sub_cancel, Nat.sub_self, Nat.zero_mul, sur_step m k k (Nat.le_refl _)]
        rfl
      rw [e, fways_sur r m (k + 1) hk, fways_sur r m k (by omega), Int.natCast_mul, Int.natCast_add, Int.natCast_add]
      congr 1
      omega
theorem full_sur (m r : Nat) : full m r = (sur m r r : Nat) := fways_sur r m r (Nat.le_refl _)
theorem blks_of : ∀ {L : List (List Int)}, L.flatten.Nodup → (∀ B ∈ L, B ≠ []) → Blks L
  | [], _, _ => ⟨List.nodup_nil, (fun _ h => nomatch h), fun _ h => nomatch h⟩
  | B :: L, nd, ne => by
    rw [List.flatten_cons, List.nodup_append] at nd
    obtain ⟨n1, n2, dj⟩ := nd
    have ih := blks_of n2 fun C hC => ne C (List.mem_cons_of_mem _ hC)
    have no : ∀ C ∈ L, ∀ x, x ∈ B → x ∈ C → False := fun C hC x h1 h2 => dj x h1 x (List.mem_flatten.mpr ⟨C, hC, h2⟩) rfl
    refine ⟨List.nodup_cons.mpr ⟨fun m => ?_, ih.nd⟩, fun C hC => ?_, fun C hC C' hC' x h1 h2 => ?_⟩
    · cases hB : B with
      | nil => exact ne B List.mem_cons_self hB
      | cons x l => exact no B m x (hB ▸ List.mem_cons_self) (hB ▸ List.mem_cons_self)
    · rcases List.mem_cons.mp hC with e | h
      · exact e ▸ n1
      · exact ih.each C h
    · rcases List.mem_cons.mp hC with e | h <;> rcases List.mem_cons.mp hC' with e' | h'
      · exact e.trans e'.symm
      · exact (no C' h' x (e ▸ h1) h2).elim
      · exact (no C h x (e' ▸ h2) h1).elim
      · exact ih.dis C h C' h' x h1 h2
/-- where a person may be in the class -/
def blkOf (P : List (Str × Int)) (Ls : List (List Int)) (a : Int) : List Int :=
  match Ls.find? fun C => decide (a ∈ C) with
  | some C => if (inside P C).length = C.length then [a] else C
  | none => []
def blksOf (P : List (Str × Int)) (C : List Int) : List (List Int) := if (inside P C).length = C.length then C.map fun r => [r] else [C]
/-- the region of a room -/
def regOf (Ls : List (List Int)) (a : Int) : List Int := (Ls.find? fun C => decide (a ∈ C)).getD []
section
variable {n : Int} {D : List (Int × Int)} {P G : List (Str × Int)} {Ls : List (List Int)}
theorem find_reg (RL : Regs D (occ n P) Ls) {C : List Int} {a : Int} (hC : C ∈ Ls) (ha : a ∈ C) : (Ls.find? fun C => decide (a ∈ C)) = some C := by
  cases e : Ls.find? fun C => decide (a ∈ C) with
  | none => exact absurd (decide_eq_true ha) (List.find?_eq_none.mp e C hC)
  | some C' => rw [RL.one hC (List.mem_of_find?_eq_some e) ha (of_decide_eq_true (List.find?_some (p := fun C : List Int => decide (a ∈ C)) e))]
theorem blkOf_eq (RL : Regs D (occ n P) Ls) {C : List Int} {a : Int} (hC : C ∈ Ls) (ha : a ∈ C) : blkOf P Ls a = if (inside P C).length = C.length then [a] else C := by
  unfold blkOf
  rw [find_reg RL hC ha]
theorem regOf_eq (RL : Regs D (occ n P) Ls) {C : List Int} {a : Int} (hC : C ∈ Ls) (ha : a ∈ C) : regOf Ls a = C := by
  unfold regOf
  rw [find_reg RL hC ha]
  rfl
theorem flat_single : ∀ C : List Int, (C.map fun r => [r]).flatten = C
  | [] => rfl
  | r :: C => by rw [List.map_cons, List.flatten_cons, flat_single C]; rfl
theorem blksOf_flat (P : List (Str × Int)) (C : List Int) : (blksOf P C).flatten = C := by
  unfold blksOf
  split
  · exact flat_single C
  · simp
theorem blks_flat (P : List (Str × Int)) : ∀ Ls : List (List Int), (Ls.flatMap (blksOf P)).flatten = Ls.flatten
  | [] => rfl
  | C :: Ls => by rw [List.flatMap_cons, List.flatten_append, blksOf_flat, blks_flat P Ls, List.flatten_cons]
theorem reg_ne (RL : Regs D (occ n P) Ls) {C : List Int} (hC : C ∈ Ls) : C ≠ [] := fun e => by
  obtain ⟨s, hs, ic⟩ := (RL.mem C).mp hC
  have := (ic.mem s).mpr .base
  rw [e] at this
  cases this
theorem blks_ok (RL : Regs D (occ n P) Ls) : Blks (Ls.flatMap (blksOf P)) := by
  refine blks_of (by rw [blks_flat]; exact RL.flat_nodup) fun B hB => ?_
  obtain ⟨C, hC, hB⟩ := List.mem_flatMap.mp hB
  unfold blksOf at hB
  split at hB
  · obtain ⟨r, _, rfl⟩ := List.mem_map.mp hB
    exact List.cons_ne_nil _ _
  · rw [List.mem_singleton.mp hB]
    exact reg_ne RL hC
theorem prodB_flat (f : List Int → Nat) (g : List Int → List (List Int)) : ∀ Ls : List (List Int), prodB f (Ls.flatMap g) = prodB (fun C => prodB f (g C)) Ls
  | [] => rfl
  | C :: Ls => by rw [List.flatMap_cons, prodB_app, prodB_flat f g Ls]; rfl
theorem prodB_one {f : List Int → Nat} : ∀ {Bs : List (List Int)}, (∀ B ∈ Bs, f B = 1) → prodB f Bs = 1
  | [], _ => rfl
  | B :: Bs, h => by show f B * prodB f Bs = 1; rw [h B List.mem_cons_self, prodB_one fun C hC => h C (List.mem_cons_of_mem _ hC)]
theorem reg_some (RL : Regs D (occ n P) Ls) (pl : Pl n P) {x : Str × Int} (hx : x ∈ P) : ∃ C ∈ Ls, x.2 ∈ C := RL.ex (occ_up n P) (pl.mem_occ.mpr (List.mem_map_of_mem (f := (·.2)) hx))
theorem count_map {f : Int → List Int} (B : List Int) : ∀ {X : List (Str × Int)} {p : Str × Int → Bool}, (∀ x ∈ X, p x = decide (f x.2 = B)) → ((X.map (·.2)).map f).count B = (X.filter p).length
  | [], _, _ => rfl
  | x :: X, p, h => by
    have ih := count_map B (X := X) (p := p) fun y hy => h y (List.mem_cons_of_mem _ hy)
    have hx := h x List.mem_cons_self
    rw [List.map_cons, List.map_cons, List.count_cons, ih, List.filter_cons, hx]
    by_cases e : f x.2 = B
    · rw [if_pos (by simp [e]), if_pos (decide_eq_true e), List.length_cons]
    · rw [if_neg (by simp [e]), if_neg (by simp [e]), Nat.add_zero]
theorem occ_filter {C : List Int} (up : C.Pairwise (· < ·)) (sub : ∀ x ∈ C, x ∈ occ n P) : ((occ n P).filter fun x => decide (x ∈ C)).length = C.length :=
  Nat.le_antisymm (subset_len ((up_nodup (occ_up n P)).sublist List.filter_sublist) fun x hx => of_decide_eq_true (List.mem_filter.mp hx).2)
    (subset_len (up_nodup up) fun x hx => List.mem_filter.mpr ⟨sub x hx, decide_eq_true hx⟩)
/-- the number of the program is the number of the ways -/
theorem csz_count (pl : Pl n P) (RL : Regs D (occ n P) Ls) : csz P Ls = (nco ((P.map (·.2)).map (blkOf P Ls)) (occ n P) : Nat) := by
  rw [nco_prod (blks_ok RL) (fun l hl => ?_) (up_nodup (occ_up n P)) fun x hx => ?_]
  · rw [prodB_flat]
    have fac_eq : ∀ C ∈ Ls, fac P C = (prodB (fun B => sur (((P.map (·.2)).map (blkOf P Ls)).count B) B.length ((occ n P).filter fun x => decide (x ∈ B)).length) (blksOf P C) : Nat) := fun C hC => by
      obtain ⟨s, hs, ic⟩ := (RL.mem C).mp hC
      have sub : ∀ x ∈ C, x ∈ occ n P := ic.sub hs
      unfold fac blksOf
      by_cases ti : (inside P C).length = C.length
      · rw [if_pos ti, if_pos ti, prodB_one fun B hB => ?_]
        · rfl
        obtain ⟨r, hr, rfl⟩ := List.mem_map.mp hB
        obtain ⟨x, hx, ex⟩ := List.mem_map.mp (pl.mem_occ.mp (sub r hr))
        have e1 : ((occ n P).filter fun x => decide (x ∈ [r])).length = 1 := occ_filter (C := [r]) (by simp) fun y hy => by rw [List.mem_singleton.mp hy]; exact sub r hr
        show sur _ 1 _ = 1
        rw [e1]
        refine sur_one _ (List.count_pos_iff.mpr (List.mem_map.mpr ⟨r, List.mem_map.mpr ⟨x, hx, ex⟩, ?_⟩))
        rw [blkOf_eq RL hC hr, if_pos ti]
      · rw [if_neg ti, if_neg ti]
        show _ = ((_ * 1 : Nat) : Int)
        rw [Nat.mul_one]
        dsimp only
        rw [occ_filter ic.up sub, full_sur, count_map (f := blkOf P Ls) C (X := P) (p := fun x => decide (x.2 ∈ C)) fun x hx => ?_]
        · unfold inside
          rw [List.length_map]
        · obtain ⟨C', hC', hx'⟩ := reg_some RL pl hx
          rw [decide_eq_decide, blkOf_eq RL hC' hx']
          constructor
          · intro h
            have := RL.one hC hC' h hx'
            subst this
            rw [if_neg ti]
          · intro h
            split at h
            · rw [← h]; exact List.mem_singleton.mpr rfl
            · rw [← h]; exact hx'
    have gen : ∀ (Xs : List (List Int)) (z : Nat), (∀ C ∈ Xs, C ∈ Ls) → Xs.foldl (fun a C => a * fac P C) (z : Int) = (z * prodB (fun C => prodB (fun B => sur (((P.map (·.2)).map (blkOf P Ls)).count B) B.length ((occ n P).filter fun x => decide (x ∈ B)).length) (blksOf P C)) Xs : Nat) := fun Xs => by
      induction Xs with
      | nil => intro z _; show (z : Int) = ((z * 1 : Nat) : Int); rw [Nat.mul_one]
      | cons C Xs ih =>
        intro z h
        rw [List.foldl_cons, fac_eq C (h C List.mem_cons_self), ← Int.natCast_mul, ih _ fun C' hC' => h C' (List.mem_cons_of_mem _ hC')]
        show _ = ((z * (_ * prodB _ Xs) : Nat) : Int)
        rw [Nat.mul_assoc]
    have := gen Ls 1 fun _ h => h
    rw [Nat.one_mul] at this
    exact this
  · obtain ⟨a, ha, rfl⟩ := List.mem_map.mp hl
    obtain ⟨x, hx, rfl⟩ := List.mem_map.mp ha
    obtain ⟨C, hC, hxC⟩ := reg_some RL pl hx
    refine List.mem_flatMap.mpr ⟨C, hC, ?_⟩
    rw [blkOf_eq RL hC hxC]
    unfold blksOf
    split
    · exact List.mem_map.mpr ⟨_, hxC, rfl⟩
    · exact List.mem_singleton.mpr rfl
  · obtain ⟨C, hC, hxC⟩ := RL.ex (occ_up n P) hx
    have : x ∈ (blksOf P C).flatten := by rw [blksOf_flat]; exact hxC
    obtain ⟨B, hB, hxB⟩ := List.mem_flatten.mp this
    exact ⟨B, List.mem_flatMap.mpr ⟨C, hC, hB⟩, hxB⟩
theorem crt_count (pl : Pl n P) (RL : Regs D (occ n P) Ls) {c : Int} (h : crt P 1 Ls = .inl c) : c = (nco ((P.map (·.2)).map (regOf Ls)) [] : Nat) ∧ ∀ C ∈ Ls, (inside P C).length = C.length → C.length ≤ 1 := by
  have gen : ∀ (Xs : List (List Int)) (z : Nat) (c : Int), crt P (z : Int) Xs = .inl c → c = (z * prodB (fun C => C.length ^ (inside P C).length) Xs : Nat) ∧ ∀ C ∈ Xs, (inside P C).length = C.length → C.length ≤ 1 := fun Xs => by
    induction Xs with
    | nil =>
      intro z c h
      injection h with h
      exact ⟨by rw [← h]; show (z : Int) = ((z * 1 : Nat) : Int); rw [Nat.mul_one], fun _ h => nomatch h⟩
    | cons C Xs ih =>
      intro z c h
      unfold crt at h
      split at h
      · cases h
      · rename_i no
        rw [show (z : Int) * (C.length : Int) ^ (inside P C).length = ((z * C.length ^ (inside P C).length : Nat) : Int) by rw [Int.natCast_mul, Int.natCast_pow]] at h
        obtain ⟨h1, h2⟩ := ih _ _ h
        refine ⟨?_, fun C' hC' ti => ?_⟩
        · rw [h1]
          show _ = ((z * (_ * prodB _ Xs) : Nat) : Int)
          rw [Nat.mul_assoc]
        · rcases List.mem_cons.mp hC' with e | hC'
          · subst e
            omega
          · exact h2 C' hC' ti
  obtain ⟨h1, h2⟩ := gen Ls 1 c h
  refine ⟨?_, h2⟩
  rw [h1, Nat.one_mul]
  congr 1
  have b : Blks Ls := blks_of RL.flat_nodup fun C hC => reg_ne RL hC
  rw [nco_prod b (fun l hl => ?_) List.nodup_nil fun x hx => nomatch hx]
  · refine prodB_congr fun C hC => ?_
    show _ = sur _ _ 0
    rw [sur_pow, count_map (f := regOf Ls) C (X := P) (p := fun x => decide (x.2 ∈ C)) fun x hx => ?_]
    · unfold inside
      rw [List.length_map]
    · obtain ⟨C', hC', hx'⟩ := reg_some RL pl hx
      rw [decide_eq_decide, regOf_eq RL hC' hx']
      exact ⟨fun h => (RL.one hC hC' h hx').symm, fun h => h ▸ hx'⟩
  · obtain ⟨a, ha, rfl⟩ := List.mem_map.mp hl
    obtain ⟨x, hx, rfl⟩ := List.mem_map.mp ha
    obtain ⟨C, hC, hxC⟩ := reg_some RL pl hx
    rw [regOf_eq RL hC hxC]
    exact hC
end
end Fw
set_option maxHeartbeats 4000000
namespace Fw
open PySem PySem.Spec PyProof.Rows L2
/-! classes and reachable placements, counted (k56) -/
theorem in2_iff {f : Int → List Int} : ∀ {P R : List (Str × Int)}, R.map (·.1) = P.map (·.1) → (P.map (·.1)).Nodup → (In2 (R.map (·.2)) ((P.map (·.2)).map f) ↔ ∀ nm r r', (nm, r) ∈ P → (nm, r') ∈ R → r' ∈ f r)
  | [], [], _, _ => ⟨fun _ nm r r' h => (nomatch h), fun _ => .nil⟩
  | [], _ :: _, e, _ => (nomatch e)
  | _ :: _, [], e, _ => (nomatch e)
  | (a, r0) :: P, (b, s0) :: R, e, nd => by
    rw [List.map_cons, List.map_cons] at e
    obtain ⟨e1, e2⟩ := List.cons.inj e
    have e1 : b = a := e1
    subst e1
    rw [List.map_cons, List.nodup_cons] at nd
    have ih := in2_iff (f := f) e2 nd.2
    have nP : ∀ r, (b, r) ∉ P := fun r h => nd.1 (List.mem_map_of_mem (f := (·.1)) h)
    have nR : ∀ r, (b, r) ∉ R := fun r h => nd.1 (by rw [← e2]; exact List.mem_map_of_mem (f := (·.1)) h)
    constructor
    · intro h nm r r' h1 h2
      rw [List.map_cons, List.map_cons, List.map_cons] at h
      cases h with
      | cons hx ht =>
        rcases List.mem_cons.mp h1 with q | h1 <;> rcases List.mem_cons.mp h2 with q' | h2
        · cases q
          cases q'
          exact hx
        · cases q
          exact (nR _ h2).elim
        · cases q'
          exact (nP _ h1).elim
        · exact ih.mp ht nm r r' h1 h2
    · intro h
      exact .cons (h b r0 s0 List.mem_cons_self List.mem_cons_self) (ih.mpr fun nm r r' h1 h2 => h nm r r' (List.mem_cons_of_mem _ h1) (List.mem_cons_of_mem _ h2))
theorem zip_rooms : ∀ {ns : List Str} {c : List Int}, c.length = ns.length → (ns.zip c).map (·.2) = c
  | [], [], _ => rfl
  | [], _ :: _, h => by cases h
  | _ :: _, [], h => by cases h
  | a :: ns, x :: c, h => by
    rw [List.zip_cons_cons, List.map_cons, zip_rooms (by simpa using h)]
theorem zip_names : ∀ {ns : List Str} {c : List Int}, c.length = ns.length → (ns.zip c).map (·.1) = ns
  | [], [], _ => rfl
  | [], _ :: _, h => by cases h
  | _ :: _, [], h => by cases h
  | a :: ns, x :: c, h => by
    rw [List.zip_cons_cons, List.map_cons, zip_names (by simpa using h)]
theorem in2_len {c : List Int} {ls : List (List Int)} (h : In2 c ls) : c.length = ls.length := by
  induction h with
  | nil => rfl
  | cons _ _ ih => rw [List.length_cons, List.length_cons, ih]
theorem in2_mem {c : List Int} {ls : List (List Int)} (h : In2 c ls) : ∀ x ∈ c, ∃ l ∈ ls, x ∈ l := by
  induction h with
  | nil => exact fun x hx => nomatch hx
  | cons hx _ ih =>
    intro y hy
    rcases List.mem_cons.mp hy with e | hy
    · exact ⟨_, List.mem_cons_self, e ▸ hx⟩
    · obtain ⟨l, h1, h2⟩ := ih y hy
      exact ⟨l, List.mem_cons_of_mem _ h1, h2⟩
theorem rooms_inj : ∀ {P R : List (Str × Int)}, P.map (·.1) = R.map (·.1) → P.map (·.2) = R.map (·.2) → P = R
  | [], [], _, _ => rfl
  | [], _ :: _, e, _ => (nomatch e)
  | _ :: _, [], e, _ => (nomatch e)
  | (a, x) :: P, (b, y) :: R, e1, e2 => by
    rw [List.map_cons, List.map_cons] at e1 e2
    obtain ⟨h1, h2⟩ := List.cons.inj e1
    obtain ⟨h3, h4⟩ := List.cons.inj e2
    rw [rooms_inj h2 h4, show a = b from h1, show x = y from h3]
/-- placements of the same people by their rooms: as many as there are rows of rooms -/
theorem rows_len {P : List (Str × Int)} {ks : List (List (Str × Int))} {cs : List (List Int)} (nd : ks.Nodup) (ndc : cs.Nodup) (nm : ∀ R ∈ ks, R.map (·.1) = P.map (·.1)) (lc : ∀ c ∈ cs, c.length = P.length) (mem : ∀ R, R.map (·.1) = P.map (·.1) → (R ∈ ks ↔ R.map (·.2) ∈ cs)) : ks.length = cs.length := by
  refine Nat.le_antisymm ?_ ?_
  · have h := subset_len (xs := ks.map fun R => R.map (·.2)) (ys := cs) ?_ fun c hc => ?_
    · rwa [List.length_map] at h
    · rw [List.Nodup, List.pairwise_map]
      refine List.Pairwise.imp_of_mem (fun {a b} ha hb ne e => ne ?_) nd
      exact rooms_inj ((nm a ha).trans (nm b hb).symm) e
    · obtain ⟨R, hR, rfl⟩ := List.mem_map.mp hc
      exact (mem R (nm R hR)).mp hR
  · have h := subset_len (xs := cs.map fun c => (P.map (·.1)).zip c) (ys := ks) ?_ fun R hR => ?_
    · rwa [List.length_map] at h
    · rw [List.Nodup, List.pairwise_map]
      refine List.Pairwise.imp_of_mem (fun {a b} ha hb ne e => ne ?_) ndc
      have := congrArg (List.map (·.2)) e
      rwa [zip_rooms (by rw [List.length_map]; exact lc a ha), zip_rooms (by rw [List.length_map]; exact lc b hb)] at this
    · obtain ⟨c, hc, rfl⟩ := List.mem_map.mp hR
      have l := lc c hc
      refine (mem _ (zip_names (by rw [List.length_map]; exact l))).mpr ?_
      rw [zip_rooms (by rw [List.length_map]; exact l)]
      exact hc
section
variable {n : Int} {D : List (Int × Int)} {P R : List (Str × Int)} {Ls : List (List Int)}
theorem mutl_in2 (pl : Pl n P) (nm : R.map (·.1) = P.map (·.1)) (RL : Regs D (occ n P) Ls) : Mutl n D P R ↔ In2 (R.map (·.2)) ((P.map (·.2)).map (blkOf P Ls)) ∧ cov (occ n P) (R.map (·.2)) = true := by
  have region : ∀ {r : Int} {C : List Int}, r ∈ P.map (·.2) → IsC D (occ n P) r C → C ∈ Ls := fun {r C} hr ic => (RL.mem C).mpr ⟨r, pl.mem_occ.mpr hr, ic⟩
  rw [in2_iff nm pl.nodup]
  unfold cov
  rw [List.all_eq_true]
  constructor
  · rintro ⟨h1, h2⟩
    refine ⟨fun a r r' m m' => ?_, fun x hx => decide_eq_true ((h1 x).mp (pl.mem_occ.mp hx))⟩
    obtain ⟨C, hC, hr⟩ := reg_some RL pl m
    obtain ⟨_, ic⟩ := RL.has hC hr
    obtain ⟨q1, q2⟩ := h2 a r r' m m' C ic
    rw [blkOf_eq RL hC hr]
    split
    · rename_i ti
      rw [q2 ti]
      exact List.mem_singleton.mpr rfl
    · exact q1
  · rintro ⟨h1, h2⟩
    have inC : ∀ a r r', (a, r) ∈ P → (a, r') ∈ R → ∀ C, IsC D (occ n P) r C → r' ∈ C ∧ ((inside P C).length = C.length → r' = r) := fun a r r' m m' C ic => by
      have hC := region (List.mem_map_of_mem (f := (·.2)) m) ic
      have hr := (ic.mem r).mpr .base
      have := h1 a r r' m m'
      rw [blkOf_eq RL hC hr] at this
      split at this
      · have e := List.mem_singleton.mp this
        exact ⟨e ▸ hr, fun _ => e⟩
      · rename_i no
        exact ⟨this, fun ti => absurd ti no⟩
    refine ⟨fun x => ⟨fun hx => of_decide_eq_true (h2 x (pl.mem_occ.mpr hx)), fun hx => ?_⟩, inC⟩
    obtain ⟨y, hy, rfl⟩ := List.mem_map.mp hx
    obtain ⟨z, hz, ez⟩ := List.mem_map.mp (show y.1 ∈ P.map (·.1) by rw [← nm]; exact List.mem_map_of_mem (f := (·.1)) hy)
    obtain ⟨C, hC, hr⟩ := reg_some RL pl hz
    obtain ⟨ro, ic⟩ := RL.has hC hr
    have := (inC z.1 z.2 y.2 hz (by rw [ez]; exact hy) C ic).1
    exact pl.mem_occ.mp (ic.sub ro _ this)
theorem opn_of_own {G : List (Str × Int)} (pl : Pl n P) (plG : Pl n G) (e : P.map (·.1) = G.map (·.1)) (w : ∀ nm c t, (nm, c) ∈ P → (nm, t) ∈ G → Wk D (occ n P) c t) (st : ∀ C s, s ∈ occ n P → IsC D (occ n P) s C → (inside P C).length = C.length → Stl P G C) : Opn D n P G := by
  obtain ⟨Ls, RL⟩ := regs_exA D (occ_up n P)
  refine (opn_of RL).mpr ⟨(outp_nil plG.nodup e).mpr w, ?_⟩
  unfold stL
  rw [List.filter_eq_nil_iff]
  intro C hC
  obtain ⟨h1, h2⟩ := List.mem_filter.mp hC
  obtain ⟨s, hs, ic⟩ := (RL.mem C).mp h1
  rw [solB_iff.mpr (.still (st C s hs ic (ctb_iff.mp h2).1))]
  decide
theorem mutl_rch (hF : Forest n D) (pl : Pl n P) (plR : Pl n R) (nm : R.map (·.1) = P.map (·.1)) (h : Mutl n D P R) : Rch n D P R := by
  refine (opn_rch hF pl plR nm.symm).mp (opn_of_own pl plR nm.symm (fun a c t m m' => ?_) fun C s hs ic ti a c t m hc m' => ?_)
  · obtain ⟨C, ic⟩ := isC_ex D (occ_up n P) (pl.mem_occ.mpr (List.mem_map_of_mem (f := (·.2)) m))
    exact (ic.mem t).mp (h.2 a c t m m' C ic).1
  · exact (h.2 a c t m m' C (ic.re hs hc)).2 ti
/-- placements from which each other is reached -/
theorem mutl_both (hF : Forest n D) (pl : Pl n P) (plR : Pl n R) (nm : R.map (·.1) = P.map (·.1)) : Mutl n D P R ↔ Rch n D P R ∧ Rch n D R P :=
  ⟨fun h => ⟨mutl_rch hF pl plR nm h, mutl_rch hF plR pl nm.symm (h.symm nm pl plR)⟩, fun h => mutl_of hF pl plR h.1 h.2⟩
theorem class_len {ks : List (List (Str × Int))} (pl : Pl n P) (RL : Regs D (occ n P) Ls) (nd : ks.Nodup) (nm : ∀ R ∈ ks, R.map (·.1) = P.map (·.1)) (mem : ∀ R, R.map (·.1) = P.map (·.1) → (R ∈ ks ↔ Mutl n D P R)) : csz P Ls = (ks.length : Nat) := by
  rw [csz_count pl RL, rows_len (cs := (combos ((P.map (·.2)).map (blkOf P Ls))).filter (cov (occ n P))) nd ?_ nm (fun c hc => ?_) fun R e => ?_]
  · rfl
  · refine List.Nodup.sublist List.filter_sublist (combos_nodup fun l hl => ?_)
    obtain ⟨a, ha, rfl⟩ := List.mem_map.mp hl
    obtain ⟨x, hx, rfl⟩ := List.mem_map.mp ha
    obtain ⟨C, hC, hr⟩ := reg_some RL pl hx
    rw [blkOf_eq RL hC hr]
    obtain ⟨_, ic⟩ := RL.has hC hr
    split
    · simp
    · exact up_nodup ic.up
  · have := in2_len (mem_combos.mp (List.mem_filter.mp hc).1)
    rwa [List.length_map, List.length_map] at this
  · rw [mem R e, mutl_in2 pl e RL, List.mem_filter, mem_combos]
/-- where no tight region has two rooms, everybody goes anywhere in their region -/
theorem rch_in2 (hF : Forest n D) (pl : Pl n P) (plR : Pl n R) (nm : R.map (·.1) = P.map (·.1)) (RL : Regs D (occ n P) Ls) (sm : ∀ C ∈ Ls, (inside P C).length = C.length → C.length ≤ 1) : Rch n D P R ↔ In2 (R.map (·.2)) ((P.map (·.2)).map (regOf Ls)) := by
  rw [in2_iff nm pl.nodup]
  constructor
  · rintro ⟨X, h⟩ a r r' m m'
    obtain ⟨C, hC, hr⟩ := reg_some RL pl m
    rw [regOf_eq RL hC hr]
    obtain ⟨_, ic⟩ := RL.has hC hr
    exact (ic.mem r').mpr ((Wk.congr fun x => pl.mem_occ).mpr (h.out hF pl.nodup a r r' m m'))
  · intro h
    refine (opn_rch hF pl plR nm.symm).mp (opn_of_own pl plR nm.symm (fun a c t m m' => ?_) fun C s hs ic ti a c t m hc m' => ?_)
    · obtain ⟨C, hC, hr⟩ := reg_some RL pl m
      have := h a c t m m'
      rw [regOf_eq RL hC hr] at this
      obtain ⟨_, ic⟩ := RL.has hC hr
      exact (ic.mem t).mp this
    · have hC : C ∈ Ls := (RL.mem C).mpr ⟨s, hs, ic⟩
      have := h a c t m m'
      rw [regOf_eq RL hC hc] at this
      have l1 := sm C hC ti
      match C, l1, hc, this with
      | [x], _, hc, ht => rw [List.mem_singleton.mp hc, List.mem_singleton.mp ht]
theorem all_len {ks : List (List (Str × Int))} (hF : Forest n D) (pl : Pl n P) (RL : Regs D (occ n P) Ls) (nd : ks.Nodup) (nm : ∀ R ∈ ks, R.map (·.1) = P.map (·.1)) (mem : ∀ R, R.map (·.1) = P.map (·.1) → (R ∈ ks ↔ Rch n D P R)) {c : Int} (h : crt P 1 Ls = .inl c) : c = (ks.length : Nat) := by
  obtain ⟨h1, sm⟩ := crt_count pl RL h
  have plOf : ∀ R, R.map (·.1) = P.map (·.1) → In2 (R.map (·.2)) ((P.map (·.2)).map (regOf Ls)) → Pl n R := fun R e h => by
    refine ⟨by rw [e]; exact pl.nm, fun x hx => ?_⟩
    obtain ⟨l, hl, hx⟩ := in2_mem h x.2 (List.mem_map_of_mem (f := (·.2)) hx)
    obtain ⟨a, ha, rfl⟩ := List.mem_map.mp hl
    obtain ⟨y, hy, rfl⟩ := List.mem_map.mp ha
    obtain ⟨C, hC, hr⟩ := reg_some RL pl hy
    rw [regOf_eq RL hC hr] at hx
    obtain ⟨ro, ic⟩ := RL.has hC hr
    obtain ⟨z, hz, ez⟩ := List.mem_map.mp (pl.mem_occ.mp (ic.sub ro _ hx))
    exact ez ▸ pl.rm z hz
  rw [h1, rows_len (cs := combos ((P.map (·.2)).map (regOf Ls))) nd ?_ nm (fun c hc => ?_) fun R e => ?_]
  · unfold nco
    congr 2
    refine (List.filter_eq_self.mpr fun c _ => rfl)
  · refine combos_nodup fun l hl => ?_
    obtain ⟨a, ha, rfl⟩ := List.mem_map.mp hl
    obtain ⟨x, hx, rfl⟩ := List.mem_map.mp ha
    obtain ⟨C, hC, hr⟩ := reg_some RL pl hx
    rw [regOf_eq RL hC hr]
    obtain ⟨_, ic⟩ := RL.has hC hr
    exact up_nodup ic.up
  · have := in2_len (mem_combos.mp hc)
    rwa [List.length_map, List.length_map] at this
  · rw [mem R e, mem_combos]
    constructor
    · intro h
      obtain ⟨X, hX⟩ := id h
      exact (rch_in2 hF pl (hX.pl pl) e RL sm).mp h
    · intro h
      exact (rch_in2 hF pl (plOf R e h) e RL sm).mpr h
end
end Fw
set_option maxHeartbeats 2000000
namespace Fw
open PySem PySem.Spec PyProof.Rows L2
/-! dicts keyed by placements -/
/-- a placement as a key -/
def pk (P : List (Str × Int)) : NestedKey := .tup (P.map fun x => .tup [.text x.1, .num x.2])
theorem pk_inj : ∀ {P R : List (Str × Int)}, pk P = pk R → P = R := by
  intro P R h
  injection h with h
  induction P generalizing R with
  | nil => cases R with
    | nil => rfl
    | cons y r => cases h
  | cons x P ih => cases R with
    | nil => cases h
    | cons y R =>
      rw [List.map_cons, List.map_cons] at h
      injection h with h1 h2
      injection h1 with h1
      injection h1 with h1 h3
      injection h1 with h1
      injection h3 with h3 h4
      injection h3 with h3
      rw [ih h2, Prod.ext h1 h3]
theorem pk_depth (P : List (Str × Int)) : (pk P).depth ≤ 2 := by
  have : NestedKey.depthAll (P.map fun x => NestedKey.tup [.text x.1, .num x.2]) ≤ 1 := by
    induction P with
    | nil => exact Nat.zero_le _
    | cons x P ih =>
      rw [List.map_cons]
      simp only [NestedKey.depthAll, NestedKey.depth]
      omega
  unfold pk
  simp only [NestedKey.depth]
  omega
/-- what the object of such a dict is -/
def DnO (P : Program) (w : World) (d : Addr) (xs : List (NestedKey × Addr × Value)) : HO :=
  .ext fun h => ∃ o es ep, h.get? d = some o ∧ o.ExactDict ∧ o.data = .dict es ep ∧ es.toList = xs.map (entryOfKey (nestedKind P w)) ∧ (xs.map (·.1)).Nodup
/-- what ties an entry to what is told of it -/
def DnE (H : Hp) (p : List (Str × Int) × V) (q : NestedKey × Addr × Value) : Prop := pk p.1 = q.1 ∧ PlAt H q.2.1 p.1 ∧ RelV p.2 q.2.2
structure DnAt (P : Program) (w : World) (H : Hp) (d : Addr) (ks : List (List (Str × Int) × V)) : Prop where
  ex : ∃ xs, H d = some (DnO P w d xs) ∧ Paired (DnE H) ks xs
  no : d ≠ sysModules
  z : ks.length ≤ sizeLine
theorem paired_right {α β : Type} {F : α → β → Prop} : ∀ {xs : List α} {ys : List β}, Paired F xs ys → ∀ {y : β}, y ∈ ys → ∃ x, F x y
  | _, _, .nil, _, h => nomatch h
  | _, _, .cons h r, y, m => by
    rcases List.mem_cons.mp m with e | m
    · exact e ▸ ⟨_, h⟩
    · exact paired_right r m
section
variable {X : Cx} {pins : List (Addr × Obj)} {σ : L2.St} {H : Hp} {s : Shared}
theorem nested_row (I : Inv X pins σ H s) {a : Addr} {z : Str} {i : Int} (h : H a = some (.tup [.str z, .int i])) : NestedIs s.heap (.tup [.text z, .num i]) (.ref a) := by
  obtain ⟨its, r, pl, _⟩ := I.tuple (SqT.of h)
  obtain ⟨o, ho, hc, n, hd⟩ := pl
  cases r with
  | cons r1 r =>
    cases r with
    | cons r2 r =>
      cases r
      obtain ⟨t1, e1⟩ := r1
      obtain ⟨t2, e2⟩ := r2
      exact .tup ho hc hd (.cons (by rw [e1]; exact .text _ _) (.cons (by rw [e2]; exact .int _ _) .nil))
theorem nested_rows (I : Inv X pins σ H s) : ∀ {ps : List (Addr × Str × Int)} {its : List Value}, (∀ q ∈ ps, H q.1 = some (.tup [.str q.2.1, .int q.2.2])) → Vals (ps.map fun q => V.ref q.1) its → NestedAll s.heap ((ps.map (·.2)).map fun x => NestedKey.tup [.text x.1, .num x.2]) its
  | [], _, _, r => by cases r; exact .nil
  | q :: ps, _, h, r => by
    cases r with
    | cons r1 r2 =>
      cases r1
      exact .cons (nested_row I (h q (List.mem_cons_self ..))) (nested_rows I (fun y hy => h y (List.mem_cons_of_mem _ hy)) r2)
/-- a placement that lies in memory is that key -/
theorem nested_pl (I : Inv X pins σ H s) {a : Addr} {P : List (Str × Int)} (h : PlAt H a P) : (nestedKind X.prog X.w).is s.heap (pk P) a := by
  obtain ⟨ps, h1, rfl, h3⟩ := h
  obtain ⟨its, r, pl, _⟩ := I.tuple (h1.sq (K := X.K))
  obtain ⟨o, ho, hc, n, hd⟩ := pl
  exact ⟨.tup ho hc hd (nested_rows I h3 r), Nat.le_trans (pk_depth _) (by decide)⟩
theorem keys_pk {ks : List (List (Str × Int) × V)} {xs : List (NestedKey × Addr × Value)} (pr : Paired (DnE H) ks xs) : (pairsH xs).map (·.1) = ks.map fun p => pk p.1 := by
  induction pr with
  | nil => rfl
  | cons h _ ih =>
    exact congr (congrArg List.cons h.1.symm) ih
theorem value_pk {ks : List (List (Str × Int) × V)} {xs : List (NestedKey × Addr × Value)} (pr : Paired (DnE H) ks xs) {P : List (Str × Int)} {v : V} (m : (P, v) ∈ ks) : ∃ u, (pk P, u) ∈ pairsH xs ∧ RelV v u := by
  induction pr with
  | nil => cases m
  | cons h _ ih =>
    rcases List.mem_cons.mp m with e | m
    · subst e
      exact ⟨_, by rw [h.1]; exact List.mem_cons_self, h.2.2⟩
    · obtain ⟨u, hu, r⟩ := ih m
      exact ⟨u, List.mem_cons_of_mem _ hu, r⟩
/-- what the rules of such a dict want -/
theorem DnAt.keyed {ks : List (List (Str × Int) × V)} {d : Addr} (I : Inv X pins σ H s) (h : DnAt X.prog X.w H d ks) : ∃ xs, H d = some (DnO X.prog X.w d xs) ∧ Paired (DnE H) ks xs ∧ s.heap.DictOfH (nestedKind X.prog X.w) d xs := by
  obtain ⟨xs, e, pr⟩ := h.ex
  obtain ⟨⟨o, es, ep, ho, he, hd, hl, hn⟩, _, _⟩ := (show ObjOk X.prog X.w H s.heap d (DnO X.prog X.w d xs) from I.hok d _ e)
  refine ⟨xs, e, pr, o, es, ep, ho, he, hd, hl, fun x hx => ?_, hn⟩
  obtain ⟨p, hp⟩ := paired_right pr hx
  rw [← hp.1]
  exact nested_pl I hp.2.1
theorem op_notInP (hu : X.A.units + 64 < cLine) : OpR X (compareOp .NotIn) (fun x y H Q => ∃ (a d : Addr) (P : List (Str × Int)) (ks : List (List (Str × Int) × V)), x = .ref a ∧ y = .ref d ∧ PlAt H a P ∧ DnAt X.prog X.w H d ks ∧ Q (.bl (!decide (∃ p ∈ ks, p.1 = P))) H) := by
  rintro pn s σ H _ _ v u Q I rx ry ⟨a, d, P, ks, rfl, rfl, hp, hd, q⟩
  cases (show v = Value.ref a from rx)
  cases (show u = Value.ref d from ry)
  obtain ⟨xs, e, pr, hm⟩ := hd.keyed I
  refine notIn_keyed (knd := nestedKind X.prog X.w) (A := X.A) (by show X.A.units + 1 + 8 < cLine; omega) (nested_pl I hp) (by simpa using hd.no) ⟨xs, hm, rfl⟩ ?_
  refine ⟨.bl _, H, I.tok _, ?_, q⟩
  show Value.bool _ = Value.bool _
  congr 2
  rw [Bool.eq_iff_iff, valueAt_isSome, keys_pk pr, decide_eq_true_iff]
  constructor
  · intro m
    obtain ⟨p, hp, e⟩ := List.mem_map.mp m
    exact ⟨p, hp, pk_inj e⟩
  · rintro ⟨p, mp, rfl⟩
    exact List.mem_map_of_mem (f := fun p : List (Str × Int) × V => pk p.1) mp
theorem getItem_pk (hu : X.A.units + 64 < cLine) {d b : Addr} {P : List (Str × Int)} {v : V} {ks : List (List (Str × Int) × V)} {Q : Value → Shared → Prop} {E : Value → Shared → Prop} (I : Inv X pins σ H s) (hp : PlAt H b P) (hd : DnAt X.prog X.w H d ks) (m : (P, v) ∈ ks)
    (h : ∀ u s', Inv X pins σ H s' → RelV v u → Q u s') : wpAny (model X.prog X.w) X.A (getItem (.ref d) (.ref b)) Q E s := by
  obtain ⟨xs, e, pr, hm⟩ := hd.keyed I
  obtain ⟨u, hu', r⟩ := value_pk pr m
  have nd : ((pairsH xs).map (·.1)).Nodup := Heap.DictKeyed.nodup ⟨xs, hm, rfl⟩
  exact getItem_keyed (knd := nestedKind X.prog X.w) (A := X.A) (by show X.A.units + 1 + 8 < cLine; omega) (nested_pl I hp) ⟨xs, hm, rfl⟩ (valueAt_of_mem nd hu') (h u _ (I.tok _) r)
theorem paired_map {α β : Type} {F G : α → β → Prop} (i : ∀ x y, F x y → G x y) : ∀ {xs : List α} {ys : List β}, Paired F xs ys → Paired G xs ys
  | _, _, .nil => .nil
  | _, _, .cons h r => .cons (i _ _ h) (paired_map i r)
theorem paired_snoc {α β : Type} {F : α → β → Prop} {x : α} {y : β} (h : F x y) : ∀ {xs : List α} {ys : List β}, Paired F xs ys → Paired F (xs ++ [x]) (ys ++ [y])
  | _, _, .nil => .cons h .nil
  | _, _, .cons h1 r => .cons h1 (paired_snoc h r)
theorem Tk.putE {H H' : Hp} (a : Tk H H') {L : Addr} {φ : Heap → Prop} {o : HO} (h : H' L = some (.ext φ)) : Tk H (upd H' L o) := by
  refine ⟨fun e => ?_, fun e => ?_⟩
  · rw [upd_ne (ne_of (a.t e) h (by intro z; cases z))]
    exact a.t e
  · rw [upd_ne (ne_of (a.f e) h (by intro z; cases z))]
    exact a.f e
/-- such a dict stays while it and the tuples stay -/
theorem DnAt.tk {P : Program} {w : World} {H H' : Hp} {d : Addr} {ks : List (List (Str × Int) × V)} (h : DnAt P w H d ks) (t : Tk H H') (e : H' d = H d) : DnAt P w H' d ks := by
  obtain ⟨⟨xs, h1, h2⟩, h3, h4⟩ := h
  exact ⟨⟨xs, e.trans h1, paired_map (fun _ _ z => ⟨z.1, z.2.1.tk t, z.2.2⟩) h2⟩, h3, h4⟩
theorem DnAt.same {P : Program} {w : World} {H H' : Hp} {d : Addr} {ks : List (List (Str × Int) × V)} (h : DnAt P w H d ks) (s : Same H H') : DnAt P w H' d ks := by
  obtain ⟨xs, h1, _⟩ := h.ex
  exact h.tk (Tk.of s) ((s _ _ h1).trans h1.symm)
/-- d[p] = v, p not there yet -/
theorem setItem_pk (hu : X.A.units + 64 < cLine) {d b : Addr} {P : List (Str × Int)} {v : V} {u : Value} {ks : List (List (Str × Int) × V)} {Q : Unit → Shared → Prop} {E : Value → Shared → Prop} (I : Inv X pins σ H s) (hp : PlAt H b P) (hd : DnAt X.prog X.w H d ks) (nw : ∀ p ∈ ks, p.1 ≠ P) (z : ks.length < sizeLine) (rv : RelV v u)
    (h : ∀ H' s', Inv X pins σ H' s' → (∃ xs, H' = upd H d (DnO X.prog X.w d xs)) → DnAt X.prog X.w H' d (ks ++ [(P, v)]) → Q () s') : wpAny (model X.prog X.w) X.A (setItem (.ref d) (.ref b) u) Q E s := by
  obtain ⟨xs, e, pr, hm⟩ := hd.keyed I
  have lx : xs.length = ks.length := by
    have := congrArg List.length (keys_pk pr)
    rw [List.length_map, List.length_map, pairsH_length] at this
    exact this
  have no : atKey xs (pk P) = none := by
    cases k : atKey xs (pk P) with
    | none => rfl
    | some y =>
      have : (valueAt (pairsH xs) (pk P)).isSome = true := by rw [valueAt_pairsH, k]; rfl
      rw [valueAt_isSome, keys_pk pr] at this
      obtain ⟨p, m, q⟩ := List.mem_map.mp this
      exact absurd (pk_inj q) (nw p m)
  refine wpAny_setItem_heap (knd := nestedKind X.prog X.w) (A := X.A) (hsz := by rw [lx]; exact hd.z) (by show X.A.units + 1 + 8 < cLine; omega) (nested_pl I hp) hm fun h' hm' hs => ?_
  rw [storedH_new no] at hm'
  obtain ⟨o, es, ep, ho, he, hdt, hl, hk, hn⟩ := hm'
  have new : ObjOk X.prog X.w (upd H d (DnO X.prog X.w d (xs ++ [(pk P, b, u)]))) h' d (DnO X.prog X.w d (xs ++ [(pk P, b, u)])) :=
    ⟨⟨o, es, ep, ho, he, hdt, hl, hn⟩, ⟨o, ho⟩, fun h1 h2 ⟨o, es, ep, ho, r⟩ k => ⟨o, es, ep, k o ho, r⟩⟩
  have t : Tk H (upd H d (DnO X.prog X.w d (xs ++ [(pk P, b, u)]))) := Tk.refl.putE e
  refine h _ _ (d_write I (by rw [e]; exact True.intro) hs ⟨o, ho⟩ new) ⟨_, rfl⟩ ⟨⟨_, upd_same, paired_snoc ⟨rfl, hp.tk t, rv⟩ (paired_map (fun _ _ z => ⟨z.1, z.2.1.tk t, z.2.2⟩) pr)⟩, hd.no, ?_⟩
  rw [List.length_append]
  exact z
theorem dn_empty {P : Program} {w : World} {H : Hp} (h : Heap) : ObjOk P w H (h.push { cls := .type "dict", data := .dict #[] }) h.objs.size (DnO P w h.objs.size []) :=
  ⟨⟨_, #[], 0, Heap.get?_push_size _ rfl, ⟨rfl, rfl, rfl⟩, rfl, rfl, List.nodup_nil⟩, ⟨_, Heap.get?_push_size _ rfl⟩, fun h1 h2 ⟨o, es, ep, ho, r⟩ k => ⟨o, es, ep, k o ho, r⟩⟩
/-- {p: v} -/
def tDNewP (P : Program) (w : World) (tk tv : TE) : TE := fun σ H Q => ∀ d, H d = none → d ≠ sysModules → tk σ (upd H d (DnO P w d [])) fun x H1 => tv σ H1 fun y H2 => ∃ b R, x = .ref b ∧ PlAt H2 b R ∧ H2 d = some (DnO P w d []) ∧
  ∀ H3, (∃ xs, H3 = upd H2 d (DnO P w d xs)) → DnAt P w H3 d [(R, y)] → Q (.ref d) H3
theorem pe_dnewP (hu : X.A.units + 64 < cLine) {k v : Expr} {tk tv : TE} {pos : Pos} (hk : PE X k tk) (hv : PE X v tv) : PE X (.Dict [some k] [v] pos) (tDNewP X.prog X.w tk tv) := by
  refine ⟨fun pn z σ H Q I h => ?_⟩
  have I0 := I.laid (a := z.heap.objs.size) (o := DnO X.prog X.w z.heap.objs.size []) (t' := z.toks) (fun _ _ q => Heap.get?_push_of_some _ q) (Nat.le_refl _) (dn_empty z.heap)
  have h0 := h z.heap.objs.size (I.hok.fresh (Nat.le_refl _)) (fun e => Nat.ne_of_lt I.big e.symm)
  have one := dictDisplay_pairs [(eval k X.env, (do let x ← eval v X.env; standAt pos; pure x : Sem Value))] (by simp) (show 1 < 17 by decide)
  rw [arm_eval_Dict]
  refine wpAny_bind (wpAny_standAt ?_)
  refine (congrArg (fun t => wpAny (model X.prog X.w) X.A t (EP X pn σ Q) X.xe z) one).mpr ?_
  refine wpAny_bind (wpAny_subDictH (knd := nestedKind X.prog X.w) (by show X.A.units + 8 < cLine; omega) (show 1 ≤ 15 by decide) (evalPairs_cons (thn (hk.run pn _ σ _ _ I0 h0) fun kv s1 a1 => ?_)))
  obtain ⟨x, H1, I1, rx, q1⟩ := a1
  refine wpAny_bind (thn (hv.run pn s1 σ H1 _ I1 q1) fun vv s2 a2 => ?_)
  obtain ⟨y, H2, I2, ry, b, R, rfl, hp, e2, q2⟩ := a2
  cases (show kv = Value.ref b from rx)
  have now := I2.hok _ _ e2
  obtain ⟨⟨o, es, ep, ho, he, hd, hl, hn⟩, _, _⟩ := (show ObjOk X.prog X.w H2 s2.heap z.heap.objs.size (DnO X.prog X.w z.heap.objs.size []) from now)
  refine wpAny_bind (wpAny_standAt (wpAny_pure (evalPairs_nil ⟨[(pk R, b, vv)], ⟨rfl, rfl, nested_pl I2 hp, True.intro⟩, ⟨o, es, ep, ho, he, hd, hl, (fun x hx => by cases hx), hn⟩, fun h' tk hm' hs => wpAny_pure ?_⟩)))
  rw [show storedAllH [] [(pk R, b, vv)] = [(pk R, b, vv)] from rfl] at hm'
  obtain ⟨o, es, ep, ho, he, hd, hl, hk, hn⟩ := hm'
  have new : ObjOk X.prog X.w (upd H2 z.heap.objs.size (DnO X.prog X.w z.heap.objs.size [(pk R, b, vv)])) h' z.heap.objs.size (DnO X.prog X.w z.heap.objs.size [(pk R, b, vv)]) :=
    ⟨⟨o, es, ep, ho, he, hd, hl, hn⟩, ⟨o, ho⟩, fun h1 h2 ⟨o, es, ep, ho, r⟩ k => ⟨o, es, ep, k o ho, r⟩⟩
  have t : Tk H2 (upd H2 z.heap.objs.size (DnO X.prog X.w z.heap.objs.size [(pk R, b, vv)])) := Tk.refl.putE e2
  exact ⟨.ref z.heap.objs.size, _, d_write I2 (by rw [e2]; exact True.intro) hs ⟨o, ho⟩ new, rfl, q2 _ ⟨_, rfl⟩ ⟨⟨_, upd_same, .cons ⟨rfl, hp.tk t, ry⟩ .nil⟩, fun e => Nat.ne_of_lt I.big e.symm, by show 1 ≤ sizeLine; decide⟩⟩
/-- d[p], p there -/
def tPGet (P : Program) (w : World) (td ty : TE) : TE := fun σ H Q => td σ H fun x H1 => ty σ H1 fun y H2 => ∃ (d b : Addr) (R : List (Str × Int)) (v : V) (ks : List (List (Str × Int) × V)), x = .ref d ∧ y = .ref b ∧ PlAt H2 b R ∧ DnAt P w H2 d ks ∧ (R, v) ∈ ks ∧ Q v H2
theorem pe_pget (hu : X.A.units + 64 < cLine) {o i : Expr} {pos : Pos} {td ty : TE} (ho : PE X o td) (hi : PE X i ty) (hs : NoSl i) : PE X (.Subscript o i pos) (tPGet X.prog X.w td ty) :=
  ⟨fun pn z σ H Q I h => subD_of PySem.F.slot_dict_getitem.lookup hs (thn (ho.run pn z σ H _ I h) fun u z1 a1 => by
    obtain ⟨x, H1, I1, rx, q1⟩ := a1
    refine thn (hi.run pn z1 σ H1 _ I1 q1) fun iv z2 a2 => ?_
    obtain ⟨y, H2, I2, ry, d, b, R, v, ks, rfl, rfl, hp, hd, m, q⟩ := a2
    cases (show u = Value.ref d from rx)
    cases (show iv = Value.ref b from ry)
    obtain ⟨xs, _, _, hm⟩ := hd.keyed I2
    exact ⟨hm.typeIs, getItem_pk hu I2 hp hd m fun w' z3 I3 rw' => ⟨v, H2, I3, rw', q⟩⟩)⟩
/-- d[p] = v, p not there yet -/
def sPPut (P : Program) (w : World) (td ty tv : TE) : TS := fun D σ H => tv σ H fun v H1 => td σ H1 fun x H2 => ty σ H2 fun y H3 => ∃ (d b : Addr) (R : List (Str × Int)) (ks : List (List (Str × Int) × V)), x = .ref d ∧ y = .ref b ∧ PlAt H3 b R ∧ DnAt P w H3 d ks ∧ (∀ p ∈ ks, p.1 ≠ R) ∧ ks.length < sizeLine ∧
  ∀ H4, (∃ xs, H4 = upd H3 d (DnO P w d xs)) → DnAt P w H4 d (ks ++ [(R, v)]) → D.nx σ H4
theorem ps_pput (hu : X.A.units + 64 < cLine) {o i value : Expr} {pos pos' : Pos} {td ty tv : TE} (ho : PE X o td) (hi : PE X i ty) (hv : PE X value tv) (hs : swapsWith value (some (.Subscript o i pos')) pos.line X.env = pure false) :
    PS X (.Assign [.Subscript o i pos'] value pos) (sPPut X.prog X.w td ty tv) := by
  refine ⟨fun pn z σ H D I h => wpAny_Assign_Subscript (thn (hv.run pn z σ H _ I h) fun r z1 a1 => ?_) hs⟩
  obtain ⟨v, H1, I1, rv, q1⟩ := a1
  refine thn (ho.run pn z1 σ H1 _ I1 q1) fun u z2 a2 => ?_
  obtain ⟨x, H2, I2, rx, q2⟩ := a2
  refine thn (hi.run pn z2 σ H2 _ I2 q2) fun iv z3 a3 => ?_
  obtain ⟨y, H3, I3, ry, d, b, R, ks, rfl, rfl, hp, hd, nw, zz, q⟩ := a3
  cases (show u = Value.ref d from rx)
  cases (show iv = Value.ref b from ry)
  exact setItem_pk hu I3 hp hd nw zz rv fun H4 z4 I4 e d4 => ⟨σ, H4, I4, q H4 e d4⟩
end
end Fw
set_option maxHeartbeats 2000000
namespace Fw
open PySem PySem.Spec PyProof.Rows L2
/-! all placements that are reached, as a dict -/
/-- a list of placements -/
def EdAt (H : Hp) (l : Addr) (E : List (List (Str × Int))) : Prop := ∃ es : List (Addr × List (Str × Int)), H l = some (.lst (es.map fun q => V.ref q.1)) ∧ E = es.map (·.2) ∧ ∀ q ∈ es, PlAt H q.1 q.2
theorem EdAt.tk {H H' : Hp} {l : Addr} {E : List (List (Str × Int))} (x : EdAt H l E) (t : Tk H H') (e : H' l = H l) : EdAt H' l E := by
  obtain ⟨es, h1, h2, h3⟩ := x
  exact ⟨es, e.trans h1, h2, fun q hq => (h3 q hq).tk t⟩
theorem EdAt.same {H H' : Hp} {l : Addr} {E : List (List (Str × Int))} (x : EdAt H l E) (s : Same H H') : EdAt H' l E := by
  obtain ⟨es, h1, h2, h3⟩ := x
  exact ⟨es, s _ _ h1, h2, fun q hq => (h3 q hq).tk (Tk.of s)⟩
theorem EdAt.lst {H : Hp} {l : Addr} {E : List (List (Str × Int))} (x : EdAt H l E) : ∃ xs, H l = some (.lst xs) ∧ xs.length = E.length := by
  obtain ⟨es, h1, rfl, h3⟩ := x
  exact ⟨_, h1, by rw [List.length_map, List.length_map]⟩
theorem EdAt.snoc {H : Hp} {l p : Addr} {E : List (List (Str × Int))} {R : List (Str × Int)} (x : EdAt H l E) (hp : PlAt H p R) : ∃ acc, H l = some (.lst acc) ∧ acc.length = E.length ∧ EdAt (upd H l (.lst (acc ++ [.ref p]))) l (E ++ [R]) := by
  obtain ⟨es, h1, rfl, h3⟩ := x
  refine ⟨_, h1, by rw [List.length_map, List.length_map], es ++ [(p, R)], ?_, by rw [List.map_append]; rfl, fun q hq => ?_⟩
  · rw [upd_same, List.map_append]
    rfl
  · have t : Tk H (upd H l (.lst (es.map (fun q => V.ref q.1) ++ [.ref p]))) := Tk.refl.put h1
    rcases List.mem_append.mp hq with hq | hq
    · exact (h3 q hq).tk t
    · rw [List.mem_singleton.mp hq]
      exact hp.tk t
theorem get_ed {es : List (Addr × List (Str × Int))} {i : Nat} {x : V} (h : (es.map fun p => V.ref p.1)[i]? = some x) : ∃ p, es[i]? = some p ∧ x = .ref p.1 := by
  rw [List.getElem?_map] at h
  cases e : es[i]? with
  | none => rw [e] at h; cases h
  | some v => rw [e] at h; exact ⟨v, rfl, (Option.some.inj h).symm⟩
/-- a loop over a list of placements -/
theorem for_ed {K : PySem.W.Frag} {l : Addr} {E : List (List (Str × Int))} {i : Nat} {tb : TS} {D : Ends} {σ : L2.St} {H0 H : Hp} (x : EdAt H0 l E) (Pv : Nat → L2.St → Hp → Prop) (h0 : Pv 0 σ H) (hl : ∀ k σ H, Pv k σ H → Tk H0 H ∧ H l = H0 l)
    (hs : ∀ k a R σ H, E[k]? = some R → PlAt H a R → Pv k σ H → tb { D with nx := Pv (k + 1), ct := Pv (k + 1), bk := D.nx } (σ.set i (some (.ref a))) H) (hd : ∀ σ H, Pv E.length σ H → D.nx σ H) :
    ∃ W : Nat → Nat → L2.St → Hp → Prop, (∃ m, W 0 m σ H) ∧ ∀ k m σ H, W k m σ H →
      ((Itl K l).stop k H ∧ D.nx σ H) ∨ ((Itl K l).go k H ∧ ∃ N : L2.St → Hp → Prop, (∀ σ' H', N σ' H' → ∃ m', m' < m ∧ W (k + 1) m' σ' H') ∧ ∀ x H', (Itl K l).yld k H x H' → gName i x σ H' fun σ2 H2 => tb { D with nx := N, ct := N, bk := D.nx } σ2 H2) := by
  obtain ⟨es, h1, rfl, h3⟩ := x
  refine for_list (K := K) (a := l) (xs := es.map fun q => V.ref q.1) Pv h0 (fun i σ H _ hp => SqL.of ((hl i σ H hp).2.trans h1)) (fun k x σ H hx hp => ?_) (fun σ H hp => hd σ H (by rw [List.length_map] at hp ⊢; exact hp))
  obtain ⟨q, hq, rfl⟩ := get_ed hx
  exact hs k q.1 q.2 σ H (by rw [List.getElem?_map, hq]; rfl) ((h3 q (List.mem_of_getElem? hq)).tk (hl k σ H hp).1) hp
/-- a loop over a list of pairs, when other lists may change -/
theorem for_lsT {K : PySem.W.Frag} {l : Addr} {X : List (Str × Int)} {i j : Nat} {tb : TS} {D : Ends} {σ : L2.St} {H0 H : Hp} (x : LsAt H0 l X) (Pv : Nat → L2.St → Hp → Prop) (h0 : Pv 0 σ H) (hl : ∀ k σ H, Pv k σ H → Tk H0 H ∧ H l = H0 l)
    (hs : ∀ k nm r σ H, X[k]? = some (nm, r) → Pv k σ H → tb { D with nx := Pv (k + 1), ct := Pv (k + 1), bk := D.nx } ((σ.set i (some (.str nm))).set j (some (.int r))) H) (hd : ∀ σ H, Pv X.length σ H → D.nx σ H) :
    ∃ W : Nat → Nat → L2.St → Hp → Prop, (∃ m, W 0 m σ H) ∧ ∀ k m σ H, W k m σ H →
      ((Itl K l).stop k H ∧ D.nx σ H) ∨ ((Itl K l).go k H ∧ ∃ N : L2.St → Hp → Prop, (∀ σ' H', N σ' H' → ∃ m', m' < m ∧ W (k + 1) m' σ' H') ∧ ∀ x H', (Itl K l).yld k H x H' → gTup K 2 (gCons (gName i) (gCons (gName j) gNil)) x σ H' fun σ2 H2 => tb { D with nx := N, ct := N, bk := D.nx } σ2 H2) := by
  obtain ⟨ps, h1, rfl, h3⟩ := x
  refine for_list (K := K) (a := l) (xs := ps.map fun q => V.ref q.1) Pv h0 (fun i σ H _ hp => SqL.of ((hl i σ H hp).2.trans h1)) (fun k x σ H hx hp => ?_) (fun σ H hp => hd σ H (by rw [List.length_map] at hp ⊢; exact hp))
  obtain ⟨q, hq, rfl⟩ := get_pl hx
  refine ⟨q.1, _, rfl, SqT.of ((hl k σ H hp).1.t (h3 q (List.mem_of_getElem? hq))), rfl, _, _, rfl, _, _, rfl, rfl, ?_⟩
  exact hs k q.2.1 q.2.2 σ H (by rw [List.getElem?_map, hq]; rfl) hp
/-- what stands within a round -/
structure Rnd (Pg : Program) (w : World) (n : Int) (D : List (Int × Int)) (PP : List (Str × Int)) (H : Hp) (d e L : Addr) (E : List (List (Str × Int))) (r z : Nat) (ks : List (List (Str × Int) × V)) (N S : List (List (Str × Int))) (H' : Hp) : Prop where
  sm : Same H H'
  dn : DnAt Pg w H' d ks
  ed : EdAt H' e E
  nw : EdAt H' L N
  md : Mdl n D PP r ks N S
  ln : ks.length = z + N.length
theorem Rnd.same {Pg : Program} {w : World} {n : Int} {D : List (Int × Int)} {PP : List (Str × Int)} {H : Hp} {d e L : Addr} {E : List (List (Str × Int))} {r z : Nat} {ks : List (List (Str × Int) × V)} {N S : List (List (Str × Int))} {H1 H2 : Hp}
    (x : Rnd Pg w n D PP H d e L E r z ks N S H1) (s : Same H1 H2) : Rnd Pg w n D PP H d e L E r z ks N S H2 := ⟨x.sm.trans s, x.dn.same s, x.ed.same s, x.nw.same s, x.md, x.ln⟩
theorem Mdl.small {n : Int} {D : List (Int × Int)} {P : List (Str × Int)} {r : Nat} {ks : List (List (Str × Int) × V)} {N S : List (List (Str × Int))} (m : Mdl n D P r ks N S) (pl : Pl n P) : ks.length ≤ n.toNat ^ P.length := by
  have := reached_few (n := n) (P := P) m.nd fun R hR => by
    obtain ⟨p, hp, rfl⟩ := List.mem_map.mp hR
    obtain ⟨j, _, f⟩ := m.vl p hp
    exact ⟨f.1.names, f.1.pl pl⟩
  rwa [List.length_map] at this
section
variable {P : Program} {w : World} {K : PySem.W.Frag} {mg : Str → Option Value} {base : Heap}
/-- what the dict holds: each placement that is reached, with the fewest moves -/
structure Bfs (n : Int) (D : List (Int × Int)) (P : List (Str × Int)) (ks : List (List (Str × Int) × V)) : Prop where
  nd : (ks.map (·.1)).Nodup
  sd : ∀ p ∈ ks, ∃ j : Nat, p.2 = .int j ∧ Few n D j P p.1
  al : ∀ j R, Rb n D j P R → R ∈ ks.map (·.1)
def spReach (P : Program) (w : World) : Sp := fun vs H Q _ => ∃ (h p : Addr) (n : Int) (D : List (Int × Int)) (PP : List (Str × Int)), vs = [.ref h, .ref p] ∧ HouseAt H h n D ∧ Forest n D ∧ 0 ≤ n ∧ n ≤ 8 ∧ PlAt H p PP ∧ Pl n PP ∧ PP.length ≤ 12 ∧ n.toNat ^ PP.length < sizeLine ∧
  ∀ H' d ks, Same H H' → H d = none → DnAt P w H' d ks → Bfs n D PP ks → Q (.ref d) H'
abbrev nLReach : List Str := ["_law_house_here", "_law_placement_here", "_law_found", "_law_edge", "_law_newer", "_law_here", "_law_name", "_law_room", "_law_there"]
theorem scLReach : FnScope nLReach ["_law_house_here", "_law_placement_here"] (defScope sLReach) := ⟨rfl, rfl, rfl, by decide +kernel, rfl, by decide +kernel, by decide +kernel⟩
abbrev pLReach : List Str := ["_law_house_here", "_law_placement_here"]
theorem ok_lreach {f : Addr} {fd : FuncData} {k : Nat} (F : Fun K "_law_reachable" "_law_reachable" sLReach f fd) (T : Nm mg) (C_law_moves : Cal P w K mg base (k + 2) "_law_moves" ["_law_house_here", "_law_placement_here"] spLMoves) (C_law_moved : Cal P w K mg base (k + 2) "_law_moved" pLMoved spLMoved) : FnOk P w K mg base CX0 (k + 3) f fd pLReach (spReach P w) := by
  refine F.ok scLReach (fun vs H Q E h => ?_) (fun cdv A outer s H vs Q E1 hr h => ?_)
  · obtain ⟨h, p, n, D, PP, rfl, _⟩ := h
    rfl
  · obtain ⟨h, p, n, D, PP, rfl, hH, hF, n0, n1, hP, pl, lP, lN, q⟩ := h
    refine ⟨_, (pss_cons (ps_par (i := 2) (j := 3) (by rfl) scLReach.nd rfl rfl (by decide) rfl rfl (pa_cons (pe_dnewP hr.units (pv 1) pe_int) (pa_cons (pe_lst (pa_cons (pv 1) pa_nil)) pa_nil)) (by rfl))
      (pss_cons (ps_while PassesOwn.never (pt_cmpR (op_neL0 (Nat.lt_of_succ_lt (hu_of hr))) (pv 3) (pe_lst pa_nil) (nomark _))
      (pss_cons (ps_set (i := 4) scLReach.nd rfl (.inl rfl) (pe_lst pa_nil))
       (pss_cons (ps_for PassesOwn.never rfl (pi_listK K rfl (pv 3)) (pg_name (i := 5) scLReach.nd rfl (.inl rfl))
       (pss_one (ps_for PassesOwn.never rfl (pi_listK K rfl (pe_cal C_law_moves hr (by rfl) (pa_cons (pv 0) (pa_cons (pv 5) pa_nil)))) (pg_tup (by rfl) (pgs_cons (pg_name (i := 6) scLReach.nd rfl (.inl rfl)) (pgs_cons (pg_name (i := 7) scLReach.nd rfl (.inl rfl)) pgs_nil)))
        (pss_cons (ps_set (i := 8) scLReach.nd rfl (.inl rfl) (pe_cal C_law_moved hr (by rfl) (pa_cons (pv 5) (pa_cons (pv 6) (pa_cons (pv 7) pa_nil)))))
         (pss_one (ps_if (pt_cmpR (op_notInP hr.units) (pv 8) (pv 2) (by rfl))
         (pss_cons (ps_pput hr.units (pv 2) (pv 8) (pe_op op_add (pe_pget hr.units (pv 2) (pv 5) (fun _ _ => rfl)) pe_int) (by rfl))
          (pss_one (ps_expr (pe_bm PySem.F.plainAttrs_list PySem.F.slot_list_append PySem.F.type_list_append mt_append (pv 4) (pa_cons (pv 8) pa_nil)))))
         pss_nil))))))
       (pss_one (ps_set (i := 3) scLReach.nd rfl (.inl rfl) (pv 4))))))
      (pss_one (ps_ret (pv 2))))), ?_⟩
    refine fun d hd nd => ⟨_, rfl, p, PP, rfl, hP.same (same_upd hd), upd_same, fun H1 e1 d1 => ⟨_, rfl, by show 1 ≤ sizeLine; decide, fun l hl => ⟨_, _, rfl, ?_⟩⟩⟩
    dsimp only [gName]
    have s1 : Same H H1 := by
      obtain ⟨xs, rfl⟩ := e1
      exact same_put (same_upd hd) hd
    have s2 := s1.trans (same_upd (o := .lst [V.ref p]) hl)
    have ndl : d ≠ l := by
      obtain ⟨xs, hx, _⟩ := d1.ex
      exact ne_of_none hx hl
    refine ⟨fun m σ H' => ∃ e y4 y5 y6 y7 y8 r ks E, σ = [some (.ref h), some (.ref p), some (.ref d), some (.ref e), y4, y5, y6, y7, y8] ∧ Same H H' ∧ H e = none ∧ DnAt P w H' d ks ∧ EdAt H' e E ∧ Lay n D PP r ks E ∧ m = 2 * (n.toNat ^ PP.length - ks.length) + (if E = [] then 0 else 1), ⟨_, l, none, none, none, none, none, 0, _, [PP], rfl, s2, s1.free hl, d1.same (same_upd hl), ⟨[(p, PP)], upd_same, rfl, fun q hq => ?_⟩, Lay.start, rfl⟩, ?_⟩
    · rw [List.mem_singleton.mp hq]
      exact hP.same s2
    rintro m σ H2 ⟨e, y4, y5, y6, y7, y8, r, ks, E, rfl, sm, he, dn, ed, ly, rfl⟩
    obtain ⟨es, e1', e2', e3'⟩ := ed
    refine ⟨_, rfl, Nat.zero_le _, fun b hb => ⟨e, b, _, rfl, rfl, SqL.of (same_upd hb _ _ e1'), SqL.of upd_same, _, rfl, ?_⟩⟩
    have ed : EdAt H2 e E := ⟨es, e1', e2', e3'⟩
    by_cases ce : E = []
    · have z : es = [] := by
        rw [ce] at e2'
        exact List.map_eq_nil_iff.mp e2'.symm
      rw [z]
      refine iteF ?_
      rw [ce] at ly
      exact ⟨_, rfl, q _ d ks (sm.trans (same_upd hb)) hd (dn.same (same_upd hb)) ⟨ly.nd, ly.vl, fun j R hr => ly.done hr⟩⟩
    · have z : es ≠ [] := fun z => ce (by rw [e2', z]; rfl)
      have zz : (!(es.map fun q => V.ref q.1).isEmpty) = true := by
        cases es with
        | nil => exact absurd rfl z
        | cons _ _ => rfl
      rw [zz, if_neg ce]
      refine iteT ⟨_, fun _ _ h => h, ?_⟩
      have sb := sm.trans (same_upd (o := .lst []) hb)
      refine ⟨Nat.zero_le _, fun L hL => ?_⟩
      have sL := sb.trans (same_upd (o := .lst []) hL)
      have edL := (ed.same (same_upd (o := .lst []) hb)).same (same_upd (o := .lst []) hL)
      have dnL := (dn.same (same_upd (o := .lst []) hb)).same (same_upd (o := .lst []) hL)
      have neL : e ≠ L := by
        obtain ⟨xs, hx, _⟩ := (ed.same (same_upd (o := .lst []) hb)).lst
        exact ne_of_none hx hL
      have ndL : d ≠ L := by
        obtain ⟨xs, hx, _⟩ := (dn.same (same_upd (o := .lst []) hb)).ex
        exact ne_of_none hx hL
      have nde : d ≠ e := by
        obtain ⟨xs, hx, _⟩ := dn.ex
        obtain ⟨ys, hy, _⟩ := ed.lst
        exact ne_of hx hy (by intro z; cases z)
      have fL : H L = none := sb.free hL
      have kz : ks.length ≤ n.toNat ^ PP.length := ly.mid.small pl
      obtain ⟨xsE, hxE, lxE⟩ := edL.lst
      refine ⟨_, rfl, e, rfl, ⟨_, SqL.of hxE⟩, for_ed edL (fun i σ H' => ∃ y5 y6 y7 y8 ks' N S, σ = [some (.ref h), some (.ref p), some (.ref d), some (.ref e), some (.ref L), y5, y6, y7, y8] ∧ Rnd P w n D PP H d e L E r ks.length ks' N S H' ∧ Tk (upd (upd H2 b (.lst [])) L (.lst [])) H' ∧ H' e = (upd (upd H2 b (.lst [])) L (.lst [])) e ∧ (∀ R ∈ E.take i, ∀ a t, (a, t) ∈ mvs n D R R → mvd R a t ∈ S))
        ⟨_, _, _, _, ks, [], [], rfl, ⟨sL, dnL, edL, ⟨[], upd_same, rfl, fun q hq => nomatch hq⟩, ly.mid, rfl⟩, Tk.refl, rfl, fun R hR => nomatch hR⟩ (fun k σ H' hp => ?_) (fun k a R σ H' hk hPa hp => ?_) (fun σ H' hp => ?_)⟩
      · obtain ⟨_, _, _, _, _, _, _, _, _, t, e', _⟩ := hp
        exact ⟨t, e'⟩
      · obtain ⟨y5, y6, y7, y8, ks', N, S, rfl, rn, t, e', all⟩ := hp
        have fR : Few n D r PP R := (ly.ed R).mp (List.mem_of_getElem? hk)
        have plR := fR.1.pl pl
        have lR : R.length = PP.length := by
          have := congrArg List.length fR.1.names
          simpa using this
        refine ⟨_, rfl, _, rfl, h, a, n, D, R, rfl, hH.same rn.sm, hF, n1, hPa, by omega, fun H3 l3 s3 hl3 ls => ?_⟩
        obtain ⟨xs3, sq3, _⟩ := ls.sq (K := K)
        obtain ⟨ps3, e3, _, _⟩ := id ls
        have nl3L : L ≠ l3 := by
          obtain ⟨xs, hx, _⟩ := rn.nw.lst
          exact ne_of_none hx hl3
        have ndl3 : d ≠ l3 := by
          obtain ⟨xs, hx, _⟩ := rn.dn.ex
          exact ne_of_none hx hl3
        refine ⟨l3, rfl, ⟨xs3, sq3⟩, for_lsT ls (fun i σ H' => ∃ y6 y7 y8 ks' N S', σ = [some (.ref h), some (.ref p), some (.ref d), some (.ref e), some (.ref L), some (.ref a), y6, y7, y8] ∧ Rnd P w n D PP H d e L E r ks.length ks' N S' H' ∧ Tk H3 H' ∧ H' l3 = H3 l3 ∧ H' e = H3 e ∧ (∀ T ∈ S, T ∈ S') ∧ (∀ x ∈ (mvs n D R R).take i, mvd R x.1 x.2 ∈ S'))
          ⟨_, _, _, ks', N, S, rfl, rn.same s3, Tk.refl, rfl, rfl, fun T hT => hT, fun x hx => nomatch hx⟩ (fun k σ H' hp => ?_) (fun k nm t' σ H' hk' hp => ?_) (fun σ H' hp => ?_)⟩
        · obtain ⟨_, _, _, _, _, _, _, _, t1, e1, _⟩ := hp
          exact ⟨t1, e1⟩
        · obtain ⟨y6, y7, y8, ks2, N2, S2, rfl, rn2, t2, el2, ee2, sub, all2⟩ := hp
          have mm : (nm, t') ∈ mvs n D R R := List.mem_of_getElem? hk'
          have hPa2 : PlAt H' a R := hPa.tk ((Tk.of s3).trans t2)
          refine ⟨_, rfl, _, rfl, _, rfl, a, R, nm, t', rfl, hPa2, by omega, fun H4 u s4 hu => ?_⟩
          have rn4 := rn2.same s4
          have t4 := t2.trans (Tk.of s4)
          have hPu := hu.pl
          have el4 : H4 l3 = H3 l3 := by
            rw [s4 _ _ (el2.trans e3), e3]
          obtain ⟨xe, hxe, _⟩ := rn2.ed.lst
          have ee4 : H4 e = H3 e := by
            rw [← ee2, s4 _ _ hxe, hxe]
          have key : (∃ p ∈ ks2, p.1 = mvd R nm t') ↔ mvd R nm t' ∈ ks2.map (·.1) := by rw [List.mem_map]
          have stp : ∀ S' : List (List (Str × Int)), (∀ T ∈ S2, T ∈ S') → mvd R nm t' ∈ S' → (∀ T ∈ S, T ∈ S') ∧ ∀ x ∈ (mvs n D R R).take (k + 1), mvd R x.1 x.2 ∈ S' := fun S' i1 i2 => ⟨fun T hT => i1 T (sub T hT), fun x hx => by
            rw [take_snoc hk'] at hx
            rcases List.mem_append.mp hx with hx | hx
            · exact i1 _ (all2 x hx)
            · rw [List.mem_singleton.mp hx]; exact i2⟩
          refine ⟨_, rfl, _, rfl, u, d, _, ks2, rfl, rfl, hPu, rn4.dn, _, rfl, ?_⟩
          refine ite2 (fun c => ?_) (fun c => ?_)
          · have no : ¬ ∃ p ∈ ks2, p.1 = mvd R nm t' := by simpa using c
            obtain ⟨⟨R0, v0⟩, m0, rfl⟩ := List.mem_map.mp (rn2.md.ol R r (Nat.le_refl _) fR)
            obtain ⟨j0, ev, f0⟩ := rn2.md.vl _ m0
            obtain rfl := few_one f0 fR
            dsimp only at ev
            subst ev
            have z2 : ks2.length ≤ n.toNat ^ PP.length := rn2.md.small pl
            have md5 := rn2.md.add fR mm (fun m => no (key.mpr m))
            have z5 := md5.small pl
            refine ⟨_, rfl, _, rfl, d, a, _, _, ks2, rfl, rfl, hPa2.tk (Tk.of s4), rn4.dn, m0, _, _, rfl, rfl, _, rfl, _, rfl, d, u, _, ks2, rfl, rfl, hPu, rn4.dn, fun p hp e => no ⟨p, hp, e⟩, Nat.lt_of_le_of_lt z2 lN, fun H5 e5 dn5 => ?_⟩
            obtain ⟨xd, hd4, _⟩ := rn4.dn.ex
            obtain ⟨xs5, rfl⟩ := e5
            have t5 := t4.putE (o := DnO P w d xs5) hd4
            have t45 : Tk H4 (upd H4 d (DnO P w d xs5)) := Tk.refl.putE hd4
            have nw5 : EdAt (upd H4 d (DnO P w d xs5)) L N2 := rn4.nw.tk t45 (upd_ne ndL.symm)
            obtain ⟨acc, ha, la, nw6⟩ := nw5.snoc (hPu.tk t45)
            have t56 : Tk (upd H4 d (DnO P w d xs5)) (upd (upd H4 d (DnO P w d xs5)) L (.lst (acc ++ [.ref u]))) := Tk.refl.put ha
            have lnk := rn2.ln
            refine ⟨_, rfl, .inl ⟨rfl, _, SqL.of ha⟩, _, rfl, L, _, _, rfl, rfl, ha, by rw [la]; exact Nat.lt_of_le_of_lt (by omega) lN, ?_⟩
            refine ⟨_, _, _, _, _, _, rfl, ⟨same_put (same_put (rn4.sm) hd) fL, dn5.tk t56 (upd_ne ndL), (rn4.ed.tk t45 (upd_ne nde.symm)).tk t56 (upd_ne neL), nw6, ?_, ?_⟩, t5.trans t56, ?_, ?_, stp _ (fun T hT => List.mem_append_left _ hT) (List.mem_append_right _ (List.mem_singleton.mpr rfl))⟩
            · exact md5
            · rw [List.length_append, List.length_append, lnk]
              rfl
            · rw [upd_ne nl3L.symm, upd_ne ndl3.symm, el4]
            · rw [upd_ne neL, upd_ne nde.symm, ee4]
          · have yes : ∃ p ∈ ks2, p.1 = mvd R nm t' := by simpa using c
            exact ⟨_, _, _, ks2, N2, S2 ++ [mvd R nm t'], rfl, ⟨rn4.sm, rn4.dn, rn4.ed, rn4.nw, rn2.md.skip (key.mp yes), rn2.ln⟩, t4, el4, ee4, stp _ (fun T hT => List.mem_append_left _ hT) (List.mem_append_right _ (List.mem_singleton.mpr rfl))⟩
        · obtain ⟨y6, y7, y8, ks2, N2, S2, rfl, rn2, t2, el2, ee2, sub, all2⟩ := hp
          obtain ⟨xe, hxe, _⟩ := rn.ed.lst
          refine ⟨_, _, _, _, ks2, N2, S2, rfl, rn2, (t.trans (Tk.of s3)).trans t2, ?_, fun R' hR' a' t' m' => ?_⟩
          · rw [ee2, s3 _ _ hxe, ← hxe, e']
          · rw [take_snoc hk] at hR'
            rcases List.mem_append.mp hR' with hR' | hR'
            · exact sub _ (all R' hR' a' t' m')
            · rw [List.mem_singleton.mp hR'] at m' ⊢
              rw [List.take_length] at all2
              exact all2 _ m'
      · obtain ⟨y5, y6, y7, y8, ks', N, S, rfl, rn, t, e', all⟩ := hp
        rw [List.take_length] at all
        refine ⟨_, rfl, ?_⟩
        have ly' := rn.md.lay fun Q a t' fQ m => all Q ((ly.ed Q).mpr fQ) a t' m
        have z' := rn.md.small pl
        have lnk := rn.ln
        refine ⟨_, ?_, L, _, _, _, _, _, r + 1, ks', N, rfl, rn.sm, fL, rn.dn, rn.nw, ly', rfl⟩
        by_cases cN : N = []
        · rw [if_pos cN]
          omega
        · rw [if_neg cN]
          have := List.length_pos_iff.mpr cN
          omega
end
end Fw
set_option maxHeartbeats 2000000
namespace Fw
open PySem PySem.Spec PyProof.Rows L2
/-! a walk over the keys of a dict keyed by placements -/
section
variable {X : Cx} {pins : List (Addr × Obj)} {σ : L2.St} {H : Hp} {s : Shared} {d it : Addr} {o : Obj} {xs : List (NestedKey × Addr × Value)}
/-- what is there of it while it is locked -/
theorem dn_locked (I : Inv X pins σ H s) (h : H d = some (.frz o (DnO X.prog X.w d xs))) : s.heap.get? d = some o ∧ o.ExactDict ∧ ∃ es ep, o.data = .dict es ep ∧ es.size = xs.length ∧ ∀ (i : Nat) (lt : i < xs.length), ∃ en, es[i]? = some en ∧ en.key = .ref xs[i].2.1 := by
  have ok := I.hok d _ h
  obtain ⟨there, ⟨⟨o', es, ep, same, exact', data, ent, _⟩, _⟩⟩ := ok
  obtain rfl : o' = o := Option.some.inj (same.symm.trans there)
  refine ⟨there, exact', es, ep, data, size_of_entries ent, fun i lt => ?_⟩
  have q := entry_at ent i
  rw [List.getElem?_eq_getElem lt] at q
  exact ⟨_, q, rfl⟩
/-- the iterator itself has moved on -/
theorem it_moved {h' : Heap} (I : Inv X pins σ H s) (f : FpOk X pins H it) (k : ∀ b, b ≠ it → ∀ ob, s.heap.get? b = some ob → h'.get? b = some ob) : Inv X pins σ H { s with heap := h' } :=
  I.turned (t' := s.toks) (fun b ob n e => k b n ob e) f.1 f.2.1 f.2.2.2.1 f.2.2.2.2.1 f.2.2.2.2.2
end
/-- the keys, each its own tuple, while the dict is locked -/
def Itn (P : Program) (w : World) (d : Addr) (o : Obj) (xs : List (NestedKey × Addr × Value)) : It where
  go i H := i < xs.length ∧ H d = some (.frz o (DnO P w d xs))
  yld i H x H' := H' = H ∧ ∃ lt : i < xs.length, x = .ref xs[i].2.1
  stop i H := xs.length ≤ i ∧ H d = some (.frz o (DnO P w d xs))
theorem turn_dn {P : Program} {w : World} {K : PySem.W.Frag} {tg : Expr} {d : Addr} {o : Obj} {es : Array DictEntry} {ep : Nat} {xs : List (NestedKey × Addr × Value)} (it : Addr) (data : o.data = .dict es ep) :
    Turn P w K tg (Itn P w d o xs) [it] it (fun i h => h.IsKeyIter it d i xs.length ep) := by
  have self : it ∈ [it] := List.mem_singleton.mpr rfl
  refine ⟨self, fun i h st b hb => ?_, fun i h h' st k => st.at fun u e => k it self u e, ?_, ?_, fun A i s Q E st h => wpAny_pyIter_keyiter st h⟩
  · cases List.mem_singleton.mp hb
    obtain ⟨u, e, _, dd⟩ := st
    refine ⟨u, e, fun v z => ?_⟩
    rw [z] at dd
    cases dd
  · rintro X rfl rfl rfl calm i pins s σ H E I fp st ⟨lt, lk⟩
    obtain ⟨there, _, es', ep', data', size, ent⟩ := dn_locked I lk
    obtain ⟨rfl, rfl⟩ := dict_ep data data'
    obtain ⟨en, at', key⟩ := ent i lt
    refine next_key_item st there data' size at' fun h' st' but => ?_
    have J := it_moved I (fp it self) fun b n ob e => (but.2 b n).trans e
    obtain ⟨u, e, c, dd⟩ := id st'
    refine ⟨_, rfl, go_of (s := { s with heap := h' }) e c dd (by decide) ⟨.ref xs[i].2.1, H, J, key, ⟨rfl, lt, rfl⟩, st', fun b hb => ?_⟩⟩
    exact (fp b hb).1
  · rintro X rfl rfl rfl calm i pins s σ H E I fp st ⟨ge, lk⟩
    obtain ⟨there, _, es', ep', data', size, _⟩ := dn_locked I lk
    obtain ⟨rfl, rfl⟩ := dict_ep data data'
    refine next_key_end (I.ok.hd calm) st there data' size ge fun h' but => ⟨rfl, ?_⟩
    exact it_moved I (fp it self) fun b n ob e => but b ob n e
section
variable {X : Cx}
/-- the walk locks the dict for good -/
def iDnL (P : Program) (w : World) (td : TE) : TI := fun σ H R => td σ H fun x H1 => ∃ d xs, x = .ref d ∧ d ≠ sysModules ∧ H1 d = some (DnO P w d xs) ∧ ∀ o, R (Itn P w d o xs) (upd H1 d (.frz o (DnO P w d xs)))
theorem pi_dnL {tg e : Expr} {td : TE} (he : PE X e td) : PI X tg e (iDnL X.prog X.w td) := by
  refine ⟨fun pins s σ H R I h => thn (he.run pins s σ H _ I h) fun u s1 a => ?_⟩
  obtain ⟨x, H1, I1, rx, d, xs, rfl, no, hd, q⟩ := a
  cases (show u = Value.ref d from rx)
  obtain ⟨o, I2⟩ := I1.lock hd True.intro
  obtain ⟨there, ex, es, ep, data, size, _⟩ := dn_locked I2 upd_same
  refine iter_keys (by simpa using no) there ex data (pi_one (tk := s1.toks) I2 _ (turn_dn _ data) ⟨_, Heap.get?_push_size _ rfl, rfl, ?_⟩ (q o))
  rw [size] <;> rfl
/-- the walk over a dict that is locked -/
def iDnF (P : Program) (w : World) (td : TE) : TI := fun σ H R => td σ H fun x H1 => ∃ d o xs, x = .ref d ∧ d ≠ sysModules ∧ H1 d = some (.frz o (DnO P w d xs)) ∧ R (Itn P w d o xs) H1
theorem pi_dnF {tg e : Expr} {td : TE} (he : PE X e td) : PI X tg e (iDnF X.prog X.w td) := by
  refine ⟨fun pins s σ H R I h => thn (he.run pins s σ H _ I h) fun u s1 a => ?_⟩
  obtain ⟨x, H1, I1, rx, d, o, xs, rfl, no, hd, q⟩ := a
  cases (show u = Value.ref d from rx)
  obtain ⟨there, ex, es, ep, data, size, _⟩ := dn_locked I1 hd
  refine iter_keys (by simpa using no) there ex data (pi_one (tk := s1.toks) I1 _ (turn_dn _ data) ⟨_, Heap.get?_push_size _ rfl, rfl, ?_⟩ q)
  rw [size] <;> rfl
end
theorem paired_at {α β : Type} {F : α → β → Prop} : ∀ {xs : List α} {ys : List β}, Paired F xs ys → xs.length = ys.length ∧ ∀ (i : Nat) (lt : i < ys.length) (lt' : i < xs.length), F xs[i] ys[i]
  | _, _, .nil => ⟨rfl, fun i lt => nomatch lt⟩
  | _, _, .cons h r => by
    obtain ⟨l, a⟩ := paired_at r
    refine ⟨congrArg (· + 1) l, fun i lt lt' => ?_⟩
    cases i with
    | zero => exact h
    | succ i => exact a i (Nat.lt_of_succ_lt_succ lt) (Nat.lt_of_succ_lt_succ lt')
/-- any walk over the keys, from promise to promise -/
theorem walk_dn {P : Program} {w : World} {d : Addr} {o : Obj} {xs : List (NestedKey × Addr × Value)} {ks : List (List (Str × Int) × V)} {H0 G0 : Hp} {Qd : Hp → Prop} {each : (Hp → Prop) → V → Hp → Prop} (pr : Paired (DnE H0) ks xs) (Pv : Nat → Hp → Prop) (start : Pv 0 G0)
    (sees : ∀ i G, Pv i G → Tk H0 G ∧ G d = some (.frz o (DnO P w d xs))) (does : ∀ i b R v G, ks[i]? = some (R, v) → PlAt G b R → Pv i G → each (Pv (i + 1)) (.ref b) G) (ends : ∀ G, Pv ks.length G → Qd G) :
    ∃ W : Nat → Nat → Hp → Prop, (∃ m, W 0 m G0) ∧ ∀ i m G, W i m G → ((Itn P w d o xs).stop i G ∧ Qd G) ∨ ((Itn P w d o xs).go i G ∧ ∃ N : Hp → Prop, (∀ G', N G' → ∃ m', m' < m ∧ W (i + 1) m' G') ∧ ∀ x G', (Itn P w d o xs).yld i G x G' → each N x G') := by
  obtain ⟨ln, at'⟩ := paired_at pr
  refine ⟨fun i m J => m + i = xs.length ∧ Pv i J, ⟨xs.length, rfl, start⟩, ?_⟩
  rintro i m J ⟨e, p⟩
  obtain ⟨t, lk⟩ := sees i J p
  cases m with
  | zero =>
    have e : i = xs.length := by omega
    subst e
    exact .inl ⟨⟨Nat.le_refl _, lk⟩, ends J (by rw [ln]; exact p)⟩
  | succ m =>
    have lt : i < xs.length := by omega
    refine .inr ⟨⟨lt, lk⟩, Pv (i + 1), fun J' p' => ⟨m, Nat.lt_succ_self _, by omega, p'⟩, ?_⟩
    rintro x J' ⟨rfl, _, rfl⟩
    have lt' : i < ks.length := by omega
    exact does i _ ks[i].1 ks[i].2 _ (List.getElem?_eq_getElem lt') ((at' i lt lt').2.1.tk t) p
theorem for_dn {P : Program} {w : World} {d : Addr} {o : Obj} {xs : List (NestedKey × Addr × Value)} {ks : List (List (Str × Int) × V)} {H0 : Hp} {i : Nat} {tb : TS} {D : Ends} {σ : L2.St} {H : Hp} (pr : Paired (DnE H0) ks xs) (Pv : Nat → L2.St → Hp → Prop) (start : Pv 0 σ H)
    (sees : ∀ k σ G, Pv k σ G → Tk H0 G ∧ G d = some (.frz o (DnO P w d xs))) (does : ∀ k b R v σ G, ks[k]? = some (R, v) → PlAt G b R → Pv k σ G → tb { D with nx := Pv (k + 1), ct := Pv (k + 1), bk := D.nx } (σ.set i (some (.ref b))) G) (ends : ∀ σ G, Pv ks.length σ G → D.nx σ G) :
    ∃ W : Nat → Nat → L2.St → Hp → Prop, (∃ m, W 0 m σ H) ∧ ∀ k m σ H, W k m σ H →
      ((Itn P w d o xs).stop k H ∧ D.nx σ H) ∨ ((Itn P w d o xs).go k H ∧ ∃ N : L2.St → Hp → Prop, (∀ σ' H', N σ' H' → ∃ m', m' < m ∧ W (k + 1) m' σ' H') ∧ ∀ x H', (Itn P w d o xs).yld k H x H' → gName i x σ H' fun σ2 H2 => tb { D with nx := N, ct := N, bk := D.nx } σ2 H2) := by
  obtain ⟨ln, at'⟩ := paired_at pr
  refine ⟨fun k m σ J => m + k = xs.length ∧ Pv k σ J, ⟨xs.length, rfl, start⟩, ?_⟩
  rintro k m σ J ⟨e, p⟩
  obtain ⟨t, lk⟩ := sees k σ J p
  cases m with
  | zero =>
    have e : k = xs.length := by omega
    subst e
    exact .inl ⟨⟨Nat.le_refl _, lk⟩, ends σ J (by rw [ln]; exact p)⟩
  | succ m =>
    have lt : k < xs.length := by omega
    refine .inr ⟨⟨lt, lk⟩, Pv (k + 1), fun σ' J' p' => ⟨m, Nat.lt_succ_self _, by omega, p'⟩, ?_⟩
    rintro x J' ⟨rfl, _, rfl⟩
    have lt' : k < ks.length := by omega
    exact does k _ ks[k].1 ks[k].2 σ _ (List.getElem?_eq_getElem lt') ((at' k lt lt').2.1.tk t) p
end Fw
set_option maxHeartbeats 2000000
namespace Fw
open PySem PySem.Spec PyProof.Rows L2
/-! more of dicts keyed by placements: unlocking, get, put -/
/-- behind a statement that locks an object it may be unlocked -/
def tUnl (X : Cx) (t : TS) : TS := fun D σ H => ∃ d, (∀ o' u', X.H_0 d ≠ some (.frz o' u')) ∧ t { D with nx := fun σ' H' => ∃ od u, H' d = some (.frz od u) ∧ D.nx σ' (upd H' d u) } σ H
theorem ps_unl {X : Cx} {st : Stmt} {t : TS} (h : PS X st t) : PS X st (tUnl X t) := by
  refine ⟨fun pins s σ H D I ⟨d, hn, q⟩ => wpAny_mono (h.run pins s σ H _ I q) (fun fl z out => ?_) fun _ _ no => no⟩
  match fl, out with
  | .next, ⟨σ', H', J, od, u, e, w⟩ => exact ⟨σ', upd H' d u, J.unlock e hn, w⟩
  | .brk, out => exact out
  | .cont, out => exact out
  | .ret _, out => exact out
/-- the entries after d[R] = v -/
def putP (ks : List (List (Str × Int) × V)) (R : List (Str × Int)) (v : V) : List (List (Str × Int) × V) := if R ∈ ks.map (·.1) then ks.map fun p => if p.1 = R then (R, v) else p else ks ++ [(R, v)]
theorem putP_mem {ks : List (List (Str × Int) × V)} {R : List (Str × Int)} {v : V} {p : List (Str × Int) × V} : p ∈ putP ks R v ↔ p = (R, v) ∨ (p ∈ ks ∧ p.1 ≠ R) := by
  unfold putP
  split
  · rename_i h
    rw [List.mem_map]
    constructor
    · rintro ⟨y, hy, rfl⟩
      split
      · exact .inl rfl
      · rename_i ne
        exact .inr ⟨hy, ne⟩
    · rintro (rfl | ⟨h1, h2⟩)
      · obtain ⟨y, hy, e⟩ := List.mem_map.mp h
        exact ⟨y, hy, if_pos e⟩
      · exact ⟨p, h1, if_neg h2⟩
  · rename_i h
    rw [List.mem_append, List.mem_singleton]
    constructor
    · rintro (h1 | h1)
      · exact .inr ⟨h1, fun e => h (e ▸ List.mem_map_of_mem (f := (·.1)) h1)⟩
      · exact .inl h1
    · rintro (h1 | ⟨h1, _⟩)
      · exact .inr h1
      · exact .inl h1
theorem putP_nodup {ks : List (List (Str × Int) × V)} {R : List (Str × Int)} {v : V} (nd : (ks.map (·.1)).Nodup) : ((putP ks R v).map (·.1)).Nodup := by
  unfold putP
  split
  · have e : ((ks.map fun p => if p.1 = R then (R, v) else p).map (·.1)) = ks.map (·.1) := by
      rw [List.map_map]
      refine List.map_congr_left fun p _ => ?_
      show (if p.1 = R then (R, v) else p).1 = p.1
      split
      · rename_i h; exact h.symm
      · rfl
    rw [e]
    exact nd
  · rename_i h
    rw [List.map_append, List.nodup_append]
    refine ⟨nd, by simp, fun a ha b hb e => h ?_⟩
    rw [List.map_singleton] at hb
    have hb : b = R := List.mem_singleton.mp hb
    rw [← hb, ← e]
    exact ha
theorem putP_len (ks : List (List (Str × Int) × V)) (R : List (Str × Int)) (v : V) : (putP ks R v).length ≤ ks.length + 1 := by
  unfold putP
  split
  · rw [List.length_map]; omega
  · rw [List.length_append]; exact Nat.le_refl _
theorem paired_put {H G : Hp} {P : List (Str × Int)} {v : V} {u : Value} (t : Tk H G) (rv : RelV v u) {ks : List (List (Str × Int) × V)} {xs : List (NestedKey × Addr × Value)} (pr : Paired (DnE H) ks xs) : Paired (DnE G) (ks.map fun p => if p.1 = P then (P, v) else p) (xs.map (putAt (pk P) u)) := by
  induction pr with
  | nil => exact .nil
  | @cons p q ps qs hpq _ ih =>
    refine .cons ?_ ih
    show DnE G (if p.1 = P then (P, v) else p) (if q.1 = pk P then (q.1, q.2.1, u) else q)
    by_cases ep : p.1 = P
    · rw [if_pos ep, if_pos (by rw [← hpq.1, ep])]
      exact ⟨by rw [← ep]; exact hpq.1, by rw [← ep]; exact hpq.2.1.tk t, rv⟩
    · rw [if_neg ep, if_neg fun z => ep (pk_inj (hpq.1.trans z))]
      exact ⟨hpq.1, hpq.2.1.tk t, hpq.2.2⟩
section
variable {X : Cx} {pins : List (Addr × Obj)} {σ : L2.St} {H : Hp} {s : Shared}
/-- d[p] = v -/
theorem setItem_pkA (hu : X.A.units + 64 < cLine) {d b : Addr} {P : List (Str × Int)} {v : V} {u : Value} {ks : List (List (Str × Int) × V)} {Q : Unit → Shared → Prop} {E : Value → Shared → Prop} (I : Inv X pins σ H s) (hp : PlAt H b P) (hd : DnAt X.prog X.w H d ks) (z : ks.length < sizeLine) (rv : RelV v u)
    (h : ∀ H' s', Inv X pins σ H' s' → (∃ xs, H' = upd H d (DnO X.prog X.w d xs)) → DnAt X.prog X.w H' d (putP ks P v) → Q () s') : wpAny (model X.prog X.w) X.A (setItem (.ref d) (.ref b) u) Q E s := by
  by_cases nw : P ∈ ks.map (·.1)
  case neg =>
    refine setItem_pk hu I hp hd (fun p hp' e => nw (e ▸ List.mem_map_of_mem (f := (·.1)) hp')) z rv fun H' s' I' e d' => h H' s' I' e ?_
    unfold putP
    rwa [if_neg nw]
  obtain ⟨xs, e, pr, hm⟩ := hd.keyed I
  have lx : xs.length = ks.length := by
    have := congrArg List.length (keys_pk pr)
    rw [List.length_map, List.length_map, pairsH_length] at this
    exact this
  obtain ⟨y, hy⟩ : ∃ y, atKey xs (pk P) = some y := by
    cases k : atKey xs (pk P) with
    | some y => exact ⟨y, rfl⟩
    | none =>
      have : (valueAt (pairsH xs) (pk P)).isSome = true := by
        rw [valueAt_isSome, keys_pk pr]
        obtain ⟨p, m, q⟩ := List.mem_map.mp nw
        exact List.mem_map.mpr ⟨p, m, by rw [q]⟩
      rw [valueAt_pairsH, k] at this
      cases this
  refine wpAny_setItem_heap (knd := nestedKind X.prog X.w) (A := X.A) (hsz := by rw [lx]; exact hd.z) (by show X.A.units + 1 + 8 < cLine; omega) (nested_pl I hp) hm fun h' hm' hs => ?_
  rw [storedH_old hy] at hm'
  obtain ⟨o, es, ep, ho, he, hdt, hl, hk, hn⟩ := hm'
  have new : ObjOk X.prog X.w (upd H d (DnO X.prog X.w d (xs.map (putAt (pk P) u)))) h' d (DnO X.prog X.w d (xs.map (putAt (pk P) u))) :=
    ⟨⟨o, es, ep, ho, he, hdt, hl, hn⟩, ⟨o, ho⟩, fun h1 h2 ⟨o, es, ep, ho, r⟩ k => ⟨o, es, ep, k o ho, r⟩⟩
  have t : Tk H (upd H d (DnO X.prog X.w d (xs.map (putAt (pk P) u)))) := Tk.refl.putE e
  refine h _ _ (d_write I (by rw [e]; exact True.intro) hs ⟨o, ho⟩ new) ⟨_, rfl⟩ ⟨⟨_, upd_same, ?_⟩, hd.no, ?_⟩
  · unfold putP
    rw [if_pos nw]
    exact paired_put t rv pr
  · have := putP_len ks P v
    omega
def sPPutA (P : Program) (w : World) (td ty tv : TE) : TS := fun D σ H => tv σ H fun v H1 => td σ H1 fun x H2 => ty σ H2 fun y H3 => ∃ (d b : Addr) (R : List (Str × Int)) (ks : List (List (Str × Int) × V)), x = .ref d ∧ y = .ref b ∧ PlAt H3 b R ∧ DnAt P w H3 d ks ∧ ks.length < sizeLine ∧
  ∀ H4, (∃ xs, H4 = upd H3 d (DnO P w d xs)) → DnAt P w H4 d (putP ks R v) → D.nx σ H4
theorem ps_pputA (hu : X.A.units + 64 < cLine) {o i value : Expr} {pos pos' : Pos} {td ty tv : TE} (ho : PE X o td) (hi : PE X i ty) (hv : PE X value tv) (hs : swapsWith value (some (.Subscript o i pos')) pos.line X.env = pure false) :
    PS X (.Assign [.Subscript o i pos'] value pos) (sPPutA X.prog X.w td ty tv) := by
  refine ⟨fun pn z σ H D I h => wpAny_Assign_Subscript (thn (hv.run pn z σ H _ I h) fun r z1 a1 => ?_) hs⟩
  obtain ⟨v, H1, I1, rv, q1⟩ := a1
  refine thn (ho.run pn z1 σ H1 _ I1 q1) fun u z2 a2 => ?_
  obtain ⟨x, H2, I2, rx, q2⟩ := a2
  refine thn (hi.run pn z2 σ H2 _ I2 q2) fun iv z3 a3 => ?_
  obtain ⟨y, H3, I3, ry, d, b, R, ks, rfl, rfl, hp, hd, zz, q⟩ := a3
  cases (show u = Value.ref d from rx)
  cases (show iv = Value.ref b from ry)
  exact setItem_pkA hu I3 hp hd zz rv fun H4 z4 I4 e d4 => ⟨σ, H4, I4, q H4 e d4⟩
/-- d.get(p, x) -/
def rDGetP (P : Program) (w : World) : V → List V → Hp → VK → Prop := fun x xs H Q => ∃ (d b : Addr) (R : List (Str × Int)) (dv : V) (ks : List (List (Str × Int) × V)), x = .ref d ∧ xs = [.ref b, dv] ∧ PlAt H b R ∧ DnAt P w H d ks ∧ ((∃ v, (R, v) ∈ ks ∧ Q v H) ∨ (R ∉ ks.map (·.1) ∧ Q dv H))
theorem mt_dgetP (hu : X.A.units + 64 < cLine) : MtR X "dict.get" (rDGetP X.prog X.w) := by
  rintro pins s σ H x xs v us Q I rx rs ⟨d, b, R, dv, ks, rfl, rfl, hp, hd, q⟩
  obtain ⟨u1, u2, rfl, r1, r2⟩ := vals2 rs
  cases (show v = Value.ref d from rx)
  cases (show u1 = Value.ref b from r1)
  obtain ⟨ys, e, pr, hm⟩ := hd.keyed I
  refine getOr_keyed (knd := nestedKind X.prog X.w) (A := X.A) (by show X.A.units + 1 + 8 < cLine; omega) (nested_pl I hp) (by simpa using hd.no) ⟨ys, hm, rfl⟩ ?_
  rcases q with ⟨v, m, q⟩ | ⟨no, q⟩
  · obtain ⟨u, hu', r⟩ := value_pk pr m
    have nd : ((pairsH ys).map (·.1)).Nodup := Heap.DictKeyed.nodup ⟨ys, hm, rfl⟩
    rw [valueAt_of_mem nd hu']
    exact ⟨v, H, I.tok _, r, q⟩
  · have : valueAt (pairsH ys) (pk R) = none := by
      cases k : valueAt (pairsH ys) (pk R) with
      | none => rfl
      | some y =>
        have h : (valueAt (pairsH ys) (pk R)).isSome = true := by rw [k]; rfl
        rw [valueAt_isSome, keys_pk pr] at h
        obtain ⟨p, m, e⟩ := List.mem_map.mp h
        exact absurd (List.mem_map.mpr ⟨p, m, pk_inj e⟩) no
    rw [this]
    exact ⟨dv, H, I.tok _, r2, q⟩
def tDGetP (P : Program) (w : World) (td ty tx : TE) : TE := fun σ H Q => td σ H fun x H1 => ∃ d ks, x = .ref d ∧ DnAt P w H1 d ks ∧ ty σ H1 fun y H2 => tx σ H2 fun z H3 => rDGetP P w (.ref d) [y, z] H3 Q
theorem pe_dgetP (hu : X.A.units + 64 < cLine) {o e f : Expr} {apos cpos : Pos} {td ty tx : TE} (ho : PE X o td) (he : PE X e ty) (hf : PE X f tx) (m : M2 X o "get" apos e f cpos) : PE X (.Call (.Attribute o "get" apos) [e, f] [] cpos) (tDGetP X.prog X.w td ty tx) := by
  constructor
  intro pn z σ H Q I h
  have first := ho.run pn z σ H _ I h
  refine wpAny_Call_method m.base m.few m.line PySem.F.plainAttrs_dict PySem.F.slot_dict_get PySem.F.type_dict_get (thn first ?_)
  rintro u z1 ⟨x, H1, I1, rx, d, ks, rfl, hd, q1⟩
  have eu : u = Value.ref d := rx
  rw [eu]
  obtain ⟨_, _, _, hm⟩ := hd.keyed I1
  obtain ⟨ob, _, _, hob, hex, _⟩ := id hm
  have lone : ∀ a, Value.ref d = Value.ref a → ∃ ob, z1.heap.get? a = some ob ∧ ob.dict = none := fun a ea => by
    cases ea
    exact ⟨ob, hob, hex.2.1⟩
  refine ⟨hm.typeIs, lone, ?_⟩
  rw [m.trees]
  have both : ∀ {iv fv : Value} {z3 : Shared} {y w : V} {H3 : Hp}, Inv X pn σ H3 z3 → RelV y iv → RelV w fv → rDGetP X.prog X.w (.ref d) [y, w] H3 Q → wpAny (model X.prog X.w) X.A (call (.builtin "dict.get") [.ref d, iv, fv]) (EP X pn σ Q) X.xe z3 := fun {iv fv z3 y w H3} I3 ry rw q => mt_dgetP hu pn z3 σ H3 (.ref d) [y, w] (.ref d) [iv, fv] Q I3 rfl (.cons ry (.cons rw .nil)) q
  refine Calls.callWith_builtin rfl (Calls.evalArgs_plain (Calls.spliced_cons (thn (he.run pn z1 σ H1 _ I1 q1) ?_)))
  rintro iv z2 ⟨y, H2, I2, ry, q2⟩
  refine Calls.spliced_cons (thn (hf.run pn z2 σ H2 _ I2 q2) ?_)
  rintro fv z3 ⟨w, H3, I3, rw, q3⟩
  exact Calls.spliced_nil (both I3 ry rw q3)
/-- {} -/
theorem pe_dnewP0 {pos : Pos} : PE X (.Dict [] [] pos) (fun _ H Q => ∀ d, H d = none → ∀ H', (∃ xs, H' = upd H d (DnO X.prog X.w d xs)) → DnAt X.prog X.w H' d [] → Q (.ref d) H') := by
  refine ⟨fun pn z σ H Q I h => ?_⟩
  refine thn ((pe_dnewK (X := X) (pos := pos)).run pn z σ H (fun v H' => ∃ d, v = .ref d ∧ H d = none ∧ H' = upd H d (.dK [])) I fun d hd => ⟨d, rfl, hd, rfl⟩) fun u s1 a1 => ?_
  obtain ⟨x, H1, I1, rx, d, rfl, hn, rfl⟩ := a1
  cases (show u = Value.ref d from rx)
  obtain ⟨hz, sm, vs, kv, dof⟩ := I1.hok d _ upd_same
  cases kv
  obtain ⟨o, es, ep, ho, he, hd, _, pr, _⟩ := dof
  have e0 : es.toList = [] := by
    revert pr
    generalize es.toList = l
    intro pr
    cases pr
    rfl
  have new : ObjOk X.prog X.w (upd (upd H d (.dK [])) d (DnO X.prog X.w d [])) s1.heap d (DnO X.prog X.w d []) :=
    ⟨⟨o, es, ep, ho, he, hd, e0, List.nodup_nil⟩, ⟨o, ho⟩, fun h1 h2 ⟨o, es, ep, ho, r⟩ k => ⟨o, es, ep, k o ho, r⟩⟩
  have I2 := d_write (t' := s1.toks) I1 (by rw [upd_same]; exact True.intro) ⟨rfl, fun _ _ => rfl⟩ ⟨o, ho⟩ new
  have eH : upd (upd H d (.dK [])) d (DnO X.prog X.w d []) = upd H d (DnO X.prog X.w d []) := by
    funext b
    unfold upd
    split <;> rfl
  rw [eH] at I2
  exact ⟨.ref d, _, I2, rfl, h d hn _ ⟨_, rfl⟩ ⟨⟨_, upd_same, .nil⟩, fun e => by rw [e] at sm; exact absurd sm (by simp), Nat.zero_le _⟩⟩
/-- all but one object stays -/
def Bts (d : Addr) (H H' : Hp) : Prop := ∀ b o, b ≠ d → H b = some o → H' b = some o
theorem Bts.of {d : Addr} {H H' : Hp} (s : Same H H') : Bts d H H' := fun b o _ e => s b o e
theorem Bts.trans {d : Addr} {H H1 H2 : Hp} (a : Bts d H H1) (b : Bts d H1 H2) : Bts d H H2 := fun c o n e => b c o n (a c o n e)
theorem Bts.put {d : Addr} {H H' : Hp} (a : Bts d H H') {o : HO} : Bts d H (upd H' d o) := fun b o n e => (upd_ne n).trans (a b o n e)
end
end Fw
set_option maxHeartbeats 8000000
namespace Fw
open PySem PySem.Spec PyProof.Rows L2
/-! the placements from which one is reached (k56) -/
/-- one move before -/
def Prd (n : Int) (D : List (Int × Int)) (S R : List (Str × Int)) : Prop := ∃ nm r, (nm, r) ∈ mvs n D S S ∧ R = mvd S nm r
/-- lists and tuples stay -/
structure Ltk (H H' : Hp) : Prop where
  t : Tk H H'
  l : ∀ {z xs}, H z = some (.lst xs) → H' z = some (.lst xs)
theorem Ltk.of {H H' : Hp} (s : Same H H') : Ltk H H' := ⟨Tk.of s, fun e => s _ _ e⟩
theorem Ltk.trans {H H1 H2 : Hp} (a : Ltk H H1) (b : Ltk H1 H2) : Ltk H H2 := ⟨a.t.trans b.t, fun e => b.l (a.l e)⟩
theorem Ltk.ext {H : Hp} {d : Addr} {φ : Heap → Prop} {o : HO} (h : H d = some (.ext φ)) : Ltk H (upd H d o) := ⟨Tk.refl.putE h, fun e => (upd_ne (ne_of e h (by intro z; cases z))).trans e⟩
theorem EdAt.ltk {H H' : Hp} {l : Addr} {E : List (List (Str × Int))} (x : EdAt H l E) (k : Ltk H H') : EdAt H' l E := by
  obtain ⟨es, h1, h2, h3⟩ := x
  exact ⟨es, k.l h1, h2, fun q hq => (h3 q hq).tk k.t⟩
/-- for each placement the list of those one move before it, so far -/
structure Ind (H : Hp) (kis : List (List (Str × Int) × V)) (c : Nat) (Dn : List (Str × Int) → List (Str × Int) → Prop) : Prop where
  v : ∀ p ∈ kis, ∃ z E, p.2 = .ref z ∧ EdAt H z E ∧ E.length ≤ c ∧ ∀ S, S ∈ E ↔ Dn S p.1
  a : ∀ S R, Dn S R → R ∈ kis.map (·.1)
  nd : (kis.map (·.1)).Nodup
theorem Ind.ltk {H H' : Hp} {kis : List (List (Str × Int) × V)} {c : Nat} {Dn : List (Str × Int) → List (Str × Int) → Prop} (x : Ind H kis c Dn) (k : Ltk H H') : Ind H' kis c Dn := ⟨fun p hp => by
  obtain ⟨z, E, h1, h2, h3, h4⟩ := x.v p hp
  exact ⟨z, E, h1, h2.ltk k, h3, h4⟩, x.a, x.nd⟩
theorem Ind.put {H : Hp} {kis : List (List (Str × Int) × V)} {c : Nat} {Dn : List (Str × Int) → List (Str × Int) → Prop} (x : Ind H kis c Dn) {S R : List (Str × Int)} {z : Addr} {E : List (List (Str × Int))} (hE : EdAt H z (E ++ [S])) (lE : E.length ≤ c) (iff : ∀ S', S' ∈ E ↔ Dn S' R) : Ind H (putP kis R (.ref z)) (c + 1) (fun S' R' => Dn S' R' ∨ (S' = S ∧ R' = R)) := by
  refine ⟨fun p hp => ?_, fun S' R' h => ?_, putP_nodup x.nd⟩
  · rcases putP_mem.mp hp with rfl | ⟨h1, h2⟩
    · refine ⟨z, E ++ [S], rfl, hE, by rw [List.length_append]; exact Nat.add_le_add_right lE 1, fun S' => ?_⟩
      rw [List.mem_append, List.mem_singleton, iff]
      exact ⟨fun h => h.imp id fun e => ⟨e, rfl⟩, fun h => h.imp id fun e => e.1⟩
    · obtain ⟨z', E', e1, e2, e3, e4⟩ := x.v p h1
      refine ⟨z', E', e1, e2, by omega, fun S' => ?_⟩
      rw [e4]
      exact ⟨.inl, fun h => h.resolve_right fun e => h2 e.2⟩
  · rcases h with h | ⟨_, rfl⟩
    · by_cases e : R' = R
      · exact List.mem_map.mpr ⟨(R, .ref z), putP_mem.mpr (.inl rfl), e.symm⟩
      · obtain ⟨p, hp, ep⟩ := List.mem_map.mp (x.a S' R' h)
        exact List.mem_map.mpr ⟨p, putP_mem.mpr (.inr ⟨hp, fun q => e (ep.symm.trans q)⟩), ep⟩
    · exact List.mem_map.mpr ⟨(R', .ref z), putP_mem.mpr (.inl rfl), rfl⟩
theorem prd_rb {n : Int} {D : List (Int × Int)} {S R Q : List (Str × Int)} {k : Nat} (p : Prd n D S R) (h : Rb n D k Q S) : Rb n D (k + 1) Q R := by
  obtain ⟨a, r, m, rfl⟩ := p
  exact .step h m
theorem snocA {α : Type} (xs : List α) : xs = [] ∨ ∃ ys y, xs = ys ++ [y] := by
  cases h : xs.reverse with
  | nil => exact .inl (List.reverse_eq_nil_iff.mp h)
  | cons y ys =>
    refine .inr ⟨ys.reverse, y, ?_⟩
    have := congrArg List.reverse h
    rwa [List.reverse_reverse, List.reverse_cons] at this
/-- the first walk: all objects but the known dict stay -/
structure Bk1 (Pg : Program) (w : World) (H : Hp) (kd d : Addr) (o : Obj) (xs : List (NestedKey × Addr × Value)) (n : Int) (D : List (Int × Int)) (ks kis : List (List (Str × Int) × V)) (c : Nat) (Dn : List (Str × Int) → List (Str × Int) → Prop) (G : Hp) : Prop where
  bt : Bts kd H G
  lk : G kd = some (.frz o (DnO Pg w kd xs))
  dn : DnAt Pg w G d kis
  id : Ind G kis c Dn
  kn : ∀ S R, Dn S R → S ∈ ks.map (·.1) ∧ Prd n D S R
  ky : ∀ R ∈ kis.map (·.1), ∃ S, Dn S R
section
variable {Pg : Program} {w : World} {H G G' : Hp} {kd d : Addr} {o : Obj} {xs : List (NestedKey × Addr × Value)} {n : Int} {D : List (Int × Int)} {ks kis : List (List (Str × Int) × V)} {c : Nat} {Dn : List (Str × Int) → List (Str × Int) → Prop}
theorem Bk1.same (x : Bk1 Pg w H kd d o xs n D ks kis c Dn G) (s : Same G G') : Bk1 Pg w H kd d o xs n D ks kis c Dn G' :=
  ⟨x.bt.trans (Bts.of s), s _ _ x.lk, x.dn.same s, x.id.ltk (Ltk.of s), x.kn, x.ky⟩
theorem Bk1.le (x : Bk1 Pg w H kd d o xs n D ks kis c Dn G) {c' : Nat} (l : c ≤ c') : Bk1 Pg w H kd d o xs n D ks kis c' Dn G :=
  ⟨x.bt, x.lk, x.dn, ⟨fun p hp => by
    obtain ⟨z, E, h1, h2, h3, h4⟩ := x.id.v p hp
    exact ⟨z, E, h1, h2, Nat.le_trans h3 l, h4⟩, x.id.a, x.id.nd⟩, x.kn, x.ky⟩
theorem Bts.tk {ys : List (NestedKey × Addr × Value)} (x : Bts kd H G) (e : H kd = some (DnO Pg w kd ys)) : Tk H G := ⟨fun h => x _ _ (ne_of h e (by intro z; cases z)) h, fun h => x _ _ (ne_of h e (by intro z; cases z)) h⟩
theorem Bk1.put (x : Bk1 Pg w H kd d o xs n D ks kis c Dn G) (nk : kd ≠ d) (hd : H d = none) {S R : List (Str × Int)} {z : Addr} {E : List (List (Str × Int))} (hS : S ∈ ks.map (·.1)) (hp : Prd n D S R) (hE : EdAt G z (E ++ [S])) (lE : E.length ≤ c) (iff : ∀ S', S' ∈ E ↔ Dn S' R) (e : ∃ ys, G' = upd G d (DnO Pg w d ys)) (dn' : DnAt Pg w G' d (putP kis R (.ref z))) :
    Bk1 Pg w H kd d o xs n D ks (putP kis R (.ref z)) (c + 1) (fun S' R' => Dn S' R' ∨ (S' = S ∧ R' = R)) G' := by
  obtain ⟨ys, rfl⟩ := e
  obtain ⟨zs, ez, _⟩ := x.dn.ex
  have k : Ltk G (upd G d (DnO Pg w d ys)) := Ltk.ext ez
  refine ⟨fun b u nb hb => (upd_ne (fun q => by rw [q, hd] at hb; cases hb)).trans (x.bt b u nb hb), (upd_ne nk).trans x.lk, dn', (x.id.ltk k).put (hE.ltk k) lE iff, fun S' R' h => h.elim (x.kn S' R') (fun q => by rw [q.1, q.2]; exact ⟨hS, hp⟩), fun R' hR' => ?_⟩
  · obtain ⟨q, hq, rfl⟩ := List.mem_map.mp hR'
    rcases putP_mem.mp hq with rfl | ⟨h1, _⟩
    · exact ⟨S, .inr ⟨rfl, rfl⟩⟩
    · obtain ⟨T, hT⟩ := x.ky q.1 (List.mem_map_of_mem (f := (·.1)) h1)
      exact ⟨T, .inl hT⟩
/-- the dict is unlocked behind the walk -/
theorem Bk1.unl (x : Bk1 Pg w H kd d o xs n D ks kis c Dn G) (nk : kd ≠ d) (ek : H kd = some (DnO Pg w kd xs)) : Same H (upd G kd (DnO Pg w kd xs)) ∧ DnAt Pg w (upd G kd (DnO Pg w kd xs)) d kis ∧ Ind (upd G kd (DnO Pg w kd xs)) kis c Dn := by
  have k : Ltk G (upd G kd (DnO Pg w kd xs)) := ⟨⟨fun h => (upd_ne (ne_of h x.lk (by intro z; cases z))).trans h, fun h => (upd_ne (ne_of h x.lk (by intro z; cases z))).trans h⟩, fun h => (upd_ne (ne_of h x.lk (by intro z; cases z))).trans h⟩
  refine ⟨fun b u hb => ?_, x.dn.tk k.t (upd_ne nk.symm), x.id.ltk k⟩
  by_cases e : b = kd
  · rw [e] at hb ⊢
    rw [upd_same, ← hb, ek]
  · rw [upd_ne e]
    exact x.bt b u e hb
/-- what d.get gives there -/
theorem Ind.get (x : Ind G kis c Dn) (R : List (Str × Int)) {z0 : Addr} (h0 : G z0 = some (.lst [])) : ∃ v, ((R, v) ∈ kis ∨ (R ∉ kis.map (·.1) ∧ v = .ref z0)) ∧ ∃ z E, v = .ref z ∧ EdAt G z E ∧ E.length ≤ c ∧ ∀ S, S ∈ E ↔ Dn S R := by
  by_cases h : R ∈ kis.map (·.1)
  · obtain ⟨p, hp, rfl⟩ := List.mem_map.mp h
    obtain ⟨z, E, h1, h2, h3, h4⟩ := x.v p hp
    exact ⟨p.2, .inl hp, z, E, h1, h2, h3, h4⟩
  · exact ⟨_, .inr ⟨h, rfl⟩, z0, [], rfl, ⟨[], h0, rfl, fun q hq => nomatch hq⟩, Nat.zero_le _, fun S => ⟨fun m => (nomatch m), fun m => absurd (x.a S R m) h⟩⟩
theorem get_or {Q : V → Prop} {dv v : V} {R : List (Str × Int)} (h : (R, v) ∈ kis ∨ (R ∉ kis.map (·.1) ∧ v = dv)) (q : Q v) : (∃ v, (R, v) ∈ kis ∧ Q v) ∨ (R ∉ kis.map (·.1) ∧ Q dv) := h.elim (fun m => .inl ⟨v, m, q⟩) fun h => .inr ⟨h.1, h.2 ▸ q⟩
/-- those found so far, and those whose own are still to be asked -/
structure Clo (n : Int) (D : List (Int × Int)) (PP : List (Str × Int)) (ks : List (List (Str × Int) × V)) (Dn : List (Str × Int) → List (Str × Int) → Prop) (fs : List (List (Str × Int) × V)) (F : List (List (Str × Int))) (hole : List (Str × Int) → Prop) : Prop where
  nd : (fs.map (·.1)).Nodup
  p : PP ∈ fs.map (·.1)
  of : ∀ R ∈ fs.map (·.1), R ∈ ks.map (·.1) ∧ Rch n D R PP
  fr : ∀ R ∈ F, R ∈ fs.map (·.1)
  cl : ∀ R ∈ fs.map (·.1), R ∉ F → ¬ hole R → ∀ S, Dn S R → S ∈ fs.map (·.1)
  ln : F.length ≤ fs.length
variable {PP : List (Str × Int)} {fs : List (List (Str × Int) × V)} {F : List (List (Str × Int))} {hole : List (Str × Int) → Prop}
theorem Clo.small (x : Clo n D PP ks Dn fs F hole) : fs.length ≤ ks.length := by
  have := subset_len x.nd fun R hR => (x.of R hR).1
  rwa [List.length_map, List.length_map] at this
theorem Clo.start (bf : PP ∈ ks.map (·.1)) {v : V} : Clo n D PP ks Dn [(PP, v)] [PP] (fun _ => False) := by
  refine ⟨by simp, by simp, fun R hR => ?_, fun R hR => by simpa using hR, fun R hR no => ?_, Nat.le_refl _⟩
  · have e : R = PP := by simpa using hR
    rw [e]
    exact ⟨bf, Rch.refl _⟩
  · have e : R = PP := by simpa using hR
    exact absurd (by rw [e]; exact List.mem_singleton.mpr rfl) no
theorem Clo.pop {R : List (Str × Int)} (x : Clo n D PP ks Dn fs (F ++ [R]) (fun _ => False)) : Clo n D PP ks Dn fs F (fun Q => Q = R) := by
  refine ⟨x.nd, x.p, x.of, fun Q hQ => x.fr Q (List.mem_append_left _ hQ), fun Q hQ no nh => x.cl Q hQ (fun m => ?_) id, ?_⟩
  · rcases List.mem_append.mp m with m | m
    · exact no m
    · exact nh (List.mem_singleton.mp m)
  · have := x.ln
    rw [List.length_append] at this
    omega
theorem Clo.add {S R : List (Str × Int)} {v : V} (x : Clo n D PP ks Dn fs F hole) (hR : R ∈ fs.map (·.1)) (no : S ∉ fs.map (·.1)) (kS : S ∈ ks.map (·.1)) (p : Prd n D S R) : Clo n D PP ks Dn (fs ++ [(S, v)]) (F ++ [S]) hole := by
  have e : (fs ++ [(S, v)]).map (·.1) = fs.map (·.1) ++ [S] := by rw [List.map_append]; rfl
  refine ⟨?_, ?_, fun Q hQ => ?_, fun Q hQ => ?_, fun Q hQ nF nh T hT => ?_, ?_⟩
  · rw [e, List.nodup_append]
    refine ⟨x.nd, by simp, fun a ha b hb q => no ?_⟩
    rw [← List.mem_singleton.mp hb, ← q]
    exact ha
  · rw [e]; exact List.mem_append_left _ x.p
  · rw [e] at hQ
    rcases List.mem_append.mp hQ with hQ | hQ
    · exact x.of Q hQ
    · rw [List.mem_singleton.mp hQ]
      obtain ⟨nm, r, m, rfl⟩ := p
      obtain ⟨c, h1, h2, h3⟩ := mvs_mem m
      obtain ⟨X, hX⟩ := (x.of _ hR).2
      exact ⟨kS, _, .cons h1 h2 h3 hX⟩
  · rw [e]
    rcases List.mem_append.mp hQ with hQ | hQ
    · exact List.mem_append_left _ (x.fr Q hQ)
    · exact List.mem_append_right _ hQ
  · rw [e] at hQ ⊢
    rcases List.mem_append.mp hQ with hQ | hQ
    · exact List.mem_append_left _ (x.cl Q hQ (fun m => nF (List.mem_append_left _ m)) nh T hT)
    · exact absurd (List.mem_append_right _ hQ) nF
  · rw [List.length_append, List.length_append]
    exact Nat.add_le_add_right x.ln 1
theorem Clo.fill {R : List (Str × Int)} (x : Clo n D PP ks Dn fs F (fun Q => Q = R)) (h : ∀ S, Dn S R → S ∈ fs.map (·.1)) : Clo n D PP ks Dn fs F (fun _ => False) :=
  ⟨x.nd, x.p, x.of, x.fr, fun Q hQ nF _ S hS => if q : Q = R then h S (q ▸ hS) else x.cl Q hQ nF q S hS, x.ln⟩
theorem Clo.done (x : Clo n D PP ks Dn fs [] (fun _ => False)) (bf : Bfs n D PP ks) (all : ∀ S ∈ ks.map (·.1), ∀ R, Prd n D S R → Dn S R) (R : List (Str × Int)) : R ∈ fs.map (·.1) ↔ R ∈ ks.map (·.1) ∧ Rch n D R PP := by
  refine ⟨x.of R, fun ⟨h1, X, h2⟩ => ?_⟩
  have key : ∀ {P X Q : List (Str × Int)}, Runs n D P X Q → Q = PP → P ∈ ks.map (·.1) → P ∈ fs.map (·.1) := by
    intro P X Q h
    induction h with
    | nil P => exact fun e _ => e ▸ x.p
    | @cons P X Q nm c r m1 m2 m3 _ ih =>
      intro e hP
      have pr : Prd n D P (mvd P nm r) := ⟨nm, r, mem_mvs m1 m2 m3, rfl⟩
      obtain ⟨y, hy, ey⟩ := List.mem_map.mp hP
      obtain ⟨j, _, f⟩ := bf.sd y hy
      rw [ey] at f
      exact x.cl _ (ih e (bf.al _ _ (prd_rb pr f.1))) (fun m => nomatch m) id P (all P hP _ pr)
  exact key h2 rfl h1
end
theorem ref_last {es : List (Addr × List (Str × Int))} {q : Addr × List (Str × Int)} : ((es ++ [q]).map fun x => V.ref x.1).getLast? = some (.ref q.1) := by simp
theorem ref_at {es : List (Addr × List (Str × Int))} {q : Addr × List (Str × Int)} : ((es ++ [q]).map fun x => V.ref x.1)[((es ++ [q]).map fun x => V.ref x.1).length - 1]? = some (.ref q.1) := by simp
theorem ref_drop {es : List (Addr × List (Str × Int))} {q : Addr × List (Str × Int)} : ((es ++ [q]).map fun x => V.ref x.1).dropLast = es.map fun x => V.ref x.1 := by simp
section
variable {P : Program} {w : World} {K : PySem.W.Frag} {mg : Str → Option Value} {base : Heap}
def spLBack (P : Program) (w : World) : Sp := fun vs H Q _ => ∃ (h kd p : Addr) (n : Int) (D : List (Int × Int)) (PP : List (Str × Int)) (ks : List (List (Str × Int) × V)), vs = [.ref h, .ref kd, .ref p] ∧ HouseAt H h n D ∧ Forest n D ∧ 0 ≤ n ∧ n ≤ 8 ∧ PlAt H p PP ∧ Pl n PP ∧ PP.length ≤ 12 ∧ DnAt P w H kd ks ∧ Bfs n D PP ks ∧ ks.length ≤ 10000 ∧
  ∀ H' d bs, Same H H' → H d = none → DnAt P w H' d bs → (bs.map (·.1)).Nodup → (∀ R, R ∈ bs.map (·.1) ↔ R ∈ ks.map (·.1) ∧ Rch n D R PP) → Q (.ref d) H'
abbrev nLBack : List Str := ["_law_house_here", "_law_known", "_law_placement_here", "_law_into", "_law_here", "_law_name", "_law_room", "_law_there", "_law_found", "_law_frontier", "_law_one"]
theorem scLBack : FnScope nLBack ["_law_house_here", "_law_known", "_law_placement_here"] (defScope sLLeadingBack) := ⟨rfl, rfl, rfl, by decide +kernel, rfl, by decide +kernel, by decide +kernel⟩
abbrev pLBack : List Str := ["_law_house_here", "_law_known", "_law_placement_here"]
theorem ok_lback {f : Addr} {fd : FuncData} {k : Nat} (F : Fun K "_law_leading_back" "_law_leading_back" sLLeadingBack f fd) (T : Nm mg) (C_law_moves : Cal P w K mg base k "_law_moves" ["_law_house_here", "_law_placement_here"] spLMoves) (C_law_moved : Cal P w K mg base k "_law_moved" pLMoved spLMoved) : FnOk P w K mg base CX0 (k + 1) f fd pLBack (spLBack P w) := by
  refine F.ok scLBack (fun vs H Q E h => ?_) (fun cdv A outer s H vs Q E1 hr h => ?_)
  · obtain ⟨h, kd, p, n, D, PP, ks, rfl, _⟩ := h
    rfl
  · obtain ⟨h, kd, p, n, D, PP, ks, rfl, hH, hF, n0, n1, hP, pl, lP, dk, bf, lk, q⟩ := h
    refine ⟨_, (pss_cons (ps_set (i := 3) scLBack.nd rfl (.inl rfl) pe_dnewP0)
      (pss_cons (ps_unl (ps_for PassesOwn.never rfl (pi_dnL (pv 1)) (pg_name (i := 4) scLBack.nd rfl (.inl rfl))
      (pss_one (ps_for PassesOwn.never rfl (pi_listK K rfl (pe_cal C_law_moves hr (by rfl) (pa_cons (pv 0) (pa_cons (pv 4) pa_nil)))) (pg_tup (by rfl) (pgs_cons (pg_name (i := 5) scLBack.nd rfl (.inl rfl)) (pgs_cons (pg_name (i := 6) scLBack.nd rfl (.inl rfl)) pgs_nil)))
       (pss_cons (ps_set (i := 7) scLBack.nd rfl (.inl rfl) (pe_cal C_law_moved hr (by rfl) (pa_cons (pv 4) (pa_cons (pv 5) (pa_cons (pv 6) pa_nil)))))
        (pss_one (ps_pputA hr.units (pv 3) (pv 7) (pe_op op_cat (pe_dgetP hr.units (pv 3) (pv 7) (pe_lst pa_nil) ⟨rfl, rfl, rfl, rfl⟩) (pe_lst (pa_cons (pv 4) pa_nil))) (by rfl))))))))
      (pss_cons (ps_par (i := 8) (j := 9) (by rfl) scLBack.nd rfl rfl (by decide) rfl rfl (pa_cons (pe_dnewP hr.units (pv 2) pe_bl) (pa_cons (pe_lst (pa_cons (pv 2) pa_nil)) pa_nil)) (by rfl))
      (pss_cons (ps_while PassesOwn.never (pt_cmpR (op_neL0 (Nat.lt_of_succ_lt (hu_of hr))) (pv 9) (pe_lst pa_nil) (nomark _))
      (pss_cons (ps_set (i := 4) scLBack.nd rfl (.inl rfl) (pe_bm0 PySem.F.plainAttrs_list PySem.F.slot_list_pop PySem.F.type_list_pop mt_pop (pv 9)))
       (pss_one (ps_for PassesOwn.never rfl (pi_listK K rfl (pe_dgetP hr.units (pv 3) (pv 4) (pe_lst pa_nil) ⟨rfl, rfl, rfl, rfl⟩)) (pg_name (i := 10) scLBack.nd rfl (.inl rfl))
       (pss_one (ps_if (pt_cmpR (op_notInP hr.units) (pv 10) (pv 8) (by rfl))
        (pss_cons (ps_pput hr.units (pv 8) (pv 10) pe_bl (by rfl))
         (pss_one (ps_expr (pe_bm PySem.F.plainAttrs_list PySem.F.slot_list_append PySem.F.type_list_append mt_append (pv 9) (pa_cons (pv 10) pa_nil)))))
        pss_nil))))))
      (pss_one (ps_ret (pv 8))))))), ?_⟩
    obtain ⟨xs, ek, pr⟩ := dk.ex
    refine fun d hd H1 e1 d1 => ?_
    have s1 : Same H H1 := by
      obtain ⟨ys, rfl⟩ := e1
      exact same_upd hd
    refine ⟨kd, fun o' u' z => ?_, _, rfl, kd, xs, rfl, dk.no, s1 _ _ ek, fun o => ?_⟩
    · have z : H kd = some (.frz o' u') := z
      rw [ek] at z
      cases z
    have ndk : kd ≠ d := fun e => by rw [e, hd] at ek; cases ek
    have tk0 : ∀ {G : Hp}, Bts kd H G → Tk H G := fun b => b.tk ek
    have keyS : ∀ (i : Nat) (S : List (Str × Int)) (v : V), ks[i]? = some (S, v) → S ∈ ks.map (·.1) := fun i S v h => List.mem_map.mpr ⟨_, List.mem_of_getElem? h, rfl⟩
    refine for_dn (H0 := H) pr (fun k σ G => ∃ y4 y5 y6 y7 kis Dn, σ = [some (.ref h), some (.ref kd), some (.ref p), some (.ref d), y4, y5, y6, y7, none, none, none] ∧ Bk1 P w H kd d o xs n D ks kis (100 * k) Dn G ∧ ∀ x ∈ ks.take k, ∀ R, Prd n D x.1 R → Dn x.1 R)
      ⟨none, none, none, none, [], fun _ _ => False, rfl, ⟨fun b u nb hb => (upd_ne nb).trans (s1 b u hb), upd_same, ?_, ⟨fun p hp => (nomatch hp), fun _ _ f => f.elim, List.nodup_nil⟩, fun _ _ f => f.elim, fun R hR => (nomatch hR)⟩, fun x hx => (nomatch hx)⟩ (fun k σ G hp => ?_) (fun k b S v σ G hk hPb hp => ?_) (fun σ G hp => ?_)
    · obtain ⟨zs, ez, _⟩ := d1.ex
      exact d1.tk ⟨fun hh => (upd_ne (ne_of hh (s1 _ _ ek) (by intro z; cases z))).trans hh, fun hh => (upd_ne (ne_of hh (s1 _ _ ek) (by intro z; cases z))).trans hh⟩ (upd_ne ndk.symm)
    · obtain ⟨_, _, _, _, _, _, _, x, _⟩ := hp
      exact ⟨tk0 x.bt, x.lk⟩
    · obtain ⟨y4, y5, y6, y7, kis, Dn, rfl, x, all⟩ := hp
      have mS := keyS k S v hk
      obtain ⟨y, hy, ey⟩ := List.mem_map.mp mS
      obtain ⟨j, _, fS⟩ := bf.sd y hy
      rw [ey] at fS
      have lS : S.length = PP.length := by
        have := congrArg List.length fS.1.names
        simpa using this
      have lX := mvs_len n D S S n1
      have lK : k < ks.length := (List.getElem?_eq_some_iff.mp hk).1
      refine ⟨_, rfl, _, rfl, h, b, n, D, S, rfl, hH.tk (tk0 x.bt), hF, n1, hPb, by omega, fun G1 l s1' hl ls => ?_⟩
      obtain ⟨xs3, sq3, _⟩ := ls.sq (K := K)
      obtain ⟨ps3, e3, _, _⟩ := id ls
      have x1 := x.same s1'
      have dl : d ≠ l := by
        obtain ⟨zs, ez, _⟩ := x.dn.ex
        exact ne_of_none ez hl
      refine ⟨l, rfl, ⟨xs3, sq3⟩, for_lsT ls (fun i σ G => ∃ y5 y6 y7 kis' Dn', σ = [some (.ref h), some (.ref kd), some (.ref p), some (.ref d), some (.ref b), y5, y6, y7, none, none, none] ∧ Bk1 P w H kd d o xs n D ks kis' (100 * k + i) Dn' G ∧ Tk G1 G ∧ G l = G1 l ∧ (∀ S R, Dn S R → Dn' S R) ∧ ∀ x ∈ (mvs n D S S).take i, Dn' S (mvd S x.1 x.2))
        ⟨_, _, _, kis, Dn, rfl, x1, Tk.refl, rfl, fun _ _ m => m, fun x hx => nomatch hx⟩ (fun i σ G hp => ?_) (fun i nm r σ G hi hp => ?_) (fun σ G hp => ?_)⟩
      · obtain ⟨_, _, _, _, _, _, _, t, e, _⟩ := hp
        exact ⟨t, e⟩
      · obtain ⟨y5, y6, y7, kis', Dn', rfl, x2, t2, el2, sub, al2⟩ := hp
        have mm : (nm, r) ∈ mvs n D S S := List.mem_of_getElem? hi
        have hPb2 : PlAt G b S := hPb.tk ((Tk.of s1').trans t2)
        have li : i < (mvs n D S S).length := (List.getElem?_eq_some_iff.mp hi).1
        have kl : kis'.length ≤ ks.length := by
          have := subset_len (xs := kis'.map (·.1)) (ys := ks.map (·.1)) x2.id.nd fun R hR => ?_
          · rwa [List.length_map, List.length_map] at this
          · obtain ⟨T, hT⟩ := x2.ky R hR
            obtain ⟨h1, h2⟩ := x2.kn T R hT
            obtain ⟨y, hy, rfl⟩ := List.mem_map.mp h1
            obtain ⟨j, _, f⟩ := bf.sd y hy
            exact bf.al _ _ (prd_rb h2 f.1)
        refine ⟨_, rfl, _, rfl, _, rfl, b, S, nm, r, rfl, hPb2, by omega, fun G3 u s3 hu => ?_⟩
        have x3 := x2.same s3
        have hPu := hu.pl
        refine ⟨_, rfl, d, kis', rfl, x3.dn, _, rfl, Nat.zero_le _, fun z0 hz0 => ⟨d, u, _, .ref z0, kis', rfl, rfl, hPu.same (same_upd hz0), x3.dn.same (same_upd hz0), ?_⟩⟩
        have x4 := x3.same (same_upd (o := .lst []) hz0)
        obtain ⟨v', cs, z, E, rfl, hE, lE, iff⟩ := x4.id.get (mvd S nm r) (z0 := z0) upd_same
        refine get_or cs ⟨_, rfl, by show 1 ≤ sizeLine; decide, fun z1 hz1 => ?_⟩
        obtain ⟨es, ee1, rfl, ee3⟩ := id hE
        have lz : es.length + 1 ≤ sizeLine := by
          have : sizeLine = 16777216 := by decide
          rw [List.length_map] at lE
          omega
        refine ⟨z, z1, _, _, rfl, rfl, same_upd hz1 _ _ ee1, upd_same, by rw [List.length_map]; exact lz, fun z2 hz2 => ?_⟩
        have s5 := (same_upd (o := .lst [V.ref b]) hz1).trans (same_upd (o := .lst ((es.map fun q => V.ref q.1) ++ [V.ref b])) hz2)
        have s35 := (same_upd (o := .lst []) hz0).trans s5
        have x5 := x4.same s5
        have hE2 : EdAt (upd (upd (upd G3 z0 (.lst [])) z1 (.lst [V.ref b])) z2 (.lst ((es.map fun q => V.ref q.1) ++ [V.ref b]))) z2 (es.map (·.2) ++ [S]) := by
          refine ⟨es ++ [(b, S)], by rw [upd_same, List.map_append]; rfl, by rw [List.map_append]; rfl, fun q hq => ?_⟩
          rcases List.mem_append.mp hq with hq | hq
          · exact (ee3 q hq).same s5
          · rw [List.mem_singleton.mp hq]
            exact hPb2.same (s3.trans s35)
        have lk' : kis'.length < sizeLine := by
          have : sizeLine = 16777216 := by decide
          omega
        refine ⟨_, rfl, _, rfl, d, u, _, kis', rfl, rfl, hPu.same s35, x5.dn, lk', fun G6 e6 dn6 => ?_⟩
        have x6 := x5.put ndk hd mS ⟨nm, r, mm, rfl⟩ hE2 lE iff e6 dn6
        obtain ⟨zs, ez, _⟩ := x5.dn.ex
        obtain ⟨ys6, rfl⟩ := e6
        refine ⟨_, _, _, _, _, rfl, x6, ((t2.trans (Tk.of s3)).trans (Tk.of s35)).putE ez, ?_, fun S' R' m => .inl (sub S' R' m), fun y hy => ?_⟩
        · rw [upd_ne dl.symm, s35 _ _ (s3 _ _ (el2.trans e3)), e3]
        · rw [take_snoc hi] at hy
          rcases List.mem_append.mp hy with hy | hy
          · exact .inl (al2 y hy)
          · rw [List.mem_singleton.mp hy]
            exact .inr ⟨rfl, rfl⟩
      · obtain ⟨y5, y6, y7, kis', Dn', rfl, x2, t2, el2, sub, al2⟩ := hp
        rw [List.take_length] at al2
        refine ⟨_, _, _, _, kis', Dn', rfl, x2.le (by omega), fun y hy R hR => ?_⟩
        rw [take_snoc hk] at hy
        rcases List.mem_append.mp hy with hy | hy
        · exact sub _ _ (all y hy R hR)
        · rw [List.mem_singleton.mp hy] at hR ⊢
          obtain ⟨nm, r, m, rfl⟩ := hR
          exact al2 _ m
    · obtain ⟨y4, y5, y6, y7, kis, Dn, rfl, x, all⟩ := hp
      rw [List.take_length] at all
      refine ⟨o, _, x.lk, ?_⟩
      obtain ⟨s2, dn2, id2⟩ := x.unl ndk ek
      have kn := x.kn
      have all2 : ∀ S ∈ ks.map (·.1), ∀ R, Prd n D S R → Dn S R := fun S hS R hR => by
        obtain ⟨y, hy, rfl⟩ := List.mem_map.mp hS
        exact all y hy R hR
      clear x
      generalize upd G kd (DnO P w kd xs) = G1 at s2 dn2 id2
      refine fun f hf nf => ⟨_, rfl, p, PP, rfl, (hP.same s2).same (same_upd hf), upd_same, fun G2 e2 d2 => ⟨_, rfl, by show 1 ≤ sizeLine; decide, fun l hl => ⟨_, _, rfl, ?_⟩⟩⟩
      dsimp only [gName]
      have s3 : Same G1 G2 := by
        obtain ⟨ys, rfl⟩ := e2
        exact same_put (same_upd hf) hf
      have s4 := s3.trans (same_upd (o := .lst [V.ref p]) hl)
      refine ⟨fun m σ G => ∃ y4 y5 y6 y7 y10 fs F, σ = [some (.ref h), some (.ref kd), some (.ref p), some (.ref d), y4, y5, y6, y7, some (.ref f), some (.ref l), y10] ∧ Same G1 G ∧ DnAt P w G f fs ∧ EdAt G l F ∧ Clo n D PP ks Dn fs F (fun _ => False) ∧ m = 2 * (ks.length - fs.length) + F.length, ⟨_, _, _, _, _, none, _, [PP], rfl, s4, d2.same (same_upd hl), ⟨[(p, PP)], upd_same, rfl, fun q hq => ?_⟩, Clo.start (bf.al 0 PP .zero), rfl⟩, ?_⟩
      · rw [List.mem_singleton.mp hq]
        exact (hP.same s2).same s4
      have gl : G1 l = none := s3.free hl
      rintro m σ G3 ⟨y4, y5, y6, y7, y10, fs, F, rfl, sm, dnf, ed, clo, rfl⟩
      obtain ⟨es, e1', rfl, e3'⟩ := ed
      refine ⟨_, rfl, Nat.zero_le _, fun b hb => ⟨l, b, _, rfl, rfl, SqL.of (same_upd hb _ _ e1'), SqL.of upd_same, _, rfl, ?_⟩⟩
      have sb := same_upd (o := .lst []) hb
      rcases snocA es with rfl | ⟨ys, q, rfl⟩
      · refine iteF ?_
        exact ⟨_, rfl, q _ f fs (s2.trans (sm.trans sb)) (s2.free hf) (dnf.same sb) clo.nd fun R => clo.done bf all2 R⟩
      · have zz : (!((ys ++ [q]).map fun q => V.ref q.1).isEmpty) = true := by
          cases ys <;> rfl
        rw [zz]
        refine iteT ⟨_, fun _ _ hh => hh, ?_⟩
        refine ⟨_, rfl, .inl ⟨rfl, _, SqL.of (sb _ _ e1')⟩, l, _, _, rfl, rfl, sb _ _ e1', ref_at, ?_⟩
        rw [ref_drop]
        have s5 : Same G1 (upd (upd G3 b (.lst [])) l (.lst (ys.map fun x => V.ref x.1))) := same_put (sm.trans sb) gl
        have t35 : Tk G3 (upd (upd G3 b (.lst [])) l (.lst (ys.map fun x => V.ref x.1))) := (Tk.of sb).put (sb _ _ e1')
        have nfl : f ≠ l := by
          obtain ⟨zs, ez, _⟩ := dnf.ex
          exact ne_of ez e1' (by intro z; cases z)
        have dnf5 : DnAt P w (upd (upd G3 b (.lst [])) l (.lst (ys.map fun x => V.ref x.1))) f fs := by
          obtain ⟨zs, ez, _⟩ := dnf.ex
          exact dnf.tk t35 ((upd_ne nfl).trans ((sb _ _ ez).trans ez.symm))
        have ed5 : EdAt (upd (upd G3 b (.lst [])) l (.lst (ys.map fun x => V.ref x.1))) l (ys.map (·.2)) := ⟨ys, upd_same, rfl, fun y hy => (e3' y (List.mem_append_left _ hy)).tk t35⟩
        have hq5 := (e3' q (List.mem_append_right _ (List.mem_singleton.mpr rfl))).tk t35
        rw [List.map_append] at clo
        have clo5 := Clo.pop (R := q.2) clo
        have mq : q.2 ∈ fs.map (·.1) := clo.fr _ (List.mem_append_right _ (List.mem_singleton.mpr rfl))
        have lf := clo.small
        clear clo
        generalize upd (upd G3 b (.lst [])) l (.lst (ys.map fun x => V.ref x.1)) = G5 at s5 dnf5 ed5 hq5
        refine ⟨_, rfl, d, kis, rfl, dn2.same s5, _, rfl, Nat.zero_le _, fun z0 hz0 => ⟨d, q.1, q.2, .ref z0, kis, rfl, rfl, hq5.same (same_upd hz0), (dn2.same s5).same (same_upd hz0), ?_⟩⟩
        have s6 := s5.trans (same_upd (o := .lst []) hz0)
        have s56 := same_upd (o := .lst []) hz0
        obtain ⟨v', cs, z, E, rfl, hE, lE, iff⟩ := (id2.ltk (Ltk.of s6)).get q.2 (z0 := z0) upd_same
        have hEz := hE.lst
        obtain ⟨xz, ez, _⟩ := hEz
        have nlz : l ≠ z := fun e => by
          subst e
          rcases cs with m | ⟨_, m⟩
          · obtain ⟨z', E', h1, h2, _⟩ := id2.v _ m
            cases h1
            obtain ⟨_, e1, _⟩ := h2.lst
            rw [gl] at e1
            cases e1
          · cases m
            obtain ⟨_, e1, _⟩ := ed5
            rw [hz0] at e1
            cases e1
        have nfz : f ≠ z := by
          obtain ⟨zs, e1, _⟩ := (dnf5.same s56).ex
          exact ne_of e1 ez (by intro z; cases z)
        refine get_or cs ⟨z, rfl, ⟨_, SqL.of ez⟩, for_ed hE (fun i σ G => ∃ y10 fs' F', σ = [some (.ref h), some (.ref kd), some (.ref p), some (.ref d), some (.ref q.1), y5, y6, y7, some (.ref f), some (.ref l), y10] ∧ Same G1 G ∧ DnAt P w G f fs' ∧ EdAt G l F' ∧ Clo n D PP ks Dn fs' F' (fun Q => Q = q.2) ∧ Tk (upd G5 z0 (.lst [])) G ∧ G z = (upd G5 z0 (.lst [])) z ∧ (∀ S ∈ E.take i, S ∈ fs'.map (·.1)) ∧ q.2 ∈ fs'.map (·.1) ∧ 2 * (ks.length - fs'.length) + F'.length ≤ 2 * (ks.length - fs.length) + ys.length)
          ⟨_, fs, _, rfl, s6, dnf5.same s56, ed5.same s56, clo5, Tk.refl, rfl, fun S hS => (nomatch hS), mq, by rw [List.length_map]; exact Nat.le_refl _⟩ (fun i σ G hp => ?_) (fun i a S σ G hi ha hp => ?_) (fun σ G hp => ?_)⟩
        · obtain ⟨_, _, _, _, _, _, _, _, t, e, _⟩ := hp
          exact ⟨t, e⟩
        · obtain ⟨y10, fs', F', rfl, sm6, dn6, ed6, clo6, t6, e6, all6, mq6, ms⟩ := hp
          refine ⟨_, rfl, _, rfl, a, f, S, fs', rfl, rfl, ha, dn6, _, rfl, ?_⟩
          have mS : S ∈ E := List.mem_of_getElem? hi
          have stp : ∀ fs2 : List (List (Str × Int) × V), (∀ T ∈ fs'.map (·.1), T ∈ fs2.map (·.1)) → S ∈ fs2.map (·.1) → ∀ T ∈ E.take (i + 1), T ∈ fs2.map (·.1) := fun fs2 a1 a2 T hT => by
            rw [take_snoc hi] at hT
            rcases List.mem_append.mp hT with hT | hT
            · exact a1 _ (all6 T hT)
            · rw [List.mem_singleton.mp hT]; exact a2
          refine ite2 (fun c => ?_) (fun c => ?_)
          · have no : ¬ ∃ p ∈ fs', p.1 = S := by simpa using c
            have no' : S ∉ fs'.map (·.1) := fun m => no (List.mem_map.mp m)
            have l6 := clo6.small
            have lt6 : fs'.length < sizeLine := by
              have : sizeLine = 16777216 := by decide
              omega
            refine ⟨_, rfl, _, rfl, f, a, S, fs', rfl, rfl, ha, dn6, fun y hy e => no ⟨y, hy, e⟩, lt6, fun G7 e7 dn7 => ?_⟩
            obtain ⟨zs, ez6, _⟩ := dn6.ex
            obtain ⟨ws, rfl⟩ := e7
            have t7 : Tk G (upd G f (DnO P w f ws)) := Tk.refl.putE ez6
            have ed7 : EdAt (upd G f (DnO P w f ws)) l F' := ed6.tk t7 (upd_ne nfl.symm)
            obtain ⟨acc, ha7, la, ed8⟩ := ed7.snoc (ha.tk t7)
            have t8 : Tk (upd G f (DnO P w f ws)) (upd (upd G f (DnO P w f ws)) l (.lst (acc ++ [.ref a]))) := Tk.refl.put ha7
            obtain ⟨k1, k2⟩ := kn S q.2 ((iff S).mp mS)
            have clo8 := clo6.add (v := .bl true) mq6 no' k1 k2
            have l8 := clo8.small
            rw [List.length_append, List.length_singleton] at l8
            have lF := clo6.ln
            refine ⟨_, rfl, .inl ⟨rfl, _, SqL.of ha7⟩, _, rfl, l, _, _, rfl, rfl, ha7, by rw [la]; exact Nat.lt_of_le_of_lt lF lt6, ?_⟩
            refine ⟨_, _, _, rfl, same_put (same_put sm6 hf) gl, dn7.tk t8 (upd_ne nfl), ed8, clo8, (t6.trans t7).trans t8, ?_, stp _ (fun T hT => by rw [List.map_append]; exact List.mem_append_left _ hT) (by rw [List.map_append]; exact List.mem_append_right _ (List.mem_singleton.mpr rfl)), by rw [List.map_append]; exact List.mem_append_left _ mq6, ?_⟩
            · rw [upd_ne nlz.symm, upd_ne nfz.symm, e6]
            · rw [List.length_append, List.length_append, List.length_singleton, List.length_singleton]
              omega
          · have yes : ∃ p ∈ fs', p.1 = S := by simpa using c
            exact ⟨_, fs', F', rfl, sm6, dn6, ed6, clo6, t6, e6, stp fs' (fun _ m => m) (List.mem_map.mpr yes), mq6, ms⟩
        · obtain ⟨y10, fs', F', rfl, sm6, dn6, ed6, clo6, t6, e6, all6, mq6, ms⟩ := hp
          rw [List.take_length] at all6
          refine ⟨_, ?_, _, _, _, _, _, fs', F', rfl, sm6, dn6, ed6, clo6.fill fun S hS => all6 S ((iff S).mpr hS), rfl⟩
          rw [List.length_map, List.length_append, List.length_singleton]
          omega
end
end Fw
set_option maxHeartbeats 2000000
namespace Fw
open PySem PySem.Spec PyProof.Rows L2
/-! whether a placement is a key -/
section
variable {X : Cx}
theorem op_inP (hu : X.A.units + 64 < cLine) : OpR X (compareOp .In) (fun x y H Q => ∃ (a d : Addr) (P : List (Str × Int)) (ks : List (List (Str × Int) × V)), x = .ref a ∧ y = .ref d ∧ PlAt H a P ∧ DnAt X.prog X.w H d ks ∧ Q (.bl (decide (P ∈ ks.map (·.1)))) H) := by
  rintro pn s σ H _ _ v u Q I rx ry ⟨a, d, P, ks, rfl, rfl, hp, hd, q⟩
  cases (show v = Value.ref a from rx)
  cases (show u = Value.ref d from ry)
  obtain ⟨xs, e, pr, hm⟩ := hd.keyed I
  refine in_keyed (knd := nestedKind X.prog X.w) (A := X.A) (by show X.A.units + 1 + 8 < cLine; omega) (nested_pl I hp) (by simpa using hd.no) ⟨xs, hm, rfl⟩ ?_
  refine ⟨.bl _, H, I.tok _, ?_, q⟩
  show Value.bool _ = Value.bool _
  congr 1
  rw [Bool.eq_iff_iff, valueAt_isSome, keys_pk pr, decide_eq_true_iff]
  constructor
  · intro m
    obtain ⟨p, hp, e⟩ := List.mem_map.mp m
    exact List.mem_map.mpr ⟨p, hp, pk_inj e⟩
  · intro m
    obtain ⟨p, mp, rfl⟩ := List.mem_map.mp m
    exact List.mem_map_of_mem (f := fun p : List (Str × Int) × V => pk p.1) mp
end
theorem DnAt.fr {P : Program} {w : World} {H H' : Hp} {d : Addr} {ks : List (List (Str × Int) × V)} {s A B : Addr} {c : Nat} (x : DnAt P w H d ks) (hS : StreamAt H s A B c) (f : Fr s A H H') : DnAt P w H' d ks := by
  obtain ⟨xs, e, pr⟩ := x.ex
  refine ⟨⟨xs, f d _ (fun z => ?_) (fun z => ?_) e, paired_map (fun p q h => ⟨h.1, h.2.1.fr hS f, h.2.2⟩) pr⟩, x.no, x.z⟩
  · subst z
    obtain ⟨_, _, _, h1, _⟩ := hS.ex
    rw [h1] at e
    cases e
  · subst z
    obtain ⟨_, _, _, _, h2, _⟩ := hS.ex
    rw [h2] at e
    cases e
end Fw
set_option maxHeartbeats 4000000
namespace Fw
open PySem PySem.Spec PyProof.Rows L2
/-! mutually_reachable -/
/-- a walk over a tuple, a list: whatever is done with each, from promise to promise -/
theorem walk_tup {K : PySem.W.Frag} {a : Addr} {xs : List V} {G0 : Hp} {Qd : Hp → Prop} {each : (Hp → Prop) → V → Hp → Prop} (Pv : Nat → Hp → Prop) (start : Pv 0 G0) (sees : ∀ i G, i ≤ xs.length → Pv i G → SqT K G a xs)
    (does : ∀ i x G, xs[i]? = some x → Pv i G → each (Pv (i + 1)) x G) (ends : ∀ G, Pv xs.length G → Qd G) :
    ∃ W : Nat → Nat → Hp → Prop, (∃ m, W 0 m G0) ∧ ∀ i m G, W i m G → ((Itt K a).stop i G ∧ Qd G) ∨ ((Itt K a).go i G ∧ ∃ N : Hp → Prop, (∀ G', N G' → ∃ m', m' < m ∧ W (i + 1) m' G') ∧ ∀ x G', (Itt K a).yld i G x G' → each N x G') := by
  refine ⟨fun i m J => m + i = xs.length ∧ Pv i J, ⟨xs.length, rfl, start⟩, ?_⟩
  rintro i m J ⟨e, p⟩
  have sq := sees i J (by omega) p
  cases m with
  | zero =>
    have e : i = xs.length := by omega
    subst e
    exact .inl ⟨⟨xs, sq, Nat.le_refl _⟩, ends J p⟩
  | succ m =>
    have lt : i < xs.length := by omega
    refine .inr ⟨⟨xs, xs[i], sq, List.getElem?_eq_getElem lt⟩, Pv (i + 1), fun J' p' => ⟨m, Nat.lt_succ_self _, by omega, p'⟩, ?_⟩
    rintro x J' ⟨rfl, y⟩
    exact does i x _ (y xs sq) p
theorem walk_lst {K : PySem.W.Frag} {a : Addr} {xs : List V} {G0 : Hp} {Qd : Hp → Prop} {each : (Hp → Prop) → V → Hp → Prop} (Pv : Nat → Hp → Prop) (start : Pv 0 G0) (sees : ∀ i G, i ≤ xs.length → Pv i G → SqL K G a xs)
    (does : ∀ i x G, xs[i]? = some x → Pv i G → each (Pv (i + 1)) x G) (ends : ∀ G, Pv xs.length G → Qd G) :
    ∃ W : Nat → Nat → Hp → Prop, (∃ m, W 0 m G0) ∧ ∀ i m G, W i m G → ((Itl K a).stop i G ∧ Qd G) ∨ ((Itl K a).go i G ∧ ∃ N : Hp → Prop, (∀ G', N G' → ∃ m', m' < m ∧ W (i + 1) m' G') ∧ ∀ x G', (Itl K a).yld i G x G' → each N x G') := by
  refine ⟨fun i m J => m + i = xs.length ∧ Pv i J, ⟨xs.length, rfl, start⟩, ?_⟩
  rintro i m J ⟨e, p⟩
  have sq := sees i J (by omega) p
  cases m with
  | zero =>
    have e : i = xs.length := by omega
    subst e
    exact .inl ⟨⟨xs, sq, Nat.le_refl _⟩, ends J p⟩
  | succ m =>
    have lt : i < xs.length := by omega
    refine .inr ⟨⟨xs, xs[i], sq, List.getElem?_eq_getElem lt⟩, Pv (i + 1), fun J' p' => ⟨m, Nat.lt_succ_self _, by omega, p'⟩, ?_⟩
    rintro x J' ⟨rfl, y⟩
    exact does i x _ (y xs sq) p
theorem none_of_same {H H' : Hp} {M : Addr} (s : Same H H') (h : H' M = none) : H M = none := by
  cases e : H M with
  | none => rfl
  | some o => rw [s _ _ e] at h; cases h
theorem sqT_tks {K : PySem.W.Frag} {H H' : Hp} {a : Addr} {xs : List V} (t : Tk H H') (h : SqT K H a xs) : SqT K H' a xs := by
  rcases h with (h | ⟨o, h⟩) | h
  · exact .inl (.inl (t.t h))
  · exact .inl (.inr ⟨o, t.f h⟩)
  · exact .inr h
theorem tYes_go {σ : L2.St} {H : Hp} {Q : Bool → Hp → Prop} (h : Q true H) : tYes σ H Q := h
theorem eqvA_txt : ∀ R G : List Str, PyData.eqvAll (R.map PyData.str) (G.map PyData.str) = decide (R = G)
  | [], [] => rfl
  | [], _ :: _ => by rw [List.map_nil, List.map_cons, PyData.eqvAll]; rfl
  | _ :: _, [] => by rw [List.map_nil, List.map_cons, PyData.eqvAll]; rfl
  | x :: R, y :: G => by
    rw [List.map_cons, List.map_cons, PyData.eqvAll, eqvA_txt R G]
    simp only [PyData.eqv]
    rw [Bool.eq_iff_iff]
    simp
theorem eqvA_int : ∀ R G : List Int, PyData.eqvAll (R.map PyData.int) (G.map PyData.int) = decide (R = G)
  | [], [] => rfl
  | [], _ :: _ => by rw [List.map_nil, List.map_cons, PyData.eqvAll]; rfl
  | _ :: _, [] => by rw [List.map_nil, List.map_cons, PyData.eqvAll]; rfl
  | x :: R, y :: G => by
    rw [List.map_cons, List.map_cons, PyData.eqvAll, eqvA_int R G]
    simp only [PyData.eqv]
    rw [Bool.eq_iff_iff]
    simp
theorem eqvA_rgs : ∀ R G : List (Addr × List Int), PyData.eqvAll (R.map fun c => PyData.tuple (c.2.map PyData.int)) (G.map fun c => PyData.tuple (c.2.map PyData.int)) = decide (R.map (·.2) = G.map (·.2))
  | [], [] => rfl
  | [], _ :: _ => by rw [List.map_nil, List.map_cons, PyData.eqvAll]; rfl
  | _ :: _, [] => by rw [List.map_nil, List.map_cons, PyData.eqvAll]; rfl
  | x :: R, y :: G => by
    rw [List.map_cons, List.map_cons, PyData.eqvAll, eqvA_rgs R G, PyData.eqv, eqvA_int]
    rw [Bool.eq_iff_iff]
    simp
theorem shapedT {ns : List Str} (h : ∀ x ∈ ns, PyData.strOk x = true) : SeqAt.shaped (.tuple (ns.map PyData.str)) = true := by
  have := strs_shaped h
  simpa [SeqAt.shaped, PyData.canLay0, PyData.depth] using this
theorem inside_ok {n : Int} {P : List (Str × Int)} (pl : Pl n P) (S : List Int) : ∀ x ∈ inside P S, PyData.strOk x = true := fun x hx => by
  obtain ⟨y, hy, rfl⟩ := List.mem_map.mp hx
  exact nam_ok (pl.nams y (List.mem_filter.mp hy).1)
theorem parts_small {P : List (Str × Int)} {C : List Int} (h : C.length ≤ 8) : (parts P C).length ≤ 8 := by
  unfold parts
  split
  · rw [List.length_map]; exact h
  · show 1 ≤ 8; decide
section
variable {P : Program} {w : World} {K : PySem.W.Frag} {mg : Str → Option Value} {base : Heap}
def spSameP (K : PySem.W.Frag) : Sp := fun vs H Q _ => ∃ (p g t : Addr) (n : Int) (P G : List (Str × Int)) (S : List Int), vs = [.ref p, .ref g, .ref t] ∧ PlAt H p P ∧ PlAt H g G ∧ Pl n P ∧ Pl n G ∧ P.length ≤ 100 ∧ G.length ≤ 100 ∧ SqT K H t (vi S) ∧
  ∀ H', Same H H' → Q (.bl (decide (inside P S = inside G S))) H'
abbrev nSameP : List Str := ["one", "other", "rooms"]
theorem scSameP : FnScope nSameP ["one", "other", "rooms"] (defScope sSameP) := ⟨rfl, rfl, rfl, by decide +kernel, rfl, by decide +kernel, by decide +kernel⟩
abbrev pSameP : List Str := ["one", "other", "rooms"]
theorem ok_samep {f : Addr} {fd : FuncData} {k : Nat} (F : Fun K "same_people" "same_people" sSameP f fd) (Cpeople_within : Cal P w K mg base (k + 1) "people_within" pPWi (spPWi K)) : FnOk P w K mg base CX0 (k + 2) f fd pSameP (spSameP K) := by
  refine F.ok scSameP (fun vs H Q E h => ?_) (fun cdv A outer s H vs Q E hr h => ?_)
  · obtain ⟨p, g, t, n, P, G, S, rfl, _⟩ := h
    rfl
  · obtain ⟨p, g, t, n, P, G, S, rfl, hP, hG, pl, plG, lP, lG, hS, q⟩ := h
    refine ⟨_, (pss_one (ps_ret (pe_cmpR (op_eqDK K rfl hr.units) (pe_cal Cpeople_within hr (by rfl) (pa_cons (pv 0) (pa_cons (pv 2) pa_nil))) (pe_cal Cpeople_within hr (by rfl) (pa_cons (pv 1) (pa_cons (pv 2) pa_nil))) (nomark _)))), ?_⟩
    refine ⟨_, rfl, _, rfl, p, t, P, S, rfl, hP, hS, lP, fun H1 u s1 e1 => ?_⟩
    refine ⟨_, rfl, _, rfl, g, t, G, S, rfl, hG.same s1, sqT_same s1 hS, lG, fun H2 v s2 e2 => ?_⟩
    refine ⟨.tuple ((inside P S).map .str), .tuple ((inside G S).map .str), .tup (SqT.of (s2 _ _ e1)) (dp_strs _), .tup (SqT.of e2) (dp_strs _), shapedT (inside_ok pl S), shapedT (inside_ok plG S), ?_⟩
    have : PyData.eqv (.tuple ((inside P S).map .str)) (.tuple ((inside G S).map .str)) = decide (inside P S = inside G S) := by
      rw [PyData.eqv]
      exact eqvA_txt _ _
    rw [this]
    exact q _ (s1.trans s2)
def spLasting (K : PySem.W.Frag) : Sp := fun vs H Q _ => ∃ (p t : Addr) (P : List (Str × Int)) (C : List Int), vs = [.ref p, .ref t] ∧ PlAt H p P ∧ P.length ≤ 100 ∧ SqT K H t (vi C) ∧ C.length ≤ 8 ∧
  ∀ H' l (ts : List (Addr × List Int)), Same H H' → H l = none → H' l = some (.lst (ts.map fun c => V.ref c.1)) → (∀ c ∈ ts, SqT K H' c.1 (vi c.2)) → ts.map (·.2) = parts P C → Q (.ref l) H'
abbrev nLasting : List Str := ["placement", "region", "room"]
theorem scLasting : FnScope nLasting ["placement", "region"] (defScope sLasting) := ⟨rfl, rfl, rfl, by decide +kernel, rfl, by decide +kernel, by decide +kernel⟩
abbrev pLasting : List Str := ["placement", "region"]
theorem ok_lasting {f : Addr} {fd : FuncData} {k : Nat} (F : Fun K "lasting_parts" "lasting_parts" sLasting f fd) (Cis_tight : Cal P w K mg base (k + 3) "is_tight" pSurp (spTight K)) : FnOk P w K mg base CX0 (k + 4) f fd pLasting (spLasting K) := by
  refine F.ok scLasting (fun vs H Q E h => ?_) (fun cdv A outer s H vs Q E hr h => ?_)
  · obtain ⟨p, t, P, C, rfl, _⟩ := h
    rfl
  · obtain ⟨p, t, P, C, rfl, hP, lP, hC, lC, q⟩ := h
    refine ⟨_, (pss_one (ps_ret (pe_ifExp (pt_val (pe_cal Cis_tight hr (by rfl) (pa_cons (pv 0) (pa_cons (pv 1) pa_nil)))) (pe_lc (own := [("room", 2)]) (g := gName 2) (by rfl) scLasting.nd (pi_tupK K rfl (pv 1))
 (blkOk_by (own := [("room", 2)]) (N := nLasting) (sc := defScope sLasting) (by decide +kernel))
 (fun _ _ _ _ _ => (pg_name (i := 2) scLasting.nd rfl (.inl rfl))) (fun _ _ _ _ _ => pts_nil) (fun _ _ _ _ _ => (pe_tup (pa_cons (pv 2) pa_nil)))) (pe_lst (pa_cons (pv 1) pa_nil))))), ?_⟩
    refine ⟨_, rfl, _, rfl, p, t, P, C, rfl, hP, hC, lP, fun H1 s1 => ⟨_, rfl, ?_⟩⟩
    have hC1 := sqT_same s1 hC
    refine ite2 (fun z => ?_) (fun z => ?_)
    · have ti : (inside P C).length = C.length := of_decide_eq_true z
      refine ⟨_, rfl, t, rfl, ⟨_, hC1⟩, fun L hL => lc_tup (K := K) (a := t) (xs := vi C) (fun k H' => Same H1 H' ∧ ∃ ts : List (Addr × List Int), H' L = some (.lst (ts.map fun c => V.ref c.1)) ∧ (∀ c ∈ ts, H' c.1 = some (.tup (vi c.2))) ∧ ts.map (·.2) = (C.take k).map fun r => [r]) ⟨same_upd hL, [], upd_same, fun c hc => (nomatch hc), rfl⟩ (fun k H' _ hh => sqT_same hh.1 hC1) ?_ ?_⟩
      · rintro k x H' hx ⟨s', ts, e', et, em⟩
        obtain ⟨y, hy, rfl⟩ := get_vi hx
        refine ⟨rfl, ?_⟩
        unfold tYes
        refine iteT ⟨_, rfl, by show 1 ≤ sizeLine; decide, fun b hb => ?_⟩
        have sm := same_upd (o := .tup [V.int y]) hb
        have e2 := sm _ _ e'
        have lt : ts.length = k := by
          have := congrArg List.length em
          rw [List.length_map, List.length_map, List.length_take] at this
          have := lt_of_get hy
          omega
        have lk := lt_of_get hy
        refine ⟨_, e2, by rw [List.length_map]; exact small1000 (by omega), same_put (s'.trans sm) hL, ts ++ [(b, [y])], ?_, fun c hc => ?_, ?_⟩
        · rw [upd_same, List.map_append]
          rfl
        · rcases List.mem_append.mp hc with hc | hc
          · rw [upd_ne (ne_of (sm _ _ (et c hc)) e2 (by intro z; cases z))]
            exact sm _ _ (et c hc)
          · rw [List.mem_singleton.mp hc]
            rw [upd_ne (ne_of upd_same e2 (by intro z; cases z))]
            exact upd_same
        · rw [List.map_append, em, take_snoc hy, List.map_append]
          rfl
      · rintro H2 ⟨s2, ts, e2, et, em⟩
        rw [List.length_map, List.take_length] at em
        refine q H2 L ts (s1.trans s2) (none_of_same s1 hL) e2 (fun c hc => SqT.of (et c hc)) ?_
        unfold parts
        rw [if_pos ti]
        exact em
    · refine ⟨_, rfl, by show 1 ≤ sizeLine; decide, fun l hl => ?_⟩
      refine q _ l [(t, C)] (s1.trans (same_upd hl)) (none_of_same s1 hl) upd_same (fun c hc => by rw [List.mem_singleton.mp hc]; exact sqT_same (same_upd hl) hC1) ?_
      unfold parts
      rw [if_neg fun e => z (decide_eq_true e)]
      rfl
open Classical in
noncomputable def mutB (n : Int) (D : List (Int × Int)) (P G : List (Str × Int)) : Bool := decide (Mutl n D P G)
open Classical in
theorem mutB_iff {n : Int} {D : List (Int × Int)} {P G : List (Str × Int)} : mutB n D P G = true ↔ Mutl n D P G := by
  unfold mutB
  exact decide_eq_true_iff
def spMutual : Sp := fun vs H Q _ => ∃ (h p g : Addr) (n : Int) (D : List (Int × Int)) (P G : List (Str × Int)), vs = [.ref h, .ref p, .ref g] ∧ HouseAt H h n D ∧ Forest n D ∧ 0 ≤ n ∧ n ≤ 8 ∧ PlAt H p P ∧ PlAt H g G ∧ Pl n P ∧ Pl n G ∧ P.length ≤ 100 ∧ G.map (·.1) = P.map (·.1) ∧
  ∀ H', Same H H' → Q (.bl (mutB n D P G)) H'
abbrev nMutual : List Str := ["house", "one", "other", "regions", "region", "part"]
theorem scMutual : FnScope nMutual ["house", "one", "other"] (defScope sMutual) := ⟨rfl, rfl, rfl, by decide +kernel, rfl, by decide +kernel, by decide +kernel⟩
abbrev pMutual : List Str := ["house", "one", "other"]
theorem ok_mutual {f : Addr} {fd : FuncData} {k : Nat} (F : Fun K "mutually_reachable" "mutually_reachable" sMutual f fd) (T : Nm mg) (Cfind_regions : Cal P w K mg base (k + 4) "find_regions" pHP spFReg) (Clasting_parts : Cal P w K mg base (k + 4) "lasting_parts" pLasting (spLasting K)) (Csame_people : Cal P w K mg base (k + 4) "same_people" pSameP (spSameP K)) : FnOk P w K mg base CX0 (k + 5) f fd pMutual spMutual := by
  refine F.ok scMutual (fun vs H Q E h => ?_) (fun cdv A outer s H vs Q E hr h => ?_)
  · obtain ⟨h, p, g, n, D, P, G, rfl, _⟩ := h
    rfl
  · obtain ⟨h, p, g, n, D, P, G, rfl, hH, hF, n0, n1, hP, hG, pl, plG, lP, nm, q⟩ := h
    refine ⟨_, (pss_cons (ps_set (i := 3) scMutual.nd rfl (.inl rfl) (pe_cal Cfind_regions hr (by rfl) (pa_cons (pv 0) (pa_cons (pv 1) pa_nil))))
      (pss_cons (ps_if (pt_cmpR (op_neDK K rfl hr.units) (pe_cal Cfind_regions hr (by rfl) (pa_cons (pv 0) (pa_cons (pv 2) pa_nil))) (pv 3) (nomark _))
      (pss_one (ps_ret pe_bl))
      pss_nil)
      (pss_one (ps_ret (pe_callB (cr_all rfl) (by rfl) T.all (by decide +kernel) (pa_cons (pe_lc2 (own := [("region", 4), ("part", 5)]) (vs1 := [5]) (g := gName 4) (g1 := gName 5) (by rfl) scMutual.nd (pi_tupK K rfl (pv 3))
 (blkOk_by (own := [("region", 4), ("part", 5)]) (N := nMutual) (sc := defScope sMutual) (by decide +kernel)) (by decide)
 (fun _ _ _ _ _ => (pg_name (i := 4) scMutual.nd rfl (.inl rfl))) (fun _ _ _ _ _ => pts_nil)
 (fun _ _ _ _ _ => (pi_listK K rfl (pe_cal Clasting_parts hr (by rfl) (pa_cons (pv 1) (pa_cons (pv 4) pa_nil)))))
 (fun _ _ _ _ _ => (pg_name (i := 5) scMutual.nd rfl (.inl rfl))) (fun _ _ _ _ _ => pts_nil)
 (fun _ _ _ _ _ => (pe_cal Csame_people hr (by rfl) (pa_cons (pv 1) (pa_cons (pv 2) (pa_cons (pv 5) pa_nil)))))) pa_nil)))))), ?_⟩
    have lG : G.length = P.length := by
      have := congrArg List.length nm
      rw [List.length_map, List.length_map] at this
      exact this
    refine ⟨_, rfl, _, rfl, h, p, n, D, P, rfl, hH, hF, n0, n1, hP, lP, fun H1 t Cs s1 rg => ?_⟩
    refine ⟨_, rfl, _, rfl, h, g, n, D, G, rfl, hH.same s1, hF, n0, n1, hG.same s1, by omega, fun H2 t2 Cs2 s2 rg2 => ?_⟩
    have rgS := rg.same s2
    refine ⟨_, rfl, .tuple (Cs2.map fun c => .tuple (c.2.map .int)), .tuple (Cs.map fun c => .tuple (c.2.map .int)), .tup (SqT.of rg2.1) (dpR fun c hc => (rg2.2.1 c hc).1), .tup (SqT.of rgS.1) (dpR fun c hc => (rgS.2.1 c hc).1), shapedR Cs2, shapedR Cs, _, rfl, ?_⟩
    have ev : PyData.eqv (.tuple (Cs2.map fun c => .tuple (c.2.map .int))) (.tuple (Cs.map fun c => .tuple (c.2.map .int))) = decide (Cs2.map (·.2) = Cs.map (·.2)) := by
      rw [PyData.eqv]
      exact eqvA_rgs _ _
    rw [ev]
    have s12 := s1.trans s2
    obtain ⟨et, tC, lC, RC⟩ := rgS
    obtain ⟨_, _, _, RG⟩ := rg2
    by_cases same : Cs2.map (·.2) = Cs.map (·.2)
    · rw [decide_eq_true same]
      refine iteF ?_
      have oc : ∀ x, x ∈ P.map (·.2) ↔ x ∈ G.map (·.2) := fun x => by
        rw [← pl.mem_occ, ← plG.mem_occ, ← RC.flat_mem (occ_up n P), ← RG.flat_mem (occ_up n G), same]
      have key := mutl_parts nm pl plG RC oc
      have hP2 := hP.same s12
      have hG2 := hG.same s12
      refine ⟨_, rfl, t, rfl, ⟨_, SqT.of et⟩, fun L hL => walk_tup (K := K) (a := t) (xs := refs Cs) (fun i H' => Same H2 H' ∧ ∃ bs : List Bool, H' L = some (.lst (bs.map V.bl)) ∧ (bs.all id = true ↔ ∀ C ∈ (Cs.take i).map (·.2), ∀ S ∈ parts P C, inside P S = inside G S) ∧ bs.length ≤ 8 * i)
        ⟨same_upd hL, [], upd_same, ⟨fun _ C hC => (by cases hC), fun _ => rfl⟩, Nat.le_refl _⟩ (fun i H' _ hh => SqT.of (hh.1 _ _ et)) ?_ ?_⟩
      · rintro i x H' hx ⟨s', bs, eb, hb, lb⟩
        obtain ⟨c, hc, rfl⟩ := get_refs hx
        have il := lt_of_get hc
        have hcm := List.mem_of_getElem? hc
        have lc : c.2.length ≤ 8 := by
          obtain ⟨r, hr, ic⟩ := (RC.mem c.2).mp (List.mem_map_of_mem (f := (·.2)) hcm)
          have a := nodup_leS (up_nodup ic.up) fun v hv => ic.sub hr v hv
          have b := occ_len n P
          omega
        refine ⟨rfl, tYes_go (iteT ?_)⟩
        refine ⟨_, rfl, _, rfl, p, c.1, P, c.2, rfl, hP2.same s', lP, SqT.of (s' _ _ (tC c hcm).1), lc, fun H3 l ts s3 nl e3 et3 em => ⟨l, rfl, ⟨_, SqL.of e3⟩, ?_⟩⟩
        have eb3 := s3 _ _ eb
        have nlL : l ≠ L := fun e => by
          rw [e, eb] at nl
          cases nl
        have lt8 : ts.length ≤ 8 := by
          have := parts_small (P := P) lc
          rw [← em, List.length_map] at this
          exact this
        refine walk_lst (K := K) (a := l) (xs := ts.map fun c => V.ref c.1) (fun j H' => Tk H3 H' ∧ Same H2 H' ∧ H' l = some (.lst (ts.map fun c => V.ref c.1)) ∧ ∃ bs' : List Bool, H' L = some (.lst (bs'.map V.bl)) ∧ (bs'.all id = true ↔ bs.all id = true ∧ ∀ S ∈ (ts.take j).map (·.2), inside P S = inside G S) ∧ bs'.length ≤ bs.length + j)
          ⟨Tk.refl, s'.trans s3, e3, bs, eb3, ⟨fun a => ⟨a, fun S hS => (by cases hS)⟩, fun a => a.1⟩, Nat.le_refl _⟩ (fun j H' _ hh => SqL.of hh.2.2.1) ?_ ?_
        · rintro j x H4 hx ⟨t4, s4, e4, bs', eb4, hb4, lb4⟩
          rw [List.getElem?_map] at hx
          cases hd : ts[j]? with
          | none => rw [hd] at hx; cases hx
          | some d =>
            rw [hd] at hx
            obtain rfl : V.ref d.1 = x := Option.some.inj hx
            have jl := lt_of_get hd
            refine ⟨rfl, tYes_go (iteT ⟨_, rfl, _, rfl, _, rfl, p, g, d.1, n, P, G, d.2, rfl, hP2.same s4, hG2.same s4, pl, plG, lP, by omega, sqT_tks t4 (et3 d (List.mem_of_getElem? hd)), fun H5 s5 => ?_⟩)⟩
            have eb5 := s5 _ _ eb4
            refine ⟨_, eb5, by rw [List.length_map]; exact small1000 (by omega), (t4.trans (Tk.of s5)).put eb5, same_put (s4.trans s5) hL, ?_, bs' ++ [decide (inside P d.2 = inside G d.2)], ?_, ?_, by rw [List.length_append, List.length_singleton]; omega⟩
            · rw [upd_ne nlL]
              exact s5 _ _ e4
            · rw [upd_same, List.map_append]
              rfl
            · rw [List.all_append, Bool.and_eq_true, hb4, take_snoc hd, List.map_append]
              constructor
              · rintro ⟨⟨a1, a2⟩, a3⟩
                refine ⟨a1, fun S hS => ?_⟩
                rcases List.mem_append.mp hS with m | m
                · exact a2 S m
                · rw [List.mem_singleton.mp m]
                  simpa using a3
              · rintro ⟨a1, a2⟩
                refine ⟨⟨a1, fun S hS => a2 S (List.mem_append_left _ hS)⟩, ?_⟩
                have := a2 d.2 (List.mem_append_right _ (List.mem_singleton.mpr rfl))
                simpa using this
        · rintro H4 ⟨t4, s4, e4, bs', eb4, hb4, lb4⟩
          rw [List.length_map] at hb4 lb4
          rw [List.take_length, em] at hb4
          refine ⟨s4, bs', eb4, ?_, by omega⟩
          rw [hb4, hb, take_snoc hc, List.map_append]
          constructor
          · rintro ⟨a1, a2⟩ C hC
            rcases List.mem_append.mp hC with m | m
            · exact a1 C m
            · rw [List.mem_singleton.mp m]
              exact a2
          · intro a
            exact ⟨fun C hC => a C (List.mem_append_left _ hC), a c.2 (List.mem_append_right _ (List.mem_singleton.mpr rfl))⟩
      · rintro H3 ⟨s3, bs, eb, hb, _⟩
        have : (refs Cs).length = Cs.length := by unfold refs; rw [List.length_map]
        rw [this, List.take_length, ← key] at hb
        refine ⟨L, bs, rfl, SqL.of eb, ?_⟩
        have e : bs.all id = mutB n D P G := by rw [Bool.eq_iff_iff, hb, mutB_iff]
        rw [e]
        exact q _ (s12.trans s3)
    · rw [decide_eq_false same]
      have e : mutB n D P G = false := by
        refine Bool.eq_false_iff.mpr fun z => same ?_
        have m := mutB_iff.mp z
        have oc := same_occ (n := n) m.1
        rw [← oc] at RG
        exact RG.uniq RC
      rw [e] at q
      exact iteT (q _ s12)
end
end Fw
namespace Fw
open PySem PySem.Spec PyProof.Rows L2
/-! sorted of anything that reads as data -/
theorem each_vals : ∀ {zs : List (V × PyData)} {us : List Value}, Vals (zs.map (·.1)) us → PySem.W.EachIs (fun u z => RelV z.1 u) us zs
  | [], _, r => by cases r; exact .nil
  | z :: zs, _, r => by
    cases r with
    | cons r t => exact .cons r (each_vals t)
theorem vals_each : ∀ {us : List Value} {zs : List (V × PyData)}, PySem.W.EachIs (fun u (z : V × PyData) => RelV z.1 u) us zs → Vals (zs.map (·.1)) us
  | _, _, .nil => .nil
  | _, _, .cons r t => .cons r (vals_each t)
theorem each_reads {X : Cx} {pins : List (Addr × Obj)} {σ : L2.St} {H : Hp} {s : Shared} {h' : Heap} (I : Inv X pins σ H s) (k : ∀ b o, s.heap.get? b = some o → h'.get? b = some o) :
    ∀ {us : List Value} {zs : List (V × PyData)}, PySem.W.EachIs (fun u (z : V × PyData) => RelV z.1 u) us zs → (∀ z ∈ zs, Dp X.K H z.1 z.2) → PySem.W.EachIs (fun u (z : V × PyData) => ∃ as, Reads h' u z.2 as) us zs
  | _, [], .nil, _ => .nil
  | _, z :: zs, .cons r t, hd => by
    obtain ⟨as, r2⟩ := Dp.reads I z.2 z.1 _ (hd z (List.mem_cons_self ..)) r
    exact .cons ⟨as, Reads.keeps k r2⟩ (each_reads I k t fun y hy => hd y (List.mem_cons_of_mem _ hy))
/-- the sorted list -/
def srt (zs : List (V × PyData)) : List (V × PyData) := zs.mergeSort (PySem.W.dataLe false (·.2))
def rSortDat (K : PySem.W.Frag) : List V → Hp → VK → Prop := fun vs H Q => ∃ (a : Addr) (zs : List (V × PyData)), vs = [.ref a] ∧ (SqL K H a (zs.map (·.1)) ∨ SqT K H a (zs.map (·.1))) ∧ (∀ z ∈ zs, Dp K H z.1 z.2) ∧
  PySem.W.AllAlike (zs.map (·.2)) ∧ PySem.W.Sortable (zs.map (·.2)) ∧ (∀ z ∈ zs, z.2.depth ≤ 60) ∧ ∀ p, H p = none → Q (.ref p) (upd H p (.lst ((srt zs).map (·.1))))
theorem cr_sortedDat {X : Cx} (K : PySem.W.Frag) (hK : X.K = K) (hu : X.A.units + 64 < cLine) : CallR X (.builtin "sorted") (rSortDat K) := by
  subst hK
  rintro pins s σ H vs us Q I r ⟨a, zs, rfl, hs, hd, al, so, dp, q⟩
  obtain ⟨u, rfl, ru⟩ := vals1 r
  cases (show u = Value.ref a from ru)
  obtain ⟨its, rv, hz, col⟩ : ∃ its : List Value, Vals (zs.map (·.1)) its ∧ its.length ≤ sizeLine ∧ ∀ (G : List Value → Shared → Prop) (E : Value → Shared → Prop),
      (∀ h' : Heap, (∀ b o, s.heap.get? b = some o → h'.get? b = some o) → G its { s with heap := h' }) → wpAny (model X.prog X.w) X.A.in1 (collect (.ref a)) G E s := by
    rcases hs with hs | hs
    · obtain ⟨its, rv, ⟨o, n, ho, hc, _, hd⟩, hz⟩ := I.list hs
      rw [rv.length] at hz
      refine ⟨its, rv, hz, fun G E g => wpAny_collect_seq a (.inl rfl) ho hc hd (fun h' k => ?_) (by rw [List.size_toArray]; exact hz)⟩
      rw [List.toList_toArray]
      exact g h' k
    · obtain ⟨its, rv, ⟨o, ho, hc, n, hd⟩, hz⟩ := I.tuple hs
      rw [rv.length] at hz
      refine ⟨its, rv, hz, fun G E g => wpAny_collect_seq a (.inr rfl) ho hc hd (fun h' k => ?_) (by rw [List.size_toArray]; exact hz)⟩
      rw [List.toList_toArray]
      exact g h' k
  refine Calls.call_function_entry kind_sorted plain_sorted entry_sorted (args_sorted1 _) ?_
  show wpAny (model X.prog X.w) X.A.in1 (Builtin.«sorted» _) _ _ _
  unfold Builtin.«sorted»
  refine wpAny_bind (m := checkCount "sorted" 1 1 _) (wpAny_pure (wpAny_bind (col _ _ fun h' kp => ?_)))
  refine wpAny_bind (wpAny_newList ?_ hz)
  have at0 : (h'.push (seqObj "list" its.toArray 0)).get? h'.objs.size = some (seqObj "list" its.toArray 0) := Heap.get?_push_size _ rfl
  have ee := each_vals rv
  have keep : ∀ b o, s.heap.get? b = some o → (PySem.W.sortingHeap (h'.push (seqObj "list" its.toArray 0)) h'.objs.size its).get? b = some o := fun b o e => by
    have e1 := kp b o e
    have nb : b ≠ h'.objs.size := Nat.ne_of_lt (Heap.lt_size e1)
    exact Heap.get?_push_of_some _ (Heap.get?_push_of_some _ ((Heap.get?_update_ne _ _ _ _ nb).trans (Heap.get?_push_of_some _ e1)))
  have er := each_reads I keep ee hd
  have S := PySem.W.SortsAt.data (prog := X.prog) (w := X.w) (A := X.A.in1.in1) (s := { s with heap := PySem.W.sortingHeap (h'.push (seqObj "list" its.toArray 0)) h'.objs.size its }) (PySem.W.each_map (R := fun v d => ∃ as, Reads (PySem.W.sortingHeap (h'.push (seqObj "list" its.toArray 0)) h'.objs.size its) v d as) (fun z : V × PyData => z.2) er) al so (fun d hd => by
    obtain ⟨z, hz, rfl⟩ := List.mem_map.mp hd
    have := dp z hz
    show X.A.units + 1 + 1 + z.2.depth < cLine
    omega)
  refine wpAny_bind (wpAny_holding (wpAny_call_entry slot_list_sort ⟨_, at0, rfl⟩ entry_list_sort (PySem.W.list_sort_vals at0 S hz ?_) (args_list_sort _)))
  refine ⟨_, rfl, wpAny_pure ⟨_, rfl, ?_⟩⟩
  have out := vals_each (PySem.W.sortVals_data false ee er al)
  generalize hO : PySem.W.sortVals (PySem.W.dataKind (PySem.W.sortingHeap (h'.push (seqObj "list" its.toArray 0)) h'.objs.size its) (zs.map (·.2))) false its its = O at out
  have hO' : PySem.W.sortVals (PySem.W.dataKind (PySem.W.sortingHeap (h'.push (seqObj "list" its.toArray 0)) h'.objs.size its) (zs.map fun x => x.2)) false its its = O := hO
  obtain ⟨e', he'⟩ := sortedHeap_at (vs := its) (out := O.toArray) at0
  have I1 : Inv X pins σ H { s with heap := h' } := I.kept (t' := s.toks) kp
  refine ⟨.ref h'.objs.size, upd H h'.objs.size (.lst ((srt zs).map (·.1))), I1.laid (t' := s.toks) (o := .lst ((srt zs).map (·.1))) (fun b u e => ?_) (Nat.le_refl _) ⟨?_, O, e', out, he'⟩, rfl, q _ (I1.hok.fresh (Nat.le_refl _))⟩
  · have lt := Heap.lt_size e
    rw [sortedHeap_old (Nat.ne_of_lt lt) (by rw [size_push']; exact Nat.lt_succ_of_lt lt)]
    exact Heap.get?_push_of_some _ e
  · have h1 := rv.length
    rw [List.length_map] at h1 ⊢
    unfold srt
    rw [List.length_mergeSort]
    omega
/-! text * number -/
def repS (z : Str) (k : Nat) : Str := ⟨(List.replicate k z.cps).foldl (· ++ ·) #[]⟩
theorem op_mulS {X : Cx} : OpR X (binaryOp .Mult) (fun x y H Q => ∃ (z : Str) (k : Int), x = .str z ∧ y = .int k ∧ 2 ≤ k ∧ k ≤ 1000 ∧ 1 ≤ z.length ∧ z.length ≤ 1000 ∧ (repS z k.toNat).length ≤ sizeLine ∧ Q (.str (repS z k.toNat)) H) := by
  rintro pins s σ H x y v u Q I rx ry ⟨z, k, rfl, rfl, k0, k1, z0, z1, zz, q⟩
  obtain ⟨t, rfl⟩ := rx
  obtain ⟨t', rfl⟩ := ry
  have b : ¬ k < 1 := by omega
  have e : (k == 1 || z.length == 0) = false := by
    rw [beq_eq_false_iff_ne.mpr (show k ≠ 1 by omega), beq_eq_false_iff_ne.mpr (show z.length ≠ 0 by omega)]
    rfl
  refine P.mul_str (by rw [decide_eq_false (by omega), decide_eq_false (by omega)]; rfl) (fun _ _ => ?_) (fun _ _ => ?_) ?_
  · have h1 : (z.length : Int) * k ≤ 1000 * 1000 := Int.mul_le_mul (by omega) k1 (by omega) (by omega)
    have h2 : (z.length : Int) ≤ (2 ^ 63 - 1) / k := (Int.le_ediv_iff_mul_le (by omega)).mpr (by omega)
    omega
  · unfold Builtin.Str.tooLong
    have h1 : z.length * k.toNat ≤ 1000 * 1000 := Nat.mul_le_mul z1 (by omega)
    have := sizeLine_eq
    exact decide_eq_false (by omega)
  · rw [if_neg b, e, if_neg (by decide)]
    exact ⟨zz, .str (repS z k.toNat), H, I.tok _, ⟨_, rfl⟩, q⟩
/-! a placement, sorted -/
theorem pp_le {a b : Str × Int} (h : PySem.W.dataLe false pp a b = true) (n : a.1 ≠ b.1) : ltS a.1 b.1 := by
  have h : (!PySem.W.dataLt (pp b) (pp a)) = true := h
  have e : PySem.W.dataLt (pp b) (pp a) = PySem.W.dataLt (.str b.1) (.str a.1) := by
    unfold pp
    rw [PySem.W.dataLt_pair (by simp [PySem.W.alike]) (by simp [PySem.W.alike]), if_neg]
    simp only [PyData.eqv]
    intro z
    exact n (by simpa using z : b.1 = a.1).symm
  rw [e] at h
  have h2 : PySem.W.dataLe false (fun x : Str × Int => .str x.1) a b = true := h
  rw [PySem.W.dataLe_str] at h2
  have h2 : a.1.cps.toList ≤ b.1.cps.toList := of_decide_eq_true h2
  exact ltS_of (Std.not_lt.mpr h2) n
theorem sort_pl {K : PySem.W.Frag} {H : Hp} {c : Addr} {ps : List (Addr × Str × Int)} {Q : VK} (hc : SqL K H c (ps.map fun q => V.ref q.1) ∨ SqT K H c (ps.map fun q => V.ref q.1)) (hp : ∀ q ∈ ps, H q.1 = some (.tup [.str q.2.1, .int q.2.2]))
    (h : ∀ (p : Addr) (qs : List (Addr × Str × Int)), H p = none → qs.Perm ps → qs.Pairwise (fun a b => a.2.1 ≠ b.2.1 → ltS a.2.1 b.2.1) → Q (.ref p) (upd H p (.lst (qs.map fun q => V.ref q.1)))) : rSortDat K [.ref c] H Q := by
  have e1 : (ps.map fun q => (V.ref q.1, pp q.2)).map (·.1) = ps.map fun q => V.ref q.1 := by rw [List.map_map]; rfl
  have e2 : (ps.map fun q => (V.ref q.1, pp q.2)).map (·.2) = ps.map fun q => pp q.2 := by rw [List.map_map]; rfl
  refine ⟨c, ps.map fun q => (V.ref q.1, pp q.2), rfl, by rw [e1]; exact hc, fun z hz => ?_, ?_, ?_, fun z hz => ?_, fun p hn => ?_⟩
  · obtain ⟨q, hq, rfl⟩ := List.mem_map.mp hz
    exact .tup (SqT.of (hp q hq)) (.cons (.str _) (.cons (.int _) .nil))
  · rw [e2]
    exact PySem.W.AllAlike.of (enc := fun q : Addr × Str × Int => pp q.2) fun a b => by simp [pp, PySem.W.alike, PySem.W.alikeAll]
  · rw [e2]
    exact PySem.W.Sortable.tuples (enc := fun q : Addr × Str × Int => pp q.2) fun b => ⟨_, _, rfl⟩
  · obtain ⟨q, hq, rfl⟩ := List.mem_map.mp hz
    simp [pp, PyData.depth, PyData.depthAll]
  · have es : srt (ps.map fun q => (V.ref q.1, pp q.2)) = (ps.mergeSort (PySem.W.dataLe false fun q : Addr × Str × Int => pp q.2)).map fun q => (V.ref q.1, pp q.2) :=
      (PySem.W.sort_maps (f := fun q : Addr × Str × Int => (V.ref q.1, pp q.2)) fun a _ b _ => rfl).symm
    rw [es, List.map_map]
    refine h p _ hn (List.mergeSort_perm _ _) ?_
    have tot : PySem.W.TotalLe (PySem.W.dataLe false fun q : Addr × Str × Int => pp q.2) := PySem.W.sortLe_total (listOrd itemOrd) false fun q : Addr × Str × Int => PySem.W.keyToks (pp q.2)
    exact (PySem.W.sort_pairwise tot ps).imp fun {a b} z n => pp_le (a := a.2) (b := b.2) z n
theorem pl_add {n r : Int} {P P' : List (Str × Int)} {nm : Str} (pl : Pl n P) (hn : Nam nm) (no : nm ∉ P.map (·.1)) (r0 : 0 ≤ r) (r1 : r < n) (pm : P'.Perm (P ++ [(nm, r)])) (so : P'.Pairwise (fun a b => a.1 ≠ b.1 → ltS a.1 b.1)) : Pl n P' := by
  have nd : (P'.map (·.1)).Nodup := by
    rw [(pm.map (·.1)).nodup_iff, List.map_append, List.nodup_append]
    refine ⟨pl.nodup, by simp, fun a ha b hb e => ?_⟩
    rw [List.map_cons, List.map_nil, List.mem_singleton] at hb
    rw [e, hb] at ha
    exact no ha
  refine ⟨⟨fun x hx => ?_, ?_⟩, fun x hx => ?_⟩
  · have := (pm.map (·.1)).mem_iff.mp hx
    rw [List.map_append, List.mem_append] at this
    rcases this with m | m
    · exact pl.nm.nam x m
    · rw [List.map_cons, List.map_nil, List.mem_singleton] at m
      rw [m]
      exact hn
  · rw [List.pairwise_map]
    rw [List.nodup_iff_pairwise_ne, List.pairwise_map] at nd
    exact (so.and nd).imp fun {a b} z => z.1 z.2
  · rcases List.mem_append.mp (pm.mem_iff.mp hx) with m | m
    · exact pl.rm x m
    · rw [List.mem_singleton.mp m]
      exact ⟨r0, r1⟩
end Fw
namespace Fw
open PySem PySem.Spec PyProof.Rows L2 SrtO
/-! len and sorted of a dict keyed by placements -/
theorem src_dict {prog : Program} {w : World} {d : Addr} {es : Array DictEntry} {ep : Nat} (hd : (d == sysModules) = false) :
    PySem.W.KdlSrc prog w "dict" d d es.size (fun i v => ∃ hi : i < es.size, v = es[i].key) (fun h => h.DictRaw d es ep) := by
  have lt : ∀ {h : Heap}, h.DictRaw d es ep → d < h.objs.size := fun ⟨_, ho, _⟩ => Heap.lt_size ho
  exact {
    iter := fun _ s hh hm => ⟨_, _, fun _ _ hq => wpAny_pyIter_dict_raw hd hm hq, Walks.rawKeys hh _ d (Nat.ne_of_lt (lt hm)) es ep, ⟨⟨_, Heap.get?_push_size _ rfl, rfl, rfl⟩, hm.at fun _ e => Heap.get?_push_of_some _ e⟩⟩
    hint := fun _ _ _ _ hm hq => PySem.W.kdl_hint_dict hm.typeIs hq
    keep := fun _ _ hm hk => hm.at fun o e => hk d (.inr rfl) o e
    there := fun _ hm => ⟨lt hm, lt hm⟩
    type := fun _ hm => hm.typeIs
    notTuple := by decide
    notList := by decide }
section
variable {X : Cx}
/-- sorted of what collects to data -/
theorem sorted_dat {pins : List (Addr × Obj)} {σ : L2.St} {s : Shared} {H : Hp} {a : Addr} {zs : List (V × PyData)} {its : List Value} {Q : VK} (hu : X.A.units + 64 < cLine) (I : Inv X pins σ H s) (rv : Vals (zs.map (·.1)) its) (hz : its.length ≤ sizeLine)
    (col : ∀ (G : List Value → Shared → Prop) (E : Value → Shared → Prop), (∀ (h' : Heap) (tk : Nat), (∀ b o, s.heap.get? b = some o → h'.get? b = some o) → G its { s with heap := h', toks := tk }) → wpAny (model X.prog X.w) X.A.in1 (collect (.ref a)) G E s)
    (hd : ∀ z ∈ zs, Dp X.K H z.1 z.2) (al : PySem.W.AllAlike (zs.map (·.2))) (so : PySem.W.Sortable (zs.map (·.2))) (dp : ∀ z ∈ zs, z.2.depth ≤ 60)
    (q : ∀ p, H p = none → Q (.ref p) (upd H p (.lst ((srt zs).map (·.1))))) :
    wpAny (model X.prog X.w) X.A (call (.builtin "sorted") [.ref a]) (fun v s' => ∃ x H', Inv X pins σ H' s' ∧ RelV x v ∧ Q x H') X.xe s := by
  refine Calls.call_function_entry kind_sorted plain_sorted entry_sorted (args_sorted1 _) ?_
  show wpAny (model X.prog X.w) X.A.in1 (Builtin.«sorted» _) _ _ _
  unfold Builtin.«sorted»
  refine wpAny_bind (m := checkCount "sorted" 1 1 _) (wpAny_pure (wpAny_bind (col _ _ fun h' tk kp => ?_)))
  refine wpAny_bind (wpAny_newList ?_ hz)
  have at0 : (h'.push (seqObj "list" its.toArray 0)).get? h'.objs.size = some (seqObj "list" its.toArray 0) := Heap.get?_push_size _ rfl
  have ee := each_vals rv
  have keep : ∀ b o, s.heap.get? b = some o → (PySem.W.sortingHeap (h'.push (seqObj "list" its.toArray 0)) h'.objs.size its).get? b = some o := fun b o e => by
    have e1 := kp b o e
    have nb : b ≠ h'.objs.size := Nat.ne_of_lt (Heap.lt_size e1)
    exact Heap.get?_push_of_some _ (Heap.get?_push_of_some _ ((Heap.get?_update_ne _ _ _ _ nb).trans (Heap.get?_push_of_some _ e1)))
  have er := each_reads I keep ee hd
  have S := PySem.W.SortsAt.data (prog := X.prog) (w := X.w) (A := X.A.in1.in1) (s := { s with toks := tk, heap := PySem.W.sortingHeap (h'.push (seqObj "list" its.toArray 0)) h'.objs.size its }) (PySem.W.each_map (R := fun v d => ∃ as, Reads (PySem.W.sortingHeap (h'.push (seqObj "list" its.toArray 0)) h'.objs.size its) v d as) (fun z : V × PyData => z.2) er) al so (fun d hd => by
    obtain ⟨z, hz, rfl⟩ := List.mem_map.mp hd
    have := dp z hz
    show X.A.units + 1 + 1 + z.2.depth < cLine
    omega)
  refine wpAny_bind (wpAny_holding (wpAny_call_entry slot_list_sort ⟨_, at0, rfl⟩ entry_list_sort (PySem.W.list_sort_vals at0 S hz ?_) (args_list_sort _)))
  refine ⟨_, rfl, wpAny_pure ⟨_, rfl, ?_⟩⟩
  have out := vals_each (PySem.W.sortVals_data false ee er al)
  generalize hO : PySem.W.sortVals (PySem.W.dataKind (PySem.W.sortingHeap (h'.push (seqObj "list" its.toArray 0)) h'.objs.size its) (zs.map (·.2))) false its its = O at out
  have hO' : PySem.W.sortVals (PySem.W.dataKind (PySem.W.sortingHeap (h'.push (seqObj "list" its.toArray 0)) h'.objs.size its) (zs.map fun x => x.2)) false its its = O := hO
  obtain ⟨e', he'⟩ := sortedHeap_at (vs := its) (out := O.toArray) at0
  have I1 : Inv X pins σ H { s with heap := h', toks := tk } := I.kept (t' := tk) kp
  refine ⟨.ref h'.objs.size, upd H h'.objs.size (.lst ((srt zs).map (·.1))), I1.laid (t' := tk) (o := .lst ((srt zs).map (·.1))) (fun b u e => ?_) (Nat.le_refl _) ⟨?_, O, e', out, he'⟩, rfl, q _ (I1.hok.fresh (Nat.le_refl _))⟩
  · have lt := Heap.lt_size e
    rw [sortedHeap_old (Nat.ne_of_lt lt) (by rw [size_push']; exact Nat.lt_succ_of_lt lt)]
    exact Heap.get?_push_of_some _ e
  · have h1 := rv.length
    rw [List.length_map] at h1 ⊢
    unfold srt
    rw [List.length_mergeSort]
    omega
/-- sorted of what collects to one value or none -/
theorem sorted_short {pins : List (Addr × Obj)} {σ : L2.St} {s : Shared} {H : Hp} {a : Addr} {xs : List V} {its : List Value} {Q : VK} (I : Inv X pins σ H s) (rv : Vals xs its) (hz : its.length ≤ 1)
    (col : ∀ (G : List Value → Shared → Prop) (E : Value → Shared → Prop), (∀ (h' : Heap) (tk : Nat), (∀ b o, s.heap.get? b = some o → h'.get? b = some o) → G its { s with heap := h', toks := tk }) → wpAny (model X.prog X.w) X.A.in1 (collect (.ref a)) G E s)
    (q : ∀ p, H p = none → Q (.ref p) (upd H p (.lst xs))) :
    wpAny (model X.prog X.w) X.A (call (.builtin "sorted") [.ref a]) (EP X pins σ Q) X.xe s := by
  have ll : its.length ≤ sizeLine := Nat.le_trans hz (by show 1 ≤ sizeLine; decide)
  refine sorted_any swo_int (fun us z => us = its ∧ Inv X pins σ H z ∧ z = { s with heap := z.heap, toks := z.toks }) (col _ _ fun h' tk kp => ⟨rfl, I.kept kp, rfl⟩) (fun vs z g => by rw [g.1]; exact ll) (fun vs z g h2 => by rw [g.1] at h2; omega) ?_
  rintro us z out ⟨rfl, J, ez'⟩ h1 h2
  have same : out = us := by
    have p := h2.perm
    match us, hz, p with
    | [], _, p => exact List.perm_nil.mp p
    | [x], _, p => exact List.perm_singleton.mp p
  rw [same]
  have at0 : (z.heap.push (seqObj "list" us.toArray 0)).get? z.heap.objs.size = some (seqObj "list" us.toArray 0) := Heap.get?_push_size _ rfl
  obtain ⟨e', he'⟩ := sortedHeap_at (vs := us) (out := us.toArray) at0
  refine ⟨.ref z.heap.objs.size, upd H z.heap.objs.size (.lst xs), J.laid (t' := z.toks) (fun b u e => ?_) (Nat.le_refl _) ⟨?_, us, e', rv, he'⟩, rfl, q _ (J.hok.fresh (Nat.le_refl _))⟩
  · have lt := Heap.lt_size e
    rw [sortedHeap_old (Nat.ne_of_lt lt) (by rw [size_push']; exact Nat.lt_succ_of_lt lt)]
    exact Heap.get?_push_of_some _ e
  · have := rv.length
    omega
theorem paired_len {α β : Type} {F : α → β → Prop} : ∀ {xs : List α} {ys : List β}, Paired F xs ys → xs.length = ys.length
  | _, _, .nil => rfl
  | _, _, .cons _ r => congrArg Nat.succ (paired_len r)
theorem call_lenP {X : Cx} : CallR X (.builtin "len") (fun xs H Q => ∃ (d : Addr) (ks : List (List (Str × Int) × V)), xs = [.ref d] ∧ DnAt X.prog X.w H d ks ∧ Q (.int ks.length) H) := by
  intro pins s σ H xs us Q I r h
  obtain ⟨d, ks, rfl, hd, q⟩ := h
  rw [Vals.ref1 r]
  obtain ⟨xs, e, pr, hm⟩ := hd.keyed I
  have l := paired_len pr
  have z := hd.z
  refine call_len_dictH (by simpa using hd.no) hm (by rw [← l]; have := sizeLine_eq; omega) ?_
  exact ⟨.int ks.length, H, I.tok _, ⟨_, by rw [← l]⟩, q⟩
/-- sorted(d): the keys in some order -/
def rSortP (P : Program) (w : World) : List V → Hp → VK → Prop := fun vs H Q => ∃ (d : Addr) (ks : List (List (Str × Int) × V)), vs = [.ref d] ∧ DnAt P w H d ks ∧ ((∀ p ∈ ks, p.1 ≠ []) ∨ ks.length ≤ 1) ∧
  ∀ p (bs : List (Addr × List (Str × Int))), H p = none → (bs.map (·.2)).Perm (ks.map (·.1)) → (∀ b ∈ bs, PlAt H b.1 b.2) → Q (.ref p) (upd H p (.lst (bs.map fun b => V.ref b.1)))
theorem keys_of {H : Hp} : ∀ {ks : List (List (Str × Int) × V)} {xs : List (NestedKey × Addr × Value)}, Paired (DnE H) ks xs → ∃ bs : List (Addr × List (Str × Int)), bs.map (·.2) = ks.map (·.1) ∧ (∀ b ∈ bs, PlAt H b.1 b.2) ∧ bs.map (·.1) = xs.map fun x => x.2.1
  | _, _, .nil => ⟨[], rfl, (fun _ h => nomatch h), rfl⟩
  | k :: ks, x :: xs, .cons h r => by
    obtain ⟨bs, b1, b2, b3⟩ := keys_of r
    refine ⟨(x.2.1, k.1) :: bs, by rw [List.map_cons, b1]; rfl, fun b hb => ?_, by rw [List.map_cons, b3]; rfl⟩
    rcases List.mem_cons.mp hb with rfl | hb
    · exact h.2.1
    · exact b2 b hb
theorem alike_pld (xs ys : List (Str × Int)) : PySem.W.alikeAll (xs.map pp) (ys.map pp) = true := by
  induction xs generalizing ys with
  | nil => simp [PySem.W.alikeAll]
  | cons x xs ih =>
    cases ys with
    | nil => simp [PySem.W.alikeAll]
    | cons y ys => simp [PySem.W.alikeAll, pp, PySem.W.alike, ih ys]
theorem pld_depth (xs : List (Str × Int)) : (pld xs).depth ≤ 60 := by
  have : PyData.depthAll (xs.map pp) ≤ 2 := by
    induction xs with
    | nil => simp [PyData.depthAll]
    | cons x xs ih =>
      rw [List.map_cons]
      simp only [PyData.depthAll, pp, PyData.depth]
      omega
  show (PyData.tuple (xs.map pp)).depth ≤ 60
  simp only [PyData.depth]
  omega
end
theorem cr_sortedPl {X : Cx} (hc : X.calm = true) (hu : X.A.units + 64 < cLine) : CallR X (.builtin "sorted") (rSortP X.prog X.w) := by
  intro pins s σ H xs us Q I r h
  obtain ⟨d, ks, rfl, hd, ne, q⟩ := h
  rw [Vals.ref1 r]
  obtain ⟨xs, e, pr, hm⟩ := hd.keyed I
  have l := paired_len pr
  have z := hd.z
  obtain ⟨bs, b1, b2, b3⟩ := keys_of pr
  have lb : bs.length = ks.length := by
    have := congrArg List.length b1
    rw [List.length_map, List.length_map] at this
    exact this
  obtain ⟨es, ep, raw, sz, at'⟩ := hm.raw
  have rv : Vals (bs.map fun b => V.ref b.1) (xs.map fun x => Value.ref x.2.1) := by
    have : (bs.map fun b => V.ref b.1) = xs.map fun x => V.ref x.2.1 := by
      have := congrArg (List.map V.ref) b3
      rw [List.map_map, List.map_map] at this
      exact this
    rw [this]
    clear this raw at' sz b3 b1 l pr hm e
    induction xs with
    | nil => exact .nil
    | cons x xs ih => exact .cons rfl ih
  have lx : (xs.map fun x => Value.ref x.2.1).length = ks.length := by rw [List.length_map, l]
  have col : ∀ (G : List Value → Shared → Prop) (E : Value → Shared → Prop), (∀ (h' : Heap) (tk : Nat), (∀ b o, s.heap.get? b = some o → h'.get? b = some o) → G (xs.map fun x => Value.ref x.2.1) { s with heap := h', toks := tk }) → wpAny (model X.prog X.w) X.A.in1 (collect (.ref d)) G E s := fun G E g => by
    refine PySem.W.kdu_collect (src_dict (by simpa using hd.no)) (I.ok.hd hc) raw (by omega) fun h' tk acc keep items => ?_
    have : acc.toList = xs.map fun x => Value.ref x.2.1 := by
      refine List.ext_getElem? fun i => ?_
      rw [Array.getElem?_toList, List.getElem?_map]
      by_cases hi : i < acc.size
      · have ei : acc[i]? = some acc[i] := Array.getElem?_eq_getElem hi
        obtain ⟨hj, ev⟩ := items.2 i _ ei
        obtain ⟨y, y1, y2, _⟩ := at' i hj
        rw [ei, y1, ev, y2]
        rfl
      · have n1 : acc[i]? = none := Array.getElem?_eq_none (by omega)
        have n2 : xs[i]? = none := List.getElem?_eq_none (by have := items.1; omega)
        rw [n1, n2]
        rfl
    rw [this]
    exact g h' tk keep
  rcases ne with ne | short
  · let f : Addr × List (Str × Int) → V × PyData := fun b => (V.ref b.1, pld b.2)
    have f1 : (bs.map f).map (·.1) = bs.map fun b => V.ref b.1 := by rw [List.map_map]; rfl
    have f2 : (bs.map f).map (·.2) = bs.map fun b => pld b.2 := by rw [List.map_map]; rfl
    refine sorted_dat hu I (zs := bs.map f) (by rw [f1]; exact rv) (by rw [lx]; exact z) col (fun y hy => ?_) ?_ ?_ (fun y hy => ?_) fun p hp => ?_
    · obtain ⟨b, hb, rfl⟩ := List.mem_map.mp hy
      exact (b2 b hb).dp
    · rw [f2]
      exact PySem.W.AllAlike.of (enc := fun b : Addr × List (Str × Int) => pld b.2) fun a b => by
        show PySem.W.alike (.tuple (a.2.map pp)) (.tuple (b.2.map pp)) = true
        rw [PySem.W.alike]
        exact alike_pld _ _
    · rw [f2]
      refine .inl fun y hy => ?_
      obtain ⟨b, hb, rfl⟩ := List.mem_map.mp hy
      have mb : b.2 ∈ ks.map (·.1) := by rw [← b1]; exact List.mem_map_of_mem hb
      obtain ⟨k, hk, ek⟩ := List.mem_map.mp mb
      have nb := ne k hk
      rw [ek] at nb
      obtain ⟨x, r, er⟩ := List.exists_cons_of_ne_nil nb
      exact ⟨pp x, r.map pp, by rw [er]; rfl⟩
    · obtain ⟨b, hb, rfl⟩ := List.mem_map.mp hy
      exact pld_depth _
    · have es' : srt (bs.map f) = (bs.mergeSort (PySem.W.dataLe false fun b : Addr × List (Str × Int) => pld b.2)).map f := (PySem.W.sort_maps (f := f) fun a _ b _ => rfl).symm
      rw [es', List.map_map]
      have pm := List.mergeSort_perm bs (PySem.W.dataLe false fun b : Addr × List (Str × Int) => pld b.2)
      refine q p _ hp ?_ fun b hb => b2 b (pm.mem_iff.mp hb)
      rw [← b1]
      exact pm.map _
  · exact sorted_short I rv (by rw [lx]; exact short) col fun p hp => q p bs hp (by rw [b1]) b2
end Fw
set_option maxHeartbeats 4000000
namespace Fw
open PySem PySem.Spec PyProof.Rows L2
/-! count_reachable or None (k56) -/
section
variable {P : Program} {w : World} {K : PySem.W.Frag} {mg : Str → Option Value} {base : Heap}
def spLCnt : Sp := fun vs H Q _ => ∃ (h p : Addr) (n : Int) (D : List (Int × Int)) (P : List (Str × Int)), vs = [.ref h, .ref p] ∧ HouseAt H h n D ∧ Forest n D ∧ 0 ≤ n ∧ n ≤ 8 ∧ PlAt H p P ∧ P.length ≤ 100 ∧
  ∀ H' v, Same H H' → (v = .non ∨ ∃ Ls c, v = .int c ∧ Regs D (occ n P) Ls ∧ crt P 1 Ls = .inl c) → Q v H'
abbrev nLCnt : List Str := ["_law_house_here", "_law_placement_here"]
theorem scLCnt : FnScope nLCnt ["_law_house_here", "_law_placement_here"] (defScope sLCountOrNone) := ⟨rfl, rfl, rfl, by decide +kernel, rfl, by decide +kernel, by decide +kernel⟩
abbrev pLCnt : List Str := ["_law_house_here", "_law_placement_here"]
theorem ok_lcnt {f : Addr} {fd : FuncData} {k : Nat} {E0 C : Addr} (F : Fun K "_law_count_or_none" "_law_count_or_none" sLCountOrNone f fd) (Ccount_reachable : CalX P w K mg base (k + 5) "count_reachable" ["house", "placement"] (spCRX C)) (RI : ErR P w K mg base "TightRegion" "room" E0 C) : FnOk P w K mg base CX0 (k + 6) f fd pLCnt spLCnt := by
  refine F.ok scLCnt (fun vs H Q E h => ?_) (fun cdv A outer s H vs Q E hr h => ?_)
  · obtain ⟨h, p, n, D, P, rfl, _⟩ := h
    rfl
  · obtain ⟨h, p, n, D, P, rfl, hH, hF, n0, n1, hP, lP, q⟩ := h
    refine ⟨_, (pss_one (ps_try_only rfl rfl ⟨by rfl, by decide, .inl RI.g⟩ takes0
      (fun W pn xe tk _ => pss_one (ps_ret (pe_calX Ccount_reachable tk hr (by rfl) (pa_cons (pv 0) (pa_cons (pv 1) pa_nil)))))
      (fun a oe cls dd pn hz hf => pss_one (ps_ret pe_non)))), ?_⟩
    refine ⟨_, rfl, _, rfl, h, p, n, D, P, rfl, hH, hF, n0, n1, hP, lP, fun Ls RL c e H' s' => q _ _ s' (.inr ⟨Ls, c, rfl, RL, e⟩), fun Ls RL r e d H' s' hd => ?_⟩
    refine ⟨true, ?_, fun _ a na => q _ _ s' (.inl rfl), fun z => nomatch z⟩
    exact (exm_ref RI.mro RI.e).trans (by rw [decide_eq_true (.inl rfl)])
end
end Fw
namespace Fw
open PySem PySem.Spec PyProof.Rows L2
set_option maxHeartbeats 8000000
theorem iteEQ {x y : V} (h : x = y) {A B : Prop} (b : B) : if (!decide (x = y)) = true then A else B := by
  rw [decide_eq_true h]
  exact b
theorem and_none {v : V} {A F : Prop} (h1 : v ≠ .non → F → A) (f : F) : if (!decide (v = .non)) = true then A else F := by
  by_cases e : v = .non
  · rw [decide_eq_true e]
    exact f
  · rw [decide_eq_false e]
    exact h1 e f
section
variable {P : Program} {w : World} {K : PySem.W.Frag} {mg : Str → Option Value} {base : Heap}
def spLaw (K : PySem.W.Frag) : Sp := fun vs H Q _ => ∃ (a : Addr) (ns : List Int), vs = [.ref a] ∧ SqL K H a (vi ns) ∧ ns.length ≤ 63 ∧ ∀ H', Q (.bl true) H'
abbrev nLaw : List Str := ["_law_script", "_law_stream_here", "_law_turn", "_law_house_here", "_law_placement_here", "_law_known", "_law_back", "_law_total", "_law_ordered", "_law_k", "_law_other"]
theorem scLaw : FnScope nLaw ["_law_script"] (defScope sLaw) := ⟨rfl, rfl, rfl, by decide +kernel, rfl, by decide +kernel, by decide +kernel⟩
def Errs (K : PySem.W.Frag) (mg : Str → Option Value) : Prop := ∃ E, HE K mg E ∧ CEE K mg E "TightRegion" "TightRegion.__init__" "room" iTightRegion
/-- the defs of the text -/
structure All (K : PySem.W.Frag) (mg : Str → Option Value) : Prop where
  T : Nm mg
  any : mg "any" = none
  er : Errs K mg
  dneighbors : DefE K mg "neighbors" sNb ["house", "room"]
  dcomponents : DefE K mg "components" sComp ["house", "rooms"]
  dsteps_toward : DefE K mg "steps_toward" sSteps ["house", "goal", "rooms"]
  dpeople_in : DefE K mg "people_in" sPIn ["placement", "room"]
  dpeople_within : DefE K mg "people_within" sPWi ["placement", "rooms"]
  dfind_regions : DefE K mg "find_regions" sFReg ["house", "placement"]
  dsurplus : DefE K mg "surplus" sSurp ["placement", "region"]
  dis_tight : DefE K mg "is_tight" sIsTight ["placement", "region"]
  dmutually_reachable : DefE K mg "mutually_reachable" sMutual ["house", "one", "other"]
  dlasting_parts : DefE K mg "lasting_parts" sLasting ["placement", "region"]
  dsame_people : DefE K mg "same_people" sSameP ["one", "other", "rooms"]
  dclass_size : DefE K mg "class_size" sCSize ["house", "placement"]
  dfull_assignments : DefE K mg "full_assignments" sFullA ["people", "rooms"]
  dcount_reachable : DefE K mg "count_reachable" sCountReachable ["house", "placement"]
  d_law_stream : DefE K mg "_law_stream" sStream ["_law_script"]
  d_law_names : DefE K mg "_law_names" sNames ["_law_stream_here", "_law_many"]
  d_law_draw : DefE K mg "_law_draw" sDraw ["_law_stream_here", "_law_many"]
  d_law_house : DefE K mg "_law_house" sHouse ["_law_stream_here", "_law_least", "_law_most"]
  d_law_placement : DefE K mg "_law_placement" sPl ["_law_stream_here", "_law_house_here", "_law_most"]
  d_law_neighbors : DefE K mg "_law_neighbors" sLNb ["_law_house_here", "_law_room"]
  d_law_moved : DefE K mg "_law_moved" sLMoved ["_law_placement_here", "_law_name", "_law_room"]
  d_law_moves : DefE K mg "_law_moves" sLMoves ["_law_house_here", "_law_placement_here"]
  d_law_reachable : DefE K mg "_law_reachable" sLReach ["_law_house_here", "_law_placement_here"]
  d_law_leading_back : DefE K mg "_law_leading_back" sLLeadingBack ["_law_house_here", "_law_known", "_law_placement_here"]
  d_law_count_or_none : DefE K mg "_law_count_or_none" sLCountOrNone ["_law_house_here", "_law_placement_here"]
theorem ok_law {f : Addr} {fd : FuncData} (F : Fun K "law" "law" sLaw f fd) (Z : All K mg) : FnG P w K mg base 7 f fd ["_law_script"] (spLaw K) := by
  have T := Z.T
  obtain ⟨E, hE, eTightRegion⟩ := Z.er
  obtain ⟨CTightRegion, RTightRegion⟩ := er1_TightRegion (P := P) (w := w) (base := base) eTightRegion
  have Cpeople_within : Cal P w K mg base 1 "people_within" ["placement", "rooms"] (spPWi K) := Z.dpeople_within.cal fun _ _ d => ok_pwi d.F T
  have Cpeople_in : Cal P w K mg base 2 "people_in" ["placement", "room"] spPIn := Z.dpeople_in.cal fun _ _ d => ok_pin d.F T (Cpeople_within.up (by decide))
  have Ccomponents : Cal P w K mg base 3 "components" ["house", "rooms"] (spComp K) := Z.dcomponents.cal fun _ _ d => by
    obtain ⟨af2, bf2, f2⟩ := Z.dneighbors
    obtain ⟨af3, bf3, f3⟩ := Z.dsteps_toward
    exact ok_comp d.F T Z.any f2 f3
  have Cfind_regions : Cal P w K mg base 4 "find_regions" ["house", "placement"] spFReg := Z.dfind_regions.cal fun _ _ d => ok_freg d.F T (Cpeople_in.up (by decide)) (Ccomponents.up (by decide))
  have Csurplus : Cal P w K mg base 2 "surplus" ["placement", "region"] (spSurp K) := Z.dsurplus.cal fun _ _ d => ok_surp d.F T (Cpeople_within.up (by decide))
  have Cis_tight : Cal P w K mg base 3 "is_tight" ["placement", "region"] (spTight K) := Z.dis_tight.cal fun _ _ d => ok_tight d.F (Csurplus.up (by decide))
  have Cfull_assignments : Cal P w K mg base 1 "full_assignments" ["people", "rooms"] spFullA := Z.dfull_assignments.cal fun _ _ d => ok_fulla d.F T
  have Cclass_size : Cal P w K mg base 5 "class_size" ["house", "placement"] spCSize := Z.dclass_size.cal fun _ _ d => ok_csize d.F T (Cfind_regions.up (by decide)) (Cis_tight.up (by decide)) (Cpeople_within.up (by decide)) (Cfull_assignments.up (by decide))
  have C_law_stream : Cal P w K mg base 1 "_law_stream" ["_law_script"] (spStream K) := Z.d_law_stream.cal fun _ _ d => ok_stream d.F T
  have C_law_draw : Cal P w K mg base 1 "_law_draw" ["_law_stream_here", "_law_many"] spDraw := Z.d_law_draw.cal fun _ _ d => ok_draw d.F T
  have C_law_house : Cal P w K mg base 2 "_law_house" ["_law_stream_here", "_law_least", "_law_most"] spHouse := Z.d_law_house.cal fun _ _ d => by
    obtain ⟨af2, bf2, f2⟩ := Z.d_law_draw
    exact ok_house d.F T f2
  have C_law_names : Cal P w K mg base 2 "_law_names" ["_law_stream_here", "_law_many"] spNames := Z.d_law_names.cal fun _ _ d => ok_names d.F T (C_law_draw.up (by decide))
  have C_law_placement : Cal P w K mg base 3 "_law_placement" ["_law_stream_here", "_law_house_here", "_law_most"] spPl := Z.d_law_placement.cal fun _ _ d => ok_pl d.F T (C_law_draw.up (by decide)) (C_law_names.up (by decide))
  have C_law_moved : Cal P w K mg base 1 "_law_moved" ["_law_placement_here", "_law_name", "_law_room"] spLMoved := Z.d_law_moved.cal fun _ _ d => ok_lmoved d.F T
  have C_law_neighbors : Cal P w K mg base 1 "_law_neighbors" ["_law_house_here", "_law_room"] spLNb := Z.d_law_neighbors.cal fun _ _ d => ok_lnb d.F T
  have C_law_moves : Cal P w K mg base 2 "_law_moves" ["_law_house_here", "_law_placement_here"] spLMoves := Z.d_law_moves.cal fun _ _ d => ok_lmoves d.F T (C_law_neighbors.up (by decide))
  have C_law_reachable : Cal P w K mg base 3 "_law_reachable" ["_law_house_here", "_law_placement_here"] (spReach P w) := Z.d_law_reachable.cal fun _ _ d => ok_lreach (k := 0) d.F T (C_law_moves.up (by decide)) (C_law_moved.up (by decide))
  have Clasting_parts : Cal P w K mg base 4 "lasting_parts" pLasting (spLasting K) := Z.dlasting_parts.cal fun _ _ d => ok_lasting d.F (Cis_tight.up (by decide))
  have Csame_people : Cal P w K mg base 2 "same_people" pSameP (spSameP K) := Z.dsame_people.cal fun _ _ d => ok_samep d.F (Cpeople_within.up (by decide))
  have Cmutually_reachable : Cal P w K mg base 5 "mutually_reachable" pMutual spMutual := Z.dmutually_reachable.cal fun _ _ d => ok_mutual d.F T (Cfind_regions.up (by decide)) Clasting_parts (Csame_people.up (by decide))
  have Ccount_reachable : CalX P w K mg base 5 "count_reachable" ["house", "placement"] (spCRX CTightRegion) := Z.dcount_reachable.calX fun _ _ d => ok_crX (k := 0) d.F T (Cfind_regions.up (by decide)) (Cis_tight.up (by decide)) (Cpeople_within.up (by decide)) RTightRegion.r
  have C_law_leading_back : Cal P w K mg base 3 "_law_leading_back" pLBack (spLBack P w) := Z.d_law_leading_back.cal fun _ _ d => ok_lback d.F T (C_law_moves.up (by decide)) (C_law_moved.up (by decide))
  have C_law_count_or_none : Cal P w K mg base 6 "_law_count_or_none" pLCnt spLCnt := Z.d_law_count_or_none.cal fun _ _ d => ok_lcnt (k := 0) d.F Ccount_reachable RTightRegion.r
  refine Fun.okG F scLaw (fun vs H Q E h => ?_) (fun cdv A outer s H vs Q gd hr h => ?_)
  · obtain ⟨a, ns, rfl, _⟩ := h
    rfl
  · obtain ⟨a, ns, rfl, hS, hlen, q⟩ := h
    refine ⟨_, (pss_cons (ps_set (i := 1) scLaw.nd rfl (.inl rfl) (pe_cal C_law_stream (hr.mono (by decide)) (by rfl) (pa_cons (pv 0) pa_nil)))
      (pss_cons (ps_for PassesOwn.never rfl (pi_range1 (by rfl) T.range (pa_cons pe_int pa_nil)) (pg_name (i := 2) scLaw.nd rfl (.inl rfl))
      (pss_cons (ps_set (i := 3) scLaw.nd rfl (.inl rfl) (pe_cal C_law_house (hr.mono (by decide)) (by rfl) (pa_cons (pv 1) (pa_cons pe_int (pa_cons pe_int pa_nil)))))
       (pss_cons (ps_set (i := 4) scLaw.nd rfl (.inl rfl) (pe_cal C_law_placement (hr.mono (by decide)) (by rfl) (pa_cons (pv 1) (pa_cons (pv 3) (pa_cons (pe_op op_sub pe_int (pe_op op_modN (pv 2) pe_int)) pa_nil)))))
       (pss_cons (ps_set (i := 5) scLaw.nd rfl (.inl rfl) (pe_cal C_law_reachable (hr.mono (by decide)) (by rfl) (pa_cons (pv 3) (pa_cons (pv 4) pa_nil))))
       (pss_cons (ps_set (i := 6) scLaw.nd rfl (.inl rfl) (pe_cal C_law_leading_back (hr.mono (by decide)) (by rfl) (pa_cons (pv 3) (pa_cons (pv 5) (pa_cons (pv 4) pa_nil)))))
       (pss_cons (ps_if (pt_cmpR op_ne (pe_cal Cclass_size (hr.mono (by decide)) (by rfl) (pa_cons (pv 3) (pa_cons (pv 4) pa_nil))) (pe_callB call_lenP (by rfl) T.len (by decide +kernel) (pa_cons (pv 6) pa_nil)) (nomark _))
       pss_never
       pss_nil)
       (pss_cons (ps_set (i := 7) scLaw.nd rfl (.inl rfl) (pe_cal C_law_count_or_none (hr.mono (by decide)) (by rfl) (pa_cons (pv 3) (pa_cons (pv 4) pa_nil))))
       (pss_cons (ps_if (PW.pt (pw_and (pt_cmp (pc_notN (pv 7))) (pw_and1 (pt_cmpR op_ne (pv 7) (pe_callB call_lenP (by rfl) T.len (by decide +kernel) (pa_cons (pv 5) pa_nil)) (nomark _)))))
       pss_never
       pss_nil)
       (pss_cons (ps_set (i := 8) scLaw.nd rfl (.inl rfl) (pe_callB (cr_sortedPl rfl hr.units) (by rfl) T.sorted (by decide +kernel) (pa_cons (pv 5) pa_nil)))
       (pss_one (ps_for PassesOwn.never rfl (pi_range1 (by rfl) T.range (pa_cons pe_int pa_nil)) (pg_name (i := 9) scLaw.nd rfl (.inl rfl))
       (pss_cons (ps_set (i := 10) scLaw.nd rfl (.inl rfl) (pe_ix (ix_listK K rfl) (pv 8) (pe_cal C_law_draw (hr.mono (by decide)) (by rfl) (pa_cons (pv 1) (pa_cons (pe_callB (call_lenK K rfl) (by rfl) T.len (by decide +kernel) (pa_cons (pv 8) pa_nil)) pa_nil))) (fun _ _ => rfl)))
        (pss_cons (ps_if (pt_cmpR op_ne (pe_cal Cmutually_reachable (hr.mono (by decide)) (by rfl) (pa_cons (pv 3) (pa_cons (pv 4) (pa_cons (pv 10) pa_nil)))) (pe_cmpR (op_inP hr.units) (pv 10) (pv 6) (by rfl)) (nomark _))
        pss_never
        pss_nil)
        (pss_one (ps_if (PW.pt (pw_and (pt_cmpR (op_inP hr.units) (pv 10) (pv 6) (by rfl)) (pw_and1 (pt_cmpR op_ne (pe_cal Cclass_size (hr.mono (by decide)) (by rfl) (pa_cons (pv 3) (pa_cons (pv 10) pa_nil))) (pe_callB call_lenP (by rfl) T.len (by decide +kernel) (pa_cons (pv 6) pa_nil)) (nomark _)))))
        pss_never
        pss_nil)))))))))))))))
      (pss_one (ps_ret pe_bl)))), ?_⟩
    refine ⟨_, rfl, a, ns, rfl, hS, hlen, fun H1 s1 A1 B1 sm1 _ _ hS1 => ?_⟩
    refine ⟨2, rfl, by decide, by decide, for_range (lo := 0) (n := 2) (fun i σ H' => ∃ y2 y3 y4 y5 y6 y7 y8 y9 y10, σ = [some (.ref a), some (.ref s1), y2, y3, y4, y5, y6, y7, y8, y9, y10] ∧ StreamAt H' s1 A1 B1 (500 * i)) ⟨_, _, _, _, _, _, _, _, _, rfl, hS1⟩ ?_ ?_⟩
    · rintro i σ H2 hi ⟨y2, y3, y4, y5, y6, y7, y8, y9, y10, rfl, hS2⟩
      refine ⟨_, rfl, s1, A1, B1, 500 * i, 1, 4, rfl, hS2, by omega, by decide, by decide, by decide, fun H3 h n D hS3 fr3 hH3 hF n2 n4 => ?_⟩
      have nn : (0 : Int) ≤ n := by omega
      have n8 : n ≤ 8 := by omega
      have m2 : (0 : Int) ≤ 5 - (0 + (i : Int)).fmod 2 ∧ 5 - (0 + (i : Int)).fmod 2 ≤ 5 := by
        rw [Int.fmod_eq_emod_of_nonneg _ (show (0 : Int) ≤ 2 by decide)]
        omega
      refine ⟨_, rfl, _, rfl, _, rfl, _, _, rfl, rfl, (show (2 : Int) ≠ 0 by decide), _, _, rfl, rfl, s1, A1, B1, h, 500 * i + 40, n, D, _, rfl, hS3, by omega, hH3, by omega, n8, m2.1, by omega, fun H4 p PP hS4 fr4 hP4 pl lP => ?_⟩
      have lP5 : PP.length ≤ 5 := by
        have := m2.2
        omega
      clear lP
      have hH4 := hH3.fr hS3 fr4
      clear hS1 hS2 hS3 hH3 fr3 fr4
      have few : n.toNat ^ PP.length ≤ 1024 := Nat.le_trans (Nat.pow_le_pow_left (show n.toNat ≤ 4 by omega) _) (Nat.le_trans (Nat.pow_le_pow_right (by decide) lP5) (by decide))
      have fewer : n.toNat ^ PP.length < sizeLine := Nat.lt_of_le_of_lt few (by decide)
      refine ⟨_, rfl, _, rfl, h, p, n, D, PP, rfl, hH4, hF, nn, n8, hP4.pl, pl, by omega, fewer, fun H5 d ks s5 _ dn5 bf => ?_⟩
      have memK : ∀ R, R ∈ ks.map (·.1) ↔ Rch n D PP R := fun R => by
        refine ⟨fun hR => ?_, fun hR => ?_⟩
        · obtain ⟨k, hk, rfl⟩ := List.mem_map.mp hR
          obtain ⟨j, _, f⟩ := bf.sd k hk
          exact (rch_rb hF).mpr ⟨j, f.1⟩
        · obtain ⟨j, hj⟩ := (rch_rb hF).mp hR
          exact bf.al j R hj
      have plN : ∀ R, Rch n D PP R → Pl n R ∧ R.map (·.1) = PP.map (·.1) := fun R ⟨X, run⟩ => ⟨run.pl pl, run.names.symm⟩
      have lk : ks.length ≤ 10000 := by
        have := reached_few (n := n) (P := PP) bf.nd fun R hR => ⟨(plN R ((memK R).mp hR)).2, (plN R ((memK R).mp hR)).1⟩
        rw [List.length_map] at this
        omega
      refine ⟨_, rfl, _, rfl, _, rfl, h, d, p, n, D, PP, ks, rfl, hH4.same s5, hF, nn, n8, (hP4.same s5).pl, pl, by omega, dn5, bf, lk, fun H6 e bs s6 _ dn6 ndb memB => ?_⟩
      have s46 := s5.trans s6
      have dk6 := dn5.same s6
      have hH6 := hH4.same s46
      have hP6 := (hP4.same s46).pl
      have hS6 := hS4.same s46
      clear hH4 hP4 hS4 dn5 s5 s6 s46
      have memM : ∀ R, R.map (·.1) = PP.map (·.1) → (R ∈ bs.map (·.1) ↔ Mutl n D PP R) := fun R nm => by
        rw [memB, memK]
        refine ⟨fun hh => (mutl_both hF pl (plN R hh.1).1 nm).mpr hh, fun m => ?_⟩
        have plR : Pl n R := ⟨by rw [nm]; exact pl.nm, fun x hx => by
          obtain ⟨y, hy, ey⟩ := List.mem_map.mp ((m.1 x.2).mpr (List.mem_map_of_mem (f := (·.2)) hx))
          rw [← ey]
          exact pl.rm y hy⟩
        exact (mutl_both hF pl plR nm).mp m
      have nmB : ∀ R ∈ bs.map (·.1), Pl n R ∧ R.map (·.1) = PP.map (·.1) := fun R hR => plN R ((memK R).mp ((memB R).mp hR).1)
      have cB : ∀ {Ls}, Regs D (occ n PP) Ls → V.int (csz PP Ls) = V.int (bs.length : Nat) := fun {Ls} RL => by
        rw [class_len pl RL ndb (fun R hR => (nmB R hR).2) memM, List.length_map]
      refine ⟨_, rfl, _, rfl, h, p, n, D, PP, rfl, hH6, hF, nn, n8, hP6, pl, by omega, fun H7 Ls s7 RL => ⟨_, rfl, e, bs, rfl, dn6.same s7, rfl, _, rfl, iteEQ (cB RL) ?_⟩⟩
      refine ⟨_, rfl, _, rfl, h, p, n, D, PP, rfl, hH6.same s7, hF, nn, n8, hP6.same s7, by omega, fun H8 v s8 cv => ?_⟩
      have s68 := s7.trans s8
      have dn8 := dn6.same s68
      have dk8 := dk6.same s68
      have hH8 := hH6.same s68
      have hP8 := hP6.same s68
      have hS8 := hS6.same s68
      clear hH6 hP6 hS6 dn6 dk6 s7 s8 s68
      refine ⟨_, rfl, _, rfl, and_none (fun hv F => ⟨_, rfl, _, rfl, d, ks, rfl, dk8, ?_⟩) (iteF ?_)⟩
      · rcases cv with rfl | ⟨Ls2, c, rfl, RL2, ec⟩
        · exact absurd rfl hv
        · have ec' := all_len hF pl RL2 bf.nd (fun R hR => (plN R ((memK R).mp hR)).2) (fun R _ => memK R) ec
          rw [List.length_map] at ec'
          subst ec'
          have e0 : (!decide (V.int (ks.length : Nat) = V.int (ks.length : Nat))) = false := by rw [decide_eq_true rfl]; rfl
          refine ⟨rfl, _, rfl, ?_⟩
          rw [e0]
          exact F
      have cond : (∀ k ∈ ks, k.1 ≠ []) ∨ ks.length ≤ 1 := by
        by_cases e0 : PP = []
        · refine .inr ?_
          have al : ∀ x ∈ ks.map (·.1), x = [] := fun x hx => by
            have := (plN x ((memK x).mp hx)).2
            rw [e0] at this
            exact List.map_eq_nil_iff.mp this
          have := subset_len (ys := [[]]) bf.nd fun x hx => by rw [al x hx]; exact List.mem_singleton.mpr rfl
          rwa [List.length_map] at this
        · refine .inl fun k hk ee => e0 ?_
          have := (plN k.1 ((memK k.1).mp (List.mem_map_of_mem (f := (·.1)) hk))).2
          rw [ee] at this
          exact List.map_eq_nil_iff.mp this.symm
      have kpos : 0 < ks.length := by
        have := (memK PP).mpr (Rch.refl PP)
        rw [← List.length_map (f := (·.1))]
        exact List.length_pos_of_mem this
      refine ⟨_, rfl, d, ks, rfl, dk8, cond, fun q9 ds hq9 pm9 hd9 => ?_⟩
      have s9 := same_upd (o := .lst (ds.map fun b => V.ref b.1)) hq9
      have zq := hS8.ne hq9
      have hS9 := hS8.same s9
      have eq9 : (upd H8 q9 (.lst (ds.map fun b => V.ref b.1))) q9 = some (.lst (ds.map fun b => V.ref b.1)) := upd_same
      have dn9 := dn8.same s9
      have hH9 := hH8.same s9
      have hP9 := hP8.same s9
      have hD9 : ∀ b ∈ ds, PlAt (upd H8 q9 (.lst (ds.map fun b => V.ref b.1))) b.1 b.2 := fun b hb => (hd9 b hb).same s9
      have lds : ds.length = ks.length := by
        have := pm9.length_eq
        rw [List.length_map, List.length_map] at this
        exact this
      have kD : ∀ b ∈ ds, Rch n D PP b.2 := fun b hb => (memK b.2).mp (pm9.mem_iff.mp (List.mem_map_of_mem (f := (·.2)) hb))
      clear hS8 dn8 dk8 hH8 hP8 hd9 pm9 cond s9
      generalize upd H8 q9 (.lst (ds.map fun b => V.ref b.1)) = H9 at *
      refine ⟨6, rfl, by decide, by decide, for_range (lo := 0) (n := 6) (fun j σ H' => ∃ y9 y10, σ = [some (.ref a), some (.ref s1), some (.int (0 + (i : Int))), some (.ref h), some (.ref p), some (.ref d), some (.ref e), some v, some (.ref q9), y9, y10] ∧ StreamAt H' s1 A1 B1 (500 * i + 300 + j) ∧ Fr s1 A1 H9 H') ⟨_, _, rfl, hS9.mono (by omega), Fr.of (Same.refl _)⟩ ?_ ?_⟩
      · rintro j σ H10 hj ⟨y9, y10, rfl, hS10, fr10⟩
        have eq10 := fr10 _ _ zq.1.symm zq.2.1.symm eq9
        refine ⟨_, rfl, _, rfl, _, rfl, q9, _, rfl, .inl (SqL.of eq10), s1, A1, B1, 500 * i + 300 + j, _, rfl, hS10, by omega, ?_, ?_, fun H11 r hS11 fr11 r0 r1 => ?_⟩
        · rw [List.length_map]; omega
        · rw [List.length_map]; omega
        rw [List.length_map] at r1
        have ib : r.toNat < ds.length := by omega
        have mb : ds[r.toNat]'ib ∈ ds := List.getElem_mem ib
        have ab : atI (ds.map fun b => V.ref b.1) r = some (.ref (ds[r.toNat]'ib).1) := by
          have := atI_nat (xs := ds.map fun b => V.ref b.1) (j := r.toNat) (v := V.ref (ds[r.toNat]'ib).1) (by rw [List.getElem?_map, List.getElem?_eq_getElem ib]; rfl)
          rw [Int.toNat_of_nonneg r0] at this
          exact this
        generalize ds[r.toNat]'ib = b3 at *
        obtain ⟨g, G⟩ := b3
        have fr := fr10.trans fr11
        have eq11 := fr _ _ zq.1.symm zq.2.1.symm eq9
        refine ⟨q9, _, r, _, rfl, rfl, SqL.of eq11, ab, ?_⟩
        have hG := (hD9 _ mb).fr hS9 fr
        obtain ⟨plG, nmG⟩ := plN G (kD _ mb)
        have hH11 := hH9.fr hS9 fr
        have hP11 := hP9.fr hS9 fr
        have dn11 := dn9.fr hS9 fr
        have lG : G.length = PP.length := by
          have := congrArg List.length nmG
          rwa [List.length_map, List.length_map] at this
        refine ⟨_, rfl, _, rfl, _, rfl, h, p, g, n, D, PP, G, rfl, hH11, hF, nn, n8, hP11, hG, pl, plG, by omega, nmG, fun H12 s12 => ⟨_, rfl, _, rfl, g, e, G, bs, rfl, rfl, hG.same s12, dn11.same s12, rfl, _, rfl, ?_⟩⟩
        have eM : V.bl (mutB n D PP G) = V.bl (decide (G ∈ bs.map (·.1))) := by
          congr 1
          rw [Bool.eq_iff_iff, mutB_iff, decide_eq_true_iff, memM G nmG]
        refine iteEQ eM ?_
        refine ⟨_, rfl, _, rfl, g, e, G, bs, rfl, rfl, hG.same s12, dn11.same s12, _, rfl, ?_⟩
        refine ite2 (fun c => ?_) (fun c => iteF ?_)
        · have mG : G ∈ bs.map (·.1) := of_decide_eq_true c
          refine ⟨_, rfl, _, rfl, h, g, n, D, G, rfl, hH11.same s12, hF, nn, n8, hG.same s12, plG, by omega, fun H13 Ls3 s13 RL3 => ⟨_, rfl, e, bs, rfl, (dn11.same s12).same s13, rfl, _, rfl, iteEQ ?_ ?_⟩⟩
          · have bG := (mutl_both hF pl plG nmG).mp ((memM G nmG).mp mG)
            rw [class_len plG RL3 ndb (fun R hR => (nmB R hR).2.trans nmG.symm) fun R nm => ?_, List.length_map]
            rw [memM R (nm.trans nmG)]
            refine ⟨fun m => ?_, fun m => ?_⟩
            · have mR := (memM R (nm.trans nmG)).mpr m
              have b2 := (mutl_both hF pl (nmB R mR).1 (nm.trans nmG)).mp m
              exact (mutl_both hF plG (nmB R mR).1 nm).mpr ⟨bG.2.trans b2.1, b2.2.trans bG.1⟩
            · have plR : Pl n R := ⟨by rw [nm]; exact plG.nm, fun x hx => by
                obtain ⟨y, hy, ey⟩ := List.mem_map.mp ((m.1 x.2).mpr (List.mem_map_of_mem (f := (·.2)) hx))
                rw [← ey]
                exact plG.rm y hy⟩
              have b2 := (mutl_both hF plG plR nm).mp m
              exact (mutl_both hF pl plR (nm.trans nmG)).mpr ⟨bG.1.trans b2.1, b2.2.trans bG.2⟩
          · exact ⟨_, _, rfl, (hS11.same (s12.trans s13)).mono (by omega), fr.trans (Fr.of (s12.trans s13))⟩
        · exact ⟨_, _, rfl, (hS11.same s12).mono (by omega), fr.trans (Fr.of s12)⟩
      · rintro σ H10 ⟨y9, y10, rfl, hS10, fr10⟩
        exact ⟨_, _, _, _, _, _, _, _, _, rfl, hS10.mono (by omega)⟩
    · rintro σ H2 ⟨y2, y3, y4, y5, y6, y7, y8, y9, y10, rfl, hS2⟩
      exact q _
end
end Fw
set_option maxHeartbeats 8000000
namespace Fw
open PySem L2
theorem all_mk {P : Program} {w : World} {K : PySem.W.Frag} {h : Heap} {mg : Str → Option Value} {fa : Addr} (X : K.In h) (G : h.Ns mainGlobals mg) (hfa : mg "law" = some (.ref fa))
    {EE NH : Addr} {nmH qnH : Str} {bsH subH : List Value} {snH : List Str} {abH : Bool} {colH : Option Bool} {ddH : Option Addr} {pH qH rH sH tH : Option Value} (uHEa : PySem.W.nsIn K mainGlobals "HouseError" = some (some (.ref EE))) (uHEb : PySem.W.subIn K (.ref EE) (.type "BaseException") = some true) (uHEc : K.lookup EE = some (excClassObj nmH qnH EE NH bsH [.type "ValueError", .type "Exception", .type "BaseException", .type "object"] true snH subH abH colH ddH pH qH rH sH tH "ValueError.__new__")) (uHEd : PySem.W.typeIn K (.ref EE) = some (.type "type"))
    {CTightRegion gTightRegion NTightRegion : Addr} {nmTightRegion qnTightRegion : Str} {bsTightRegion subTightRegion : List Value} {snTightRegion : List Str} {abTightRegion : Bool} {colTightRegion : Option Bool} {ddTightRegion : Option Addr} {pTightRegion qTightRegion rTightRegion sTightRegion tTightRegion : Option Value} {gdTightRegion gaTightRegion : Option Addr} {gsTightRegion : Array (Option Value)} {goTightRegion gkTightRegion gvTightRegion gpTightRegion gcTightRegion gtTightRegion : Value}
    (uTightRegiona : PySem.W.nsIn K mainGlobals "TightRegion" = some (some (.ref CTightRegion)))
    (uTightRegionb : K.lookup CTightRegion = some (excClassObj nmTightRegion qnTightRegion CTightRegion NTightRegion bsTightRegion (above EE) true snTightRegion subTightRegion abTightRegion colTightRegion ddTightRegion pTightRegion qTightRegion rTightRegion sTightRegion tTightRegion "ValueError.__new__"))
    (uTightRegionc : PySem.W.findIn K (.ref CTightRegion) "__setattr__" = some (some (.builtin "object.__setattr__"))) (uTightRegiond : PySem.W.findIn K (.ref CTightRegion) "__getattribute__" = some (some (.builtin "BaseException.__getattribute__"))) (uTightRegione : PySem.W.findIn K (.ref CTightRegion) "__getattr__" = some none)
    (uTightRegionf : PySem.W.findIn K (.ref CTightRegion) "__init__" = some (some (.ref gTightRegion))) (uTightRegiong : PySem.W.typeIn K (.ref gTightRegion) = some (.type "function"))
    (uTightRegionh : K.lookup gTightRegion = some ⟨goTightRegion, gdTightRegion, .func (PySem.W.fnOf "__init__" "TightRegion.__init__" (defArgs iTightRegion) (defBody iTightRegion) (defScope iTightRegion) .none gkTightRegion gvTightRegion gpTightRegion gaTightRegion gcTightRegion gtTightRegion), gsTightRegion⟩)
    (uTightRegioni : PySem.W.codeIn K gcTightRegion "TightRegion.__init__" = true) (uTightRegionj : PySem.W.keepIn K (.ref gTightRegion) = true) (uTightRegionk : PySem.W.keepIn K (.ref CTightRegion) = true) (uTightRegionl : PySem.W.typeIn K (.ref CTightRegion) = some (.type "type")) (uTightRegionm : PySem.W.hasDictIn K CTightRegion = true)
    (uTightRegionn : PySem.W.findIn K (.ref CTightRegion) "__class__" = some (some (.builtin "object.__class__"))) (uTightRegiono : PySem.W.findIn K (.ref CTightRegion) "room" = some none)
    (uTightRegionp : PySem.W.specialIn K (.builtin "object.__class__") "__get__" = some (some (.builtin "getset_descriptor.__get__"))) (uTightRegionq : PySem.W.takesIn K (.builtin "object.__class__") = some true)
    {f1 : Addr} {od1 an1 : Option Addr} {sl1 : Array (Option Value)} {oc1 kV1 dc1 pm1 cd1 ct1 : Value}
    (a1 : PySem.W.nsIn K mainGlobals "neighbors" = some (some (.ref f1)))
    (l1 : K.lookup f1 = some ⟨oc1, od1, .func (PySem.W.fnOf "neighbors" "neighbors" (defArgs sNb) (defBody sNb) (defScope sNb) .none kV1 dc1 pm1 an1 cd1 ct1), sl1⟩)
    (c1 : PySem.W.codeIn K cd1 "neighbors" = true) (k1 : PySem.W.keepIn K (.ref f1) = true)
    {f2 : Addr} {od2 an2 : Option Addr} {sl2 : Array (Option Value)} {oc2 kV2 dc2 pm2 cd2 ct2 : Value}
    (a2 : PySem.W.nsIn K mainGlobals "components" = some (some (.ref f2)))
    (l2 : K.lookup f2 = some ⟨oc2, od2, .func (PySem.W.fnOf "components" "components" (defArgs sComp) (defBody sComp) (defScope sComp) .none kV2 dc2 pm2 an2 cd2 ct2), sl2⟩)
    (c2 : PySem.W.codeIn K cd2 "components" = true) (k2 : PySem.W.keepIn K (.ref f2) = true)
    {f3 : Addr} {od3 an3 : Option Addr} {sl3 : Array (Option Value)} {oc3 kV3 dc3 pm3 cd3 ct3 : Value}
    (a3 : PySem.W.nsIn K mainGlobals "steps_toward" = some (some (.ref f3)))
    (l3 : K.lookup f3 = some ⟨oc3, od3, .func (PySem.W.fnOf "steps_toward" "steps_toward" (defArgs sSteps) (defBody sSteps) (defScope sSteps) .none kV3 dc3 pm3 an3 cd3 ct3), sl3⟩)
    (c3 : PySem.W.codeIn K cd3 "steps_toward" = true) (k3 : PySem.W.keepIn K (.ref f3) = true)
    {f4 : Addr} {od4 an4 : Option Addr} {sl4 : Array (Option Value)} {oc4 kV4 dc4 pm4 cd4 ct4 : Value}
    (a4 : PySem.W.nsIn K mainGlobals "people_in" = some (some (.ref f4)))
    (l4 : K.lookup f4 = some ⟨oc4, od4, .func (PySem.W.fnOf "people_in" "people_in" (defArgs sPIn) (defBody sPIn) (defScope sPIn) .none kV4 dc4 pm4 an4 cd4 ct4), sl4⟩)
    (c4 : PySem.W.codeIn K cd4 "people_in" = true) (k4 : PySem.W.keepIn K (.ref f4) = true)
    {f5 : Addr} {od5 an5 : Option Addr} {sl5 : Array (Option Value)} {oc5 kV5 dc5 pm5 cd5 ct5 : Value}
    (a5 : PySem.W.nsIn K mainGlobals "people_within" = some (some (.ref f5)))
    (l5 : K.lookup f5 = some ⟨oc5, od5, .func (PySem.W.fnOf "people_within" "people_within" (defArgs sPWi) (defBody sPWi) (defScope sPWi) .none kV5 dc5 pm5 an5 cd5 ct5), sl5⟩)
    (c5 : PySem.W.codeIn K cd5 "people_within" = true) (k5 : PySem.W.keepIn K (.ref f5) = true)
    {f6 : Addr} {od6 an6 : Option Addr} {sl6 : Array (Option Value)} {oc6 kV6 dc6 pm6 cd6 ct6 : Value}
    (a6 : PySem.W.nsIn K mainGlobals "find_regions" = some (some (.ref f6)))
    (l6 : K.lookup f6 = some ⟨oc6, od6, .func (PySem.W.fnOf "find_regions" "find_regions" (defArgs sFReg) (defBody sFReg) (defScope sFReg) .none kV6 dc6 pm6 an6 cd6 ct6), sl6⟩)
    (c6 : PySem.W.codeIn K cd6 "find_regions" = true) (k6 : PySem.W.keepIn K (.ref f6) = true)
    {f7 : Addr} {od7 an7 : Option Addr} {sl7 : Array (Option Value)} {oc7 kV7 dc7 pm7 cd7 ct7 : Value}
    (a7 : PySem.W.nsIn K mainGlobals "surplus" = some (some (.ref f7)))
    (l7 : K.lookup f7 = some ⟨oc7, od7, .func (PySem.W.fnOf "surplus" "surplus" (defArgs sSurp) (defBody sSurp) (defScope sSurp) .none kV7 dc7 pm7 an7 cd7 ct7), sl7⟩)
    (c7 : PySem.W.codeIn K cd7 "surplus" = true) (k7 : PySem.W.keepIn K (.ref f7) = true)
    {f8 : Addr} {od8 an8 : Option Addr} {sl8 : Array (Option Value)} {oc8 kV8 dc8 pm8 cd8 ct8 : Value}
    (a8 : PySem.W.nsIn K mainGlobals "is_tight" = some (some (.ref f8)))
    (l8 : K.lookup f8 = some ⟨oc8, od8, .func (PySem.W.fnOf "is_tight" "is_tight" (defArgs sIsTight) (defBody sIsTight) (defScope sIsTight) .none kV8 dc8 pm8 an8 cd8 ct8), sl8⟩)
    (c8 : PySem.W.codeIn K cd8 "is_tight" = true) (k8 : PySem.W.keepIn K (.ref f8) = true)
    {f9 : Addr} {od9 an9 : Option Addr} {sl9 : Array (Option Value)} {oc9 kV9 dc9 pm9 cd9 ct9 : Value}
    (a9 : PySem.W.nsIn K mainGlobals "mutually_reachable" = some (some (.ref f9)))
    (l9 : K.lookup f9 = some ⟨oc9, od9, .func (PySem.W.fnOf "mutually_reachable" "mutually_reachable" (defArgs sMutual) (defBody sMutual) (defScope sMutual) .none kV9 dc9 pm9 an9 cd9 ct9), sl9⟩)
    (c9 : PySem.W.codeIn K cd9 "mutually_reachable" = true) (k9 : PySem.W.keepIn K (.ref f9) = true)
    {f10 : Addr} {od10 an10 : Option Addr} {sl10 : Array (Option Value)} {oc10 kV10 dc10 pm10 cd10 ct10 : Value}
    (a10 : PySem.W.nsIn K mainGlobals "lasting_parts" = some (some (.ref f10)))
    (l10 : K.lookup f10 = some ⟨oc10, od10, .func (PySem.W.fnOf "lasting_parts" "lasting_parts" (defArgs sLasting) (defBody sLasting) (defScope sLasting) .none kV10 dc10 pm10 an10 cd10 ct10), sl10⟩)
    (c10 : PySem.W.codeIn K cd10 "lasting_parts" = true) (k10 : PySem.W.keepIn K (.ref f10) = true)
    {f11 : Addr} {od11 an11 : Option Addr} {sl11 : Array (Option Value)} {oc11 kV11 dc11 pm11 cd11 ct11 : Value}
    (a11 : PySem.W.nsIn K mainGlobals "same_people" = some (some (.ref f11)))
    (l11 : K.lookup f11 = some ⟨oc11, od11, .func (PySem.W.fnOf "same_people" "same_people" (defArgs sSameP) (defBody sSameP) (defScope sSameP) .none kV11 dc11 pm11 an11 cd11 ct11), sl11⟩)
    (c11 : PySem.W.codeIn K cd11 "same_people" = true) (k11 : PySem.W.keepIn K (.ref f11) = true)
    {f12 : Addr} {od12 an12 : Option Addr} {sl12 : Array (Option Value)} {oc12 kV12 dc12 pm12 cd12 ct12 : Value}
    (a12 : PySem.W.nsIn K mainGlobals "class_size" = some (some (.ref f12)))
    (l12 : K.lookup f12 = some ⟨oc12, od12, .func (PySem.W.fnOf "class_size" "class_size" (defArgs sCSize) (defBody sCSize) (defScope sCSize) .none kV12 dc12 pm12 an12 cd12 ct12), sl12⟩)
    (c12 : PySem.W.codeIn K cd12 "class_size" = true) (k12 : PySem.W.keepIn K (.ref f12) = true)
    {f13 : Addr} {od13 an13 : Option Addr} {sl13 : Array (Option Value)} {oc13 kV13 dc13 pm13 cd13 ct13 : Value}
    (a13 : PySem.W.nsIn K mainGlobals "full_assignments" = some (some (.ref f13)))
    (l13 : K.lookup f13 = some ⟨oc13, od13, .func (PySem.W.fnOf "full_assignments" "full_assignments" (defArgs sFullA) (defBody sFullA) (defScope sFullA) .none kV13 dc13 pm13 an13 cd13 ct13), sl13⟩)
    (c13 : PySem.W.codeIn K cd13 "full_assignments" = true) (k13 : PySem.W.keepIn K (.ref f13) = true)
    {f14 : Addr} {od14 an14 : Option Addr} {sl14 : Array (Option Value)} {oc14 kV14 dc14 pm14 cd14 ct14 : Value}
    (a14 : PySem.W.nsIn K mainGlobals "count_reachable" = some (some (.ref f14)))
    (l14 : K.lookup f14 = some ⟨oc14, od14, .func (PySem.W.fnOf "count_reachable" "count_reachable" (defArgs sCountReachable) (defBody sCountReachable) (defScope sCountReachable) .none kV14 dc14 pm14 an14 cd14 ct14), sl14⟩)
    (c14 : PySem.W.codeIn K cd14 "count_reachable" = true) (k14 : PySem.W.keepIn K (.ref f14) = true)
    {f15 : Addr} {od15 an15 : Option Addr} {sl15 : Array (Option Value)} {oc15 kV15 dc15 pm15 cd15 ct15 : Value}
    (a15 : PySem.W.nsIn K mainGlobals "_law_stream" = some (some (.ref f15)))
    (l15 : K.lookup f15 = some ⟨oc15, od15, .func (PySem.W.fnOf "_law_stream" "_law_stream" (defArgs sStream) (defBody sStream) (defScope sStream) .none kV15 dc15 pm15 an15 cd15 ct15), sl15⟩)
    (c15 : PySem.W.codeIn K cd15 "_law_stream" = true) (k15 : PySem.W.keepIn K (.ref f15) = true)
    {f16 : Addr} {od16 an16 : Option Addr} {sl16 : Array (Option Value)} {oc16 kV16 dc16 pm16 cd16 ct16 : Value}
    (a16 : PySem.W.nsIn K mainGlobals "_law_names" = some (some (.ref f16)))
    (l16 : K.lookup f16 = some ⟨oc16, od16, .func (PySem.W.fnOf "_law_names" "_law_names" (defArgs sNames) (defBody sNames) (defScope sNames) .none kV16 dc16 pm16 an16 cd16 ct16), sl16⟩)
    (c16 : PySem.W.codeIn K cd16 "_law_names" = true) (k16 : PySem.W.keepIn K (.ref f16) = true)
    {f17 : Addr} {od17 an17 : Option Addr} {sl17 : Array (Option Value)} {oc17 kV17 dc17 pm17 cd17 ct17 : Value}
    (a17 : PySem.W.nsIn K mainGlobals "_law_draw" = some (some (.ref f17)))
    (l17 : K.lookup f17 = some ⟨oc17, od17, .func (PySem.W.fnOf "_law_draw" "_law_draw" (defArgs sDraw) (defBody sDraw) (defScope sDraw) .none kV17 dc17 pm17 an17 cd17 ct17), sl17⟩)
    (c17 : PySem.W.codeIn K cd17 "_law_draw" = true) (k17 : PySem.W.keepIn K (.ref f17) = true)
    {f18 : Addr} {od18 an18 : Option Addr} {sl18 : Array (Option Value)} {oc18 kV18 dc18 pm18 cd18 ct18 : Value}
    (a18 : PySem.W.nsIn K mainGlobals "_law_house" = some (some (.ref f18)))
    (l18 : K.lookup f18 = some ⟨oc18, od18, .func (PySem.W.fnOf "_law_house" "_law_house" (defArgs sHouse) (defBody sHouse) (defScope sHouse) .none kV18 dc18 pm18 an18 cd18 ct18), sl18⟩)
    (c18 : PySem.W.codeIn K cd18 "_law_house" = true) (k18 : PySem.W.keepIn K (.ref f18) = true)
    {f19 : Addr} {od19 an19 : Option Addr} {sl19 : Array (Option Value)} {oc19 kV19 dc19 pm19 cd19 ct19 : Value}
    (a19 : PySem.W.nsIn K mainGlobals "_law_placement" = some (some (.ref f19)))
    (l19 : K.lookup f19 = some ⟨oc19, od19, .func (PySem.W.fnOf "_law_placement" "_law_placement" (defArgs sPl) (defBody sPl) (defScope sPl) .none kV19 dc19 pm19 an19 cd19 ct19), sl19⟩)
    (c19 : PySem.W.codeIn K cd19 "_law_placement" = true) (k19 : PySem.W.keepIn K (.ref f19) = true)
    {f20 : Addr} {od20 an20 : Option Addr} {sl20 : Array (Option Value)} {oc20 kV20 dc20 pm20 cd20 ct20 : Value}
    (a20 : PySem.W.nsIn K mainGlobals "_law_neighbors" = some (some (.ref f20)))
    (l20 : K.lookup f20 = some ⟨oc20, od20, .func (PySem.W.fnOf "_law_neighbors" "_law_neighbors" (defArgs sLNb) (defBody sLNb) (defScope sLNb) .none kV20 dc20 pm20 an20 cd20 ct20), sl20⟩)
    (c20 : PySem.W.codeIn K cd20 "_law_neighbors" = true) (k20 : PySem.W.keepIn K (.ref f20) = true)
    {f21 : Addr} {od21 an21 : Option Addr} {sl21 : Array (Option Value)} {oc21 kV21 dc21 pm21 cd21 ct21 : Value}
    (a21 : PySem.W.nsIn K mainGlobals "_law_moved" = some (some (.ref f21)))
    (l21 : K.lookup f21 = some ⟨oc21, od21, .func (PySem.W.fnOf "_law_moved" "_law_moved" (defArgs sLMoved) (defBody sLMoved) (defScope sLMoved) .none kV21 dc21 pm21 an21 cd21 ct21), sl21⟩)
    (c21 : PySem.W.codeIn K cd21 "_law_moved" = true) (k21 : PySem.W.keepIn K (.ref f21) = true)
    {f22 : Addr} {od22 an22 : Option Addr} {sl22 : Array (Option Value)} {oc22 kV22 dc22 pm22 cd22 ct22 : Value}
    (a22 : PySem.W.nsIn K mainGlobals "_law_moves" = some (some (.ref f22)))
    (l22 : K.lookup f22 = some ⟨oc22, od22, .func (PySem.W.fnOf "_law_moves" "_law_moves" (defArgs sLMoves) (defBody sLMoves) (defScope sLMoves) .none kV22 dc22 pm22 an22 cd22 ct22), sl22⟩)
    (c22 : PySem.W.codeIn K cd22 "_law_moves" = true) (k22 : PySem.W.keepIn K (.ref f22) = true)
    {f23 : Addr} {od23 an23 : Option Addr} {sl23 : Array (Option Value)} {oc23 kV23 dc23 pm23 cd23 ct23 : Value}
    (a23 : PySem.W.nsIn K mainGlobals "_law_reachable" = some (some (.ref f23)))
    (l23 : K.lookup f23 = some ⟨oc23, od23, .func (PySem.W.fnOf "_law_reachable" "_law_reachable" (defArgs sLReach) (defBody sLReach) (defScope sLReach) .none kV23 dc23 pm23 an23 cd23 ct23), sl23⟩)
    (c23 : PySem.W.codeIn K cd23 "_law_reachable" = true) (k23 : PySem.W.keepIn K (.ref f23) = true)
    {f24 : Addr} {od24 an24 : Option Addr} {sl24 : Array (Option Value)} {oc24 kV24 dc24 pm24 cd24 ct24 : Value}
    (a24 : PySem.W.nsIn K mainGlobals "_law_leading_back" = some (some (.ref f24)))
    (l24 : K.lookup f24 = some ⟨oc24, od24, .func (PySem.W.fnOf "_law_leading_back" "_law_leading_back" (defArgs sLLeadingBack) (defBody sLLeadingBack) (defScope sLLeadingBack) .none kV24 dc24 pm24 an24 cd24 ct24), sl24⟩)
    (c24 : PySem.W.codeIn K cd24 "_law_leading_back" = true) (k24 : PySem.W.keepIn K (.ref f24) = true)
    {f25 : Addr} {od25 an25 : Option Addr} {sl25 : Array (Option Value)} {oc25 kV25 dc25 pm25 cd25 ct25 : Value}
    (a25 : PySem.W.nsIn K mainGlobals "_law_count_or_none" = some (some (.ref f25)))
    (l25 : K.lookup f25 = some ⟨oc25, od25, .func (PySem.W.fnOf "_law_count_or_none" "_law_count_or_none" (defArgs sLCountOrNone) (defBody sLCountOrNone) (defScope sLCountOrNone) .none kV25 dc25 pm25 an25 cd25 ct25), sl25⟩)
    (c25 : PySem.W.codeIn K cd25 "_law_count_or_none" = true) (k25 : PySem.W.keepIn K (.ref f25) = true)
    {f26 : Addr} {od26 an26 : Option Addr} {sl26 : Array (Option Value)} {oc26 kV26 dc26 pm26 cd26 ct26 : Value}
    (a26 : PySem.W.nsIn K mainGlobals "law" = some (some (.ref f26)))
    (l26 : K.lookup f26 = some ⟨oc26, od26, .func (PySem.W.fnOf "law" "law" (defArgs sLaw) (defBody sLaw) (defScope sLaw) .none kV26 dc26 pm26 an26 cd26 ct26), sl26⟩)
    (c26 : PySem.W.codeIn K cd26 "law" = true) (k26 : PySem.W.keepIn K (.ref f26) = true)
    (z_abs : PySem.W.nsIn K mainGlobals "abs" = some none) (z_len : PySem.W.nsIn K mainGlobals "len" = some none) (z_list : PySem.W.nsIn K mainGlobals "list" = some none) (z_range : PySem.W.nsIn K mainGlobals "range" = some none) (z_min : PySem.W.nsIn K mainGlobals "min" = some none) (z_max : PySem.W.nsIn K mainGlobals "max" = some none) (z_tuple : PySem.W.nsIn K mainGlobals "tuple" = some none) (z_sorted : PySem.W.nsIn K mainGlobals "sorted" = some none) (z_isinstance : PySem.W.nsIn K mainGlobals "isinstance" = some none) (z_all : PySem.W.nsIn K mainGlobals "all" = some none) (z_zip : PySem.W.nsIn K mainGlobals "zip" = some none) (z_bool : PySem.W.nsIn K mainGlobals "bool" = some none) (z_int : PySem.W.nsIn K mainGlobals "int" = some none) (z_str : PySem.W.nsIn K mainGlobals "str" = some none) (z_repr : PySem.W.nsIn K mainGlobals "repr" = some none) (z_any : PySem.W.nsIn K mainGlobals "any" = some none) : LawAt P w K mg 7 fa (spLaw K) := by
  have e := hfa.symm.trans (PySem.W.mg_of X G a26)
  cases e
  have T : Nm mg := ⟨PySem.W.mg_none_of X G z_abs, PySem.W.mg_none_of X G z_len, PySem.W.mg_none_of X G z_list, PySem.W.mg_none_of X G z_range, PySem.W.mg_none_of X G z_min, PySem.W.mg_none_of X G z_max, PySem.W.mg_none_of X G z_tuple, PySem.W.mg_none_of X G z_sorted, PySem.W.mg_none_of X G z_isinstance, PySem.W.mg_none_of X G z_all, PySem.W.mg_none_of X G z_zip, PySem.W.mg_none_of X G z_bool, PySem.W.mg_none_of X G z_int, PySem.W.mg_none_of X G z_str, PySem.W.mg_none_of X G z_repr⟩
  obtain ⟨hTightRegion, vTightRegion⟩ := cf_mk (x := "TightRegion") (q := "TightRegion.__init__") (st := iTightRegion) (ps := ["self", "room"]) X G (fun fd F => F.binds fun _ _ _ _ _ _ us hl => match us, hl with | [_, _], _ => rfl) uTightRegiona uTightRegionb uTightRegionc uTightRegiond uTightRegione uTightRegionf uTightRegiong uTightRegionh uTightRegioni uTightRegionj uTightRegionk uTightRegionl uTightRegionm uTightRegionn uTightRegionp uTightRegionq
  have F1 := fun_mk (st := sNb) l1 c1 k1
  have b1 := F1.binds (ps := ["house", "room"]) fun _ _ _ _ _ _ us hl => match us, hl with | [_, _], _ => rfl
  have F2 := fun_mk (st := sComp) l2 c2 k2
  have b2 := F2.binds (ps := ["house", "rooms"]) fun _ _ _ _ _ _ us hl => match us, hl with | [_, _], _ => rfl
  have F3 := fun_mk (st := sSteps) l3 c3 k3
  have b3 := F3.binds (ps := ["house", "goal", "rooms"]) fun _ _ _ _ _ _ us hl => match us, hl with | [_, _, _], _ => rfl
  have F4 := fun_mk (st := sPIn) l4 c4 k4
  have b4 := F4.binds (ps := ["placement", "room"]) fun _ _ _ _ _ _ us hl => match us, hl with | [_, _], _ => rfl
  have F5 := fun_mk (st := sPWi) l5 c5 k5
  have b5 := F5.binds (ps := ["placement", "rooms"]) fun _ _ _ _ _ _ us hl => match us, hl with | [_, _], _ => rfl
  have F6 := fun_mk (st := sFReg) l6 c6 k6
  have b6 := F6.binds (ps := ["house", "placement"]) fun _ _ _ _ _ _ us hl => match us, hl with | [_, _], _ => rfl
  have F7 := fun_mk (st := sSurp) l7 c7 k7
  have b7 := F7.binds (ps := ["placement", "region"]) fun _ _ _ _ _ _ us hl => match us, hl with | [_, _], _ => rfl
  have F8 := fun_mk (st := sIsTight) l8 c8 k8
  have b8 := F8.binds (ps := ["placement", "region"]) fun _ _ _ _ _ _ us hl => match us, hl with | [_, _], _ => rfl
  have F9 := fun_mk (st := sMutual) l9 c9 k9
  have b9 := F9.binds (ps := ["house", "one", "other"]) fun _ _ _ _ _ _ us hl => match us, hl with | [_, _, _], _ => rfl
  have F10 := fun_mk (st := sLasting) l10 c10 k10
  have b10 := F10.binds (ps := ["placement", "region"]) fun _ _ _ _ _ _ us hl => match us, hl with | [_, _], _ => rfl
  have F11 := fun_mk (st := sSameP) l11 c11 k11
  have b11 := F11.binds (ps := ["one", "other", "rooms"]) fun _ _ _ _ _ _ us hl => match us, hl with | [_, _, _], _ => rfl
  have F12 := fun_mk (st := sCSize) l12 c12 k12
  have b12 := F12.binds (ps := ["house", "placement"]) fun _ _ _ _ _ _ us hl => match us, hl with | [_, _], _ => rfl
  have F13 := fun_mk (st := sFullA) l13 c13 k13
  have b13 := F13.binds (ps := ["people", "rooms"]) fun _ _ _ _ _ _ us hl => match us, hl with | [_, _], _ => rfl
  have F14 := fun_mk (st := sCountReachable) l14 c14 k14
  have b14 := F14.binds (ps := ["house", "placement"]) fun _ _ _ _ _ _ us hl => match us, hl with | [_, _], _ => rfl
  have F15 := fun_mk (st := sStream) l15 c15 k15
  have b15 := F15.binds (ps := ["_law_script"]) fun _ _ _ _ _ _ us hl => match us, hl with | [_], _ => rfl
  have F16 := fun_mk (st := sNames) l16 c16 k16
  have b16 := F16.binds (ps := ["_law_stream_here", "_law_many"]) fun _ _ _ _ _ _ us hl => match us, hl with | [_, _], _ => rfl
  have F17 := fun_mk (st := sDraw) l17 c17 k17
  have b17 := F17.binds (ps := ["_law_stream_here", "_law_many"]) fun _ _ _ _ _ _ us hl => match us, hl with | [_, _], _ => rfl
  have F18 := fun_mk (st := sHouse) l18 c18 k18
  have b18 := F18.binds (ps := ["_law_stream_here", "_law_least", "_law_most"]) fun _ _ _ _ _ _ us hl => match us, hl with | [_, _, _], _ => rfl
  have F19 := fun_mk (st := sPl) l19 c19 k19
  have b19 := F19.binds (ps := ["_law_stream_here", "_law_house_here", "_law_most"]) fun _ _ _ _ _ _ us hl => match us, hl with | [_, _, _], _ => rfl
  have F20 := fun_mk (st := sLNb) l20 c20 k20
  have b20 := F20.binds (ps := ["_law_house_here", "_law_room"]) fun _ _ _ _ _ _ us hl => match us, hl with | [_, _], _ => rfl
  have F21 := fun_mk (st := sLMoved) l21 c21 k21
  have b21 := F21.binds (ps := ["_law_placement_here", "_law_name", "_law_room"]) fun _ _ _ _ _ _ us hl => match us, hl with | [_, _, _], _ => rfl
  have F22 := fun_mk (st := sLMoves) l22 c22 k22
  have b22 := F22.binds (ps := ["_law_house_here", "_law_placement_here"]) fun _ _ _ _ _ _ us hl => match us, hl with | [_, _], _ => rfl
  have F23 := fun_mk (st := sLReach) l23 c23 k23
  have b23 := F23.binds (ps := ["_law_house_here", "_law_placement_here"]) fun _ _ _ _ _ _ us hl => match us, hl with | [_, _], _ => rfl
  have F24 := fun_mk (st := sLLeadingBack) l24 c24 k24
  have b24 := F24.binds (ps := ["_law_house_here", "_law_known", "_law_placement_here"]) fun _ _ _ _ _ _ us hl => match us, hl with | [_, _, _], _ => rfl
  have F25 := fun_mk (st := sLCountOrNone) l25 c25 k25
  have b25 := F25.binds (ps := ["_law_house_here", "_law_placement_here"]) fun _ _ _ _ _ _ us hl => match us, hl with | [_, _], _ => rfl
  have F26 := fun_mk (st := sLaw) l26 c26 k26
  have Z : All K mg := ⟨T, PySem.W.mg_none_of X G z_any, ⟨_, he_mk X G uHEa uHEb uHEc uHEd, ⟨_, _, _, vTightRegion, uTightRegiono⟩⟩, ⟨_, _, ⟨F1, b1, PySem.W.mg_of X G a1⟩⟩, ⟨_, _, ⟨F2, b2, PySem.W.mg_of X G a2⟩⟩, ⟨_, _, ⟨F3, b3, PySem.W.mg_of X G a3⟩⟩, ⟨_, _, ⟨F4, b4, PySem.W.mg_of X G a4⟩⟩, ⟨_, _, ⟨F5, b5, PySem.W.mg_of X G a5⟩⟩, ⟨_, _, ⟨F6, b6, PySem.W.mg_of X G a6⟩⟩, ⟨_, _, ⟨F7, b7, PySem.W.mg_of X G a7⟩⟩, ⟨_, _, ⟨F8, b8, PySem.W.mg_of X G a8⟩⟩, ⟨_, _, ⟨F9, b9, PySem.W.mg_of X G a9⟩⟩, ⟨_, _, ⟨F10, b10, PySem.W.mg_of X G a10⟩⟩, ⟨_, _, ⟨F11, b11, PySem.W.mg_of X G a11⟩⟩, ⟨_, _, ⟨F12, b12, PySem.W.mg_of X G a12⟩⟩, ⟨_, _, ⟨F13, b13, PySem.W.mg_of X G a13⟩⟩, ⟨_, _, ⟨F14, b14, PySem.W.mg_of X G a14⟩⟩, ⟨_, _, ⟨F15, b15, PySem.W.mg_of X G a15⟩⟩, ⟨_, _, ⟨F16, b16, PySem.W.mg_of X G a16⟩⟩, ⟨_, _, ⟨F17, b17, PySem.W.mg_of X G a17⟩⟩, ⟨_, _, ⟨F18, b18, PySem.W.mg_of X G a18⟩⟩, ⟨_, _, ⟨F19, b19, PySem.W.mg_of X G a19⟩⟩, ⟨_, _, ⟨F20, b20, PySem.W.mg_of X G a20⟩⟩, ⟨_, _, ⟨F21, b21, PySem.W.mg_of X G a21⟩⟩, ⟨_, _, ⟨F22, b22, PySem.W.mg_of X G a22⟩⟩, ⟨_, _, ⟨F23, b23, PySem.W.mg_of X G a23⟩⟩, ⟨_, _, ⟨F24, b24, PySem.W.mg_of X G a24⟩⟩, ⟨_, _, ⟨F25, b25, PySem.W.mg_of X G a25⟩⟩⟩
  refine ⟨_, fun s v => ?_, fun base _ _ => ok_law F26 Z⟩
  exact .of_eq rfl
theorem tells : Tells spLaw := fun K H a ns hl hS => ⟨a, ns, rfl, hS, hl, fun _ => rfl⟩
end Fw

open PySem PySem.W PyProof.Rows in
set_option maxRecDepth 100000 in
set_option maxHeartbeats 0 in
theorem PySem.Challenge.cw_fromwithin_k56_whole_classes_by_search_holds : PySem.Challenge.rw_fromwithin_k56_whole_classes_by_search.Holds := by
  w_on; o_law; k_head; (case hw => w_witness2)
  k_fill
  refine Fw.walkG (l := PySem.Challenge.rw_fromwithin_k56_whole_classes_by_search) (k := 7) Fw.tells rfl rfl ⟨rfl, by decide, by decide⟩ (fun w h Y => PySem.W.kIn_of Y) ?F
  case F =>
    intro w mg fa h KX G hmg
    refine' Fw.all_mk KX G hmg ?uHEa ?uHEb ?uHEc ?uHEd ?uTightRegiona ?uTightRegionb ?uTightRegionc ?uTightRegiond ?uTightRegione ?uTightRegionf ?uTightRegiong ?uTightRegionh ?uTightRegioni ?uTightRegionj ?uTightRegionk ?uTightRegionl ?uTightRegionm ?uTightRegionn ?uTightRegiono ?uTightRegionp ?uTightRegionq ?a1 ?l1 ?c1 ?k1 ?a2 ?l2 ?c2 ?k2 ?a3 ?l3 ?c3 ?k3 ?a4 ?l4 ?c4 ?k4 ?a5 ?l5 ?c5 ?k5 ?a6 ?l6 ?c6 ?k6 ?a7 ?l7 ?c7 ?k7 ?a8 ?l8 ?c8 ?k8 ?a9 ?l9 ?c9 ?k9 ?a10 ?l10 ?c10 ?k10 ?a11 ?l11 ?c11 ?k11 ?a12 ?l12 ?c12 ?k12 ?a13 ?l13 ?c13 ?k13 ?a14 ?l14 ?c14 ?k14 ?a15 ?l15 ?c15 ?k15 ?a16 ?l16 ?c16 ?k16 ?a17 ?l17 ?c17 ?k17 ?a18 ?l18 ?c18 ?k18 ?a19 ?l19 ?c19 ?k19 ?a20 ?l20 ?c20 ?k20 ?a21 ?l21 ?c21 ?k21 ?a22 ?l22 ?c22 ?k22 ?a23 ?l23 ?c23 ?k23 ?a24 ?l24 ?c24 ?k24 ?a25 ?l25 ?c25 ?k25 ?a26 ?l26 ?c26 ?k26 ?z_abs ?z_len ?z_list ?z_range ?z_min ?z_max ?z_tuple ?z_sorted ?z_isinstance ?z_all ?z_zip ?z_bool ?z_int ?z_str ?z_repr ?z_any
    (case uHEa => k_is)
    (case uHEb => k_is)
    (case uHEc => k_is)
    (case uHEd => k_is)
    (case uTightRegiona => k_is)
    (case uTightRegionb => k_is)
    (case uTightRegionc => k_is)
    (case uTightRegiond => k_is)
    (case uTightRegione => k_is)
    (case uTightRegionf => k_is)
    (case uTightRegiong => k_is)
    (case uTightRegionh => k_is)
    (case uTightRegioni => k_is)
    (case uTightRegionj => k_is)
    (case uTightRegionk => k_is)
    (case uTightRegionl => k_is)
    (case uTightRegionm => k_is)
    (case uTightRegionn => k_is)
    (case uTightRegiono => k_is)
    (case uTightRegionp => k_is)
    (case uTightRegionq => k_is)
    (case a1 => k_is)
    (case l1 => k_is)
    (case c1 => k_is)
    (case k1 => k_is)
    (case a2 => k_is)
    (case l2 => k_is)
    (case c2 => k_is)
    (case k2 => k_is)
    (case a3 => k_is)
    (case l3 => k_is)
    (case c3 => k_is)
    (case k3 => k_is)
    (case a4 => k_is)
    (case l4 => k_is)
    (case c4 => k_is)
    (case k4 => k_is)
    (case a5 => k_is)
    (case l5 => k_is)
    (case c5 => k_is)
    (case k5 => k_is)
    (case a6 => k_is)
    (case l6 => k_is)
    (case c6 => k_is)
    (case k6 => k_is)
    (case a7 => k_is)
    (case l7 => k_is)
    (case c7 => k_is)
    (case k7 => k_is)
    (case a8 => k_is)
    (case l8 => k_is)
    (case c8 => k_is)
    (case k8 => k_is)
    (case a9 => k_is)
    (case l9 => k_is)
    (case c9 => k_is)
    (case k9 => k_is)
    (case a10 => k_is)
    (case l10 => k_is)
    (case c10 => k_is)
    (case k10 => k_is)
    (case a11 => k_is)
    (case l11 => k_is)
    (case c11 => k_is)
    (case k11 => k_is)
    (case a12 => k_is)
    (case l12 => k_is)
    (case c12 => k_is)
    (case k12 => k_is)
    (case a13 => k_is)
    (case l13 => k_is)
    (case c13 => k_is)
    (case k13 => k_is)
    (case a14 => k_is)
    (case l14 => k_is)
    (case c14 => k_is)
    (case k14 => k_is)
    (case a15 => k_is)
    (case l15 => k_is)
    (case c15 => k_is)
    (case k15 => k_is)
    (case a16 => k_is)
    (case l16 => k_is)
    (case c16 => k_is)
    (case k16 => k_is)
    (case a17 => k_is)
    (case l17 => k_is)
    (case c17 => k_is)
    (case k17 => k_is)
    (case a18 => k_is)
    (case l18 => k_is)
    (case c18 => k_is)
    (case k18 => k_is)
    (case a19 => k_is)
    (case l19 => k_is)
    (case c19 => k_is)
    (case k19 => k_is)
    (case a20 => k_is)
    (case l20 => k_is)
    (case c20 => k_is)
    (case k20 => k_is)
    (case a21 => k_is)
    (case l21 => k_is)
    (case c21 => k_is)
    (case k21 => k_is)
    (case a22 => k_is)
    (case l22 => k_is)
    (case c22 => k_is)
    (case k22 => k_is)
    (case a23 => k_is)
    (case l23 => k_is)
    (case c23 => k_is)
    (case k23 => k_is)
    (case a24 => k_is)
    (case l24 => k_is)
    (case c24 => k_is)
    (case k24 => k_is)
    (case a25 => k_is)
    (case l25 => k_is)
    (case c25 => k_is)
    (case k25 => k_is)
    (case a26 => k_is)
    (case l26 => k_is)
    (case c26 => k_is)
    (case k26 => k_is)
    (case z_abs => k_is)
    (case z_len => k_is)
    (case z_list => k_is)
    (case z_range => k_is)
    (case z_min => k_is)
    (case z_max => k_is)
    (case z_tuple => k_is)
    (case z_sorted => k_is)
    (case z_isinstance => k_is)
    (case z_all => k_is)
    (case z_zip => k_is)
    (case z_bool => k_is)
    (case z_int => k_is)
    (case z_str => k_is)
    (case z_repr => k_is)
    (case z_any => k_is)
