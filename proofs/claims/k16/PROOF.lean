import PyProof.Rows.All
import Wide.All
import OpenK.AllK
import Wide.FinOn
import HandS.ForMost
import HandS.Wide
import HandS.Conv
import HandS.Style
import HandS.Sort
import HandS.SortRule
import HandS.SortInts
import HandS.Deep
import HandS.Text
import HandS.Words
import HandS.IsInst
import HandS.Zip
import HandS.Walk
import KE.KDictPairs
import HandS.ExcInit
import HandS.ExcField
import HandS.SetFor
import KE.KExcIs
import HandS.ExcOwn
import HandS.TryMany
import HandS.WordsExc
import KE.KTryMore
import PyProof.EqKinds
import KE.KDictKeyed
import KE.KeyNested
import KE.KDictLaw
import KE.KDictDisplayH
import HandS.Iter
import PySem.Challenge.RW_fromwithin_k16_whole_moves_reversed
set_option Elab.async false
set_option linter.all false
set_option maxRecDepth 100000
/-! Forests grown room by room: simple ways in them are unique. -/
namespace Fw

def adj (D : List (Int × Int)) (a b : Int) : Prop := (a, b) ∈ D ∨ (b, a) ∈ D

theorem adj_symm {D : List (Int × Int)} {a b : Int} (h : adj D a b) : adj D b a := h.symm

/-- a way without a room twice -/
inductive SP (R : Int → Int → Prop) : Int → Int → List Int → Prop
  | one (a : Int) : SP R a a [a]
  | cons {a c b : Int} {p : List Int} : R a c → SP R c b p → a ∉ p → SP R a b (a :: p)

section
variable {R R' : Int → Int → Prop}
theorem SP.head {a b : Int} {p : List Int} (h : SP R a b p) : a ∈ p := by
  cases h <;> simp
theorem SP.last {a b : Int} {p : List Int} (h : SP R a b p) : b ∈ p := by
  induction h with
  | one a => simp
  | cons _ _ _ ih => exact List.mem_cons_of_mem _ ih
theorem SP.loop {a : Int} {p : List Int} (h : SP R a a p) : p = [a] := by
  cases h with
  | one => rfl
  | cons r q n => exact absurd q.last n
theorem SP.nodup {a b : Int} {p : List Int} (h : SP R a b p) : p.Nodup := by
  induction h with
  | one a => simp
  | cons _ _ n ih => exact List.nodup_cons.mpr ⟨n, ih⟩
theorem SP.snoc {a b c : Int} {p : List Int} (h : SP R a b p) (r : R b c) (n : c ∉ p) : SP R a c (p ++ [c]) := by
  induction h with
  | one a =>
    refine .cons r (.one c) ?_
    intro e
    have e : a = c := List.mem_singleton.mp e
    exact n (by rw [e]; simp)
  | cons r' q n' ih =>
    rename_i a' c' b' p'
    rw [List.mem_cons, not_or] at n
    refine .cons r' (ih r n.2) ?_
    intro e
    rcases List.mem_append.mp e with e | e
    · exact n' e
    · exact n.1 (List.mem_singleton.mp e).symm
theorem SP.map {a b : Int} {p : List Int} (h : SP R a b p) (f : ∀ x y, x ∈ p → y ∈ p → R x y → R' x y) : SP R' a b p := by
  induction h with
  | one a => exact .one a
  | cons r q n ih =>
    exact .cons (f _ _ (List.mem_cons_self ..) (List.mem_cons_of_mem _ q.head) r) (ih fun x y hx hy => f x y (List.mem_cons_of_mem _ hx) (List.mem_cons_of_mem _ hy)) n
/-- what is closed under R and holds the end holds the start, and the other way -/
theorem SP.back {S : Int → Prop} (hs : ∀ x y, R x y → S y → S x) {a b : Int} {p : List Int} (h : SP R a b p) (e : S b) : S a := by
  induction h with
  | one a => exact e
  | cons r _ _ ih => exact hs _ _ r (ih e)
theorem SP.forth {S : Int → Prop} (hs : ∀ x y, R x y → S x → S y) {a b : Int} {p : List Int} (h : SP R a b p) (e : S a) : S b := by
  induction h with
  | one a => exact e
  | cons r _ _ ih => exact ih (hs _ _ r e)
end

def Uniq (R : Int → Int → Prop) : Prop := ∀ a b p q, SP R a b p → SP R a b q → p = q

section
variable {R R' : Int → Int → Prop} {u v : Int}
/-- one more leaf v, on u -/
structure Leaf (R R' : Int → Int → Prop) (u v : Int) : Prop where
  iff : ∀ x y, R' x y ↔ (R x y ∨ (x = u ∧ y = v) ∨ (x = v ∧ y = u))
  no1 : ∀ x, ¬ R v x
  no2 : ∀ x, ¬ R x v
  ne : u ≠ v
theorem Leaf.into (L : Leaf R R' u v) {x : Int} (h : R' x v) : x = u := by
  rcases (L.iff x v).mp h with h | h | h
  · exact absurd h (L.no2 x)
  · exact h.1
  · exact absurd h.2.symm L.ne
theorem Leaf.out (L : Leaf R R' u v) {x : Int} (h : R' v x) : x = u := by
  rcases (L.iff v x).mp h with h | h | h
  · exact absurd h (L.no1 x)
  · exact absurd h.1.symm L.ne
  · exact h.2
theorem Leaf.off (L : Leaf R R' u v) {x y : Int} (hx : x ≠ v) (hy : y ≠ v) (h : R' x y) : R x y := by
  rcases (L.iff x y).mp h with h | h | h
  · exact h
  · exact absurd h.2 hy
  · exact absurd h.1 hx
theorem Leaf.avoid (L : Leaf R R' u v) {a b : Int} {p : List Int} (h : SP R' a b p) (n : v ∉ p) : SP R a b p :=
  h.map fun x y hx hy r => L.off (fun e => n (e ▸ hx)) (fun e => n (e ▸ hy)) r
theorem Leaf.free (L : Leaf R R' u v) {a b : Int} {p : List Int} (h : SP R' a b p) (ha : a ≠ v) (hb : b ≠ v) : v ∉ p := by
  induction h with
  | one a =>
    intro e
    rw [List.mem_singleton] at e
    exact ha e.symm
  | cons r q n ih =>
    rename_i a' c' b' p'
    by_cases hc : c' = v
    · subst hc
      have e := L.into r
      cases q with
      | one => exact absurd rfl hb
      | cons r2 q2 n2 =>
        rename_i c2 p2
        have e2 := L.out r2
        exact absurd (List.mem_cons_of_mem _ (e ▸ e2 ▸ q2.head)) n
    · intro e
      rw [List.mem_cons] at e
      rcases e with e | e
      · exact ha e.symm
      · exact ih hc hb e
theorem Leaf.from (L : Leaf R R' u v) {b : Int} {p : List Int} (h : SP R' v b p) (hb : b ≠ v) : ∃ p', p = v :: p' ∧ SP R u b p' := by
  cases h with
  | one => exact absurd rfl hb
  | cons r q n =>
    rename_i c p'
    have e := L.out r
    subst e
    exact ⟨p', rfl, L.avoid q n⟩
theorem Leaf.to (L : Leaf R R' u v) {a b : Int} {p : List Int} (h : SP R' a b p) : a ≠ v → b = v → ∃ p', p = p' ++ [v] ∧ SP R a u p' := by
  induction h with
  | one a =>
    intro h1 h2
    exact absurd h2 h1
  | cons r q n ih =>
    rename_i a' c' b' p'
    intro h1 h2
    by_cases hc : c' = v
    · subst hc
      subst h2
      have e := L.into r
      subst e
      have e2 := q.loop
      subst e2
      exact ⟨[a'], rfl, .one _⟩
    · obtain ⟨p2, e, q2⟩ := ih hc h2
      refine ⟨a' :: p2, by rw [e]; rfl, .cons (L.off h1 hc r) q2 ?_⟩
      intro m
      exact n (by rw [e]; exact List.mem_append_left _ m)
theorem Leaf.uniq (L : Leaf R R' u v) (U : Uniq R) : Uniq R' := by
  intro a b p q hp hq
  by_cases ha : a = v
  · subst ha
    by_cases hb : b = a
    · subst hb
      rw [hp.loop, hq.loop]
    · obtain ⟨p', e1, s1⟩ := L.from hp hb
      obtain ⟨q', e2, s2⟩ := L.from hq hb
      rw [e1, e2, U _ _ _ _ s1 s2]
  · by_cases hb : b = v
    · obtain ⟨p', e1, s1⟩ := L.to hp ha hb
      obtain ⟨q', e2, s2⟩ := L.to hq ha hb
      rw [e1, e2, U _ _ _ _ s1 s2]
    · exact U _ _ _ _ (L.avoid hp (L.free hp ha hb)) (L.avoid hq (L.free hq ha hb))
end

/-- a forest, room by room: the rooms that stand, and the doors -/
inductive Grown : List Int → List (Int × Int) → Prop
  | nil : Grown [] []
  | room {U : List Int} {E : List (Int × Int)} (v : Int) : Grown U E → v ∉ U → Grown (v :: U) E
  | door {U : List Int} {E : List (Int × Int)} (v u a b : Int) : Grown U E → v ∉ U → u ∈ U → (a = min u v ∧ b = max u v) → Grown (v :: U) ((a, b) :: E)

theorem minmax (u v a b : Int) (h : a = min u v ∧ b = max u v) : (a = u ∧ b = v ∧ u ≤ v) ∨ (a = v ∧ b = u ∧ v ≤ u) := by
  omega

theorem Grown.ends {U : List Int} {E : List (Int × Int)} (g : Grown U E) : ∀ a b, (a, b) ∈ E → a ∈ U ∧ b ∈ U ∧ a < b := by
  induction g with
  | nil => intro a b h; cases h
  | room v g n ih => intro a b h; exact ⟨List.mem_cons_of_mem _ (ih a b h).1, List.mem_cons_of_mem _ (ih a b h).2.1, (ih a b h).2.2⟩
  | door v u x y g n hu hm ih =>
    intro a b h
    have hne : u ≠ v := fun e => n (e ▸ hu)
    rw [List.mem_cons] at h
    rcases h with h | h
    · injection h with h1 h2
      subst h1 h2
      rcases minmax u v a b hm with ⟨h1, h2, h3⟩ | ⟨h1, h2, h3⟩
      · subst h1 h2
        exact ⟨List.mem_cons_of_mem _ hu, List.mem_cons_self .., by omega⟩
      · subst h1 h2
        exact ⟨List.mem_cons_self .., List.mem_cons_of_mem _ hu, by omega⟩
    · exact ⟨List.mem_cons_of_mem _ (ih a b h).1, List.mem_cons_of_mem _ (ih a b h).2.1, (ih a b h).2.2⟩

theorem Grown.nodup {U : List Int} {E : List (Int × Int)} (g : Grown U E) : E.Nodup := by
  induction g with
  | nil => exact List.nodup_nil
  | room v g n ih => exact ih
  | door v u x y g n hu hm ih =>
    refine List.nodup_cons.mpr ⟨fun h => ?_, ih⟩
    have e := g.ends x y h
    rcases minmax u v x y hm with ⟨h1, h2, _⟩ | ⟨h1, h2, _⟩
    · exact n (h2 ▸ e.2.1)
    · exact n (h1 ▸ e.1)

theorem Grown.length {U : List Int} {E : List (Int × Int)} (g : Grown U E) : E.length ≤ U.length := by
  induction g with
  | nil => exact Nat.le_refl _
  | room v g n ih => exact Nat.le_succ_of_le ih
  | door v u x y g n hu hm ih => exact Nat.succ_le_succ ih

theorem Grown.uniq {U : List Int} {E : List (Int × Int)} (g : Grown U E) : Uniq (adj E) := by
  induction g with
  | nil =>
    intro a b p q hp hq
    have k : ∀ {p : List Int}, SP (adj []) a b p → p = [a] := by
      intro p hp
      cases hp with
      | one => rfl
      | cons r _ _ => rcases r with r | r <;> cases r
    rw [k hp, k hq]
  | room v g n ih => exact ih
  | @door U E v u x y g n hu hm ih =>
    have L : Leaf (adj E) (adj ((x, y) :: E)) u v := by
      refine ⟨fun a b => ?_, fun z h => ?_, fun z h => ?_, fun e => n (e ▸ hu)⟩
      · unfold adj
        simp only [List.mem_cons, Prod.mk.injEq]
        rcases minmax u v x y hm with ⟨h1, h2, _⟩ | ⟨h1, h2, _⟩
        · subst h1 h2
          constructor
          · rintro ((h | h) | (h | h))
            · exact .inr (.inl h)
            · exact .inl (.inl h)
            · exact .inr (.inr ⟨h.2, h.1⟩)
            · exact .inl (.inr h)
          · rintro ((h | h) | h | h)
            · exact .inl (.inr h)
            · exact .inr (.inr h)
            · exact .inl (.inl h)
            · exact .inr (.inl ⟨h.2, h.1⟩)
        · subst h1 h2
          constructor
          · rintro ((h | h) | (h | h))
            · exact .inr (.inr h)
            · exact .inl (.inl h)
            · exact .inr (.inl ⟨h.2, h.1⟩)
            · exact .inl (.inr h)
          · rintro ((h | h) | h | h)
            · exact .inl (.inr h)
            · exact .inr (.inr h)
            · exact .inr (.inl ⟨h.2, h.1⟩)
            · exact .inl (.inl h)
      · rcases h with h | h
        · exact n (g.ends _ _ h).1
        · exact n (g.ends _ _ h).2.1
      · rcases h with h | h
        · exact n (g.ends _ _ h).2.1
        · exact n (g.ends _ _ h).1
    exact L.uniq ih

/-- a door stands ahead of another -/
def Dlt (a b : Int × Int) : Prop := a.1 < b.1 ∨ (a.1 = b.1 ∧ a.2 < b.2)
/-- a forest of n rooms, as an ascending list of doors -/
def Forest (n : Int) (D : List (Int × Int)) : Prop := ∃ U E, Grown U E ∧ (∀ x, x ∈ U ↔ 0 ≤ x ∧ x < n) ∧ D.Perm E ∧ U.length ≤ 8 ∧ D.Pairwise Dlt

theorem adj_perm {D E : List (Int × Int)} (h : D.Perm E) : adj D = adj E := by
  funext a b
  unfold adj
  rw [h.mem_iff, h.mem_iff]
theorem Forest.uniq {n : Int} {D : List (Int × Int)} (f : Forest n D) : Uniq (adj D) := by
  obtain ⟨U, E, g, _, p, _⟩ := f
  rw [adj_perm p]
  exact g.uniq
theorem Forest.nodup {n : Int} {D : List (Int × Int)} (f : Forest n D) : D.Nodup := by
  obtain ⟨U, E, g, _, p, _⟩ := f
  exact p.nodup_iff.mpr g.nodup
theorem Forest.up {n : Int} {D : List (Int × Int)} (f : Forest n D) : D.Pairwise Dlt := by
  obtain ⟨U, E, _, _, _, _, u⟩ := f
  exact u
theorem Forest.len {n : Int} {D : List (Int × Int)} (f : Forest n D) : D.length ≤ 8 := by
  obtain ⟨U, E, g, _, p, l, _⟩ := f
  rw [p.length_eq]
  exact Nat.le_trans g.length l
theorem Forest.ends {n : Int} {D : List (Int × Int)} (f : Forest n D) {a b : Int} (h : (a, b) ∈ D) : 0 ≤ a ∧ a < b ∧ b < n := by
  obtain ⟨U, E, g, u, p, _⟩ := f
  have e := g.ends a b (p.mem_iff.mp h)
  exact ⟨((u a).mp e.1).1, e.2.2, ((u b).mp e.2.1).2⟩
theorem Forest.adj {n : Int} {D : List (Int × Int)} (f : Forest n D) {a b : Int} (h : adj D a b) : 0 ≤ a ∧ a < n ∧ 0 ≤ b ∧ b < n := by
  rcases h with h | h
  · have e := f.ends h; omega
  · have e := f.ends h; omega

/-- the adjacent rooms, ascending -/
def nb (n : Int) (D : List (Int × Int)) (r : Int) : List Int := ((List.range n.toNat).map fun (i : Nat) => (i : Int)).filter fun o => decide ((r, o) ∈ D) || decide ((o, r) ∈ D)
theorem mem_nb {n : Int} {D : List (Int × Int)} {r o : Int} : o ∈ nb n D r ↔ (0 ≤ o ∧ o < n) ∧ adj D r o := by
  unfold nb adj
  rw [List.mem_filter, List.mem_map]
  simp only [List.mem_range, Bool.or_eq_true, decide_eq_true_eq]
  constructor
  · rintro ⟨⟨i, hi, rfl⟩, h⟩
    exact ⟨⟨by omega, by omega⟩, h⟩
  · rintro ⟨⟨h0, h1⟩, h⟩
    exact ⟨⟨o.toNat, by omega, by omega⟩, h⟩
theorem Forest.mem_nb {n : Int} {D : List (Int × Int)} (f : Forest n D) {r o : Int} : o ∈ nb n D r ↔ Fw.adj D r o := by
  rw [Fw.mem_nb]
  exact ⟨fun h => h.2, fun h => ⟨⟨(f.adj h).2.2.1, (f.adj h).2.2.2⟩, h⟩⟩
theorem range_up (n : Nat) : ((List.range n).map fun (i : Nat) => (i : Int)).Pairwise (· < ·) := by
  rw [List.pairwise_map]
  exact List.pairwise_lt_range.imp fun h => by omega
theorem nb_up (n : Int) (D : List (Int × Int)) (r : Int) : (nb n D r).Pairwise (· < ·) := (range_up _).filter _
theorem nb_len (n : Int) (D : List (Int × Int)) (r : Int) : (nb n D r).length ≤ n.toNat := by
  unfold nb
  refine Nat.le_trans (List.length_filter_le _ _) ?_
  simp

/-- two ascending lists with the same members are one -/
theorem up_ext : ∀ {xs ys : List Int}, xs.Pairwise (· < ·) → ys.Pairwise (· < ·) → (∀ x, x ∈ xs ↔ x ∈ ys) → xs = ys
  | [], [], _, _, _ => rfl
  | [], y :: ys, _, _, h => absurd ((h y).mpr (List.mem_cons_self ..)) (by simp)
  | x :: xs, [], _, _, h => absurd ((h x).mp (List.mem_cons_self ..)) (by simp)
  | x :: xs, y :: ys, hx, hy, h => by
    obtain ⟨hx1, hx2⟩ := List.pairwise_cons.mp hx
    obtain ⟨hy1, hy2⟩ := List.pairwise_cons.mp hy
    have e : x = y := by
      have h1 := (h x).mp (List.mem_cons_self ..)
      have h2 := (h y).mpr (List.mem_cons_self ..)
      rw [List.mem_cons] at h1 h2
      rcases h1 with h1 | h1
      · exact h1
      · rcases h2 with h2 | h2
        · exact h2.symm
        · have := hy1 _ h1
          have := hx1 _ h2
          omega
    subst e
    rw [up_ext hx2 hy2 fun z => ?_]
    have hz := h z
    rw [List.mem_cons, List.mem_cons] at hz
    constructor
    · intro m
      rcases hz.mp (.inr m) with e | e
      · subst e; have := hx1 _ m; omega
      · exact e
    · intro m
      rcases hz.mpr (.inr m) with e | e
      · subst e; have := hy1 _ m; omega
      · exact e
theorem up_of {xs : List Int} (h : xs.Pairwise (· ≤ ·)) (n : xs.Nodup) : xs.Pairwise (· < ·) := by
  refine (h.and n).imp ?_
  intro a b ⟨h1, h2⟩
  omega

/-- the doors from r and to r, as the law lists them -/
def outs (D : List (Int × Int)) (r : Int) : List Int := (D.filter fun d => decide (d.1 = r)).map (·.2)
def ins (D : List (Int × Int)) (r : Int) : List Int := (D.filter fun d => decide (d.2 = r)).map (·.1)
theorem mem_outs {D : List (Int × Int)} {r o : Int} : o ∈ outs D r ↔ (r, o) ∈ D := by
  unfold outs
  simp only [List.mem_map, List.mem_filter, decide_eq_true_eq]
  constructor
  · rintro ⟨⟨a, b⟩, ⟨h, rfl⟩, rfl⟩; exact h
  · intro h; exact ⟨(r, o), ⟨h, rfl⟩, rfl⟩
theorem mem_ins {D : List (Int × Int)} {r o : Int} : o ∈ ins D r ↔ (o, r) ∈ D := by
  unfold ins
  simp only [List.mem_map, List.mem_filter, decide_eq_true_eq]
  constructor
  · rintro ⟨⟨a, b⟩, ⟨h, rfl⟩, rfl⟩; exact h
  · intro h; exact ⟨(o, r), ⟨h, rfl⟩, rfl⟩
theorem nodup_map_on {α β : Type} {f : α → β} : ∀ {xs : List α}, xs.Nodup → (∀ x y, x ∈ xs → y ∈ xs → f x = f y → x = y) → (xs.map f).Nodup
  | [], _, _ => List.nodup_nil
  | x :: xs, n, h => by
    obtain ⟨n1, n2⟩ := List.nodup_cons.mp n
    rw [List.map_cons]
    refine List.nodup_cons.mpr ⟨fun m => ?_, nodup_map_on n2 fun a b ha hb => h a b (List.mem_cons_of_mem _ ha) (List.mem_cons_of_mem _ hb)⟩
    obtain ⟨y, hy, e⟩ := List.mem_map.mp m
    have := h y x (List.mem_cons_of_mem _ hy) (List.mem_cons_self ..) e
    subst this
    exact n1 hy
theorem Forest.both_nodup {n : Int} {D : List (Int × Int)} (f : Forest n D) (r : Int) : (outs D r ++ ins D r).Nodup := by
  rw [List.nodup_append]
  refine ⟨?_, ?_, ?_⟩
  · refine nodup_map_on (f.nodup.filter _) ?_
    rintro ⟨a, b⟩ ⟨c, d⟩ h1 h2 e
    have e1 := of_decide_eq_true (List.mem_filter.mp h1).2
    have e2 := of_decide_eq_true (List.mem_filter.mp h2).2
    simp only at e e1 e2
    rw [e, e1, e2]
  · refine nodup_map_on (f.nodup.filter _) ?_
    rintro ⟨a, b⟩ ⟨c, d⟩ h1 h2 e
    have e1 := of_decide_eq_true (List.mem_filter.mp h1).2
    have e2 := of_decide_eq_true (List.mem_filter.mp h2).2
    simp only at e e1 e2
    rw [e, e1, e2]
  · intro a ha b hb e
    subst e
    have h1 := f.ends (mem_outs.mp ha)
    have h2 := f.ends (mem_ins.mp hb)
    omega
theorem Forest.sorted_nb {n : Int} {D : List (Int × Int)} (f : Forest n D) {r : Int} {ys : List Int} (p : ys.Perm (outs D r ++ ins D r)) (s : ys.Pairwise (· ≤ ·)) : ys = nb n D r := by
  refine up_ext (up_of s (p.nodup_iff.mpr (f.both_nodup r))) (nb_up n D r) fun x => ?_
  rw [p.mem_iff, List.mem_append, mem_outs, mem_ins, f.mem_nb]
  exact Iff.rfl

/-- the doors to r and from r, one list behind the other, as the program lists them -/
theorem Forest.nb_eq {n : Int} {D : List (Int × Int)} (f : Forest n D) (r : Int) : ins D r ++ outs D r = nb n D r := by
  refine up_ext ?_ (nb_up n D r) fun x => ?_
  · rw [List.pairwise_append]
    refine ⟨?_, ?_, fun a ha b hb => ?_⟩
    · unfold ins
      rw [List.pairwise_map]
      refine (f.up.filter _).imp_of_mem fun {x y} hx hy h => ?_
      have e1 : x.2 = r := of_decide_eq_true (List.mem_filter.mp hx).2
      have e2 : y.2 = r := of_decide_eq_true (List.mem_filter.mp hy).2
      unfold Dlt at h
      omega
    · unfold outs
      rw [List.pairwise_map]
      refine (f.up.filter _).imp_of_mem fun {x y} hx hy h => ?_
      have e1 : x.1 = r := of_decide_eq_true (List.mem_filter.mp hx).2
      have e2 : y.1 = r := of_decide_eq_true (List.mem_filter.mp hy).2
      unfold Dlt at h
      omega
    · have h1 := f.ends (mem_ins.mp ha)
      have h2 := f.ends (mem_outs.mp hb)
      omega
  · rw [List.mem_append, mem_outs, mem_ins, f.mem_nb]
    exact or_comm
/-- how many rooms below n are not in S: it falls when one more is -/
def left (n : Nat) (S : Int → Bool) : Nat := (List.range n).countP fun (i : Nat) => !S (i : Int)
theorem countP_lt {α : Type} {p q : α → Bool} : ∀ {l : List α} {x : α}, (∀ y ∈ l, q y = true → p y = true) → x ∈ l → p x = true → q x = false → l.countP q < l.countP p
  | [], _, _, m, _, _ => by cases m
  | y :: l, x, h, m, hp, hq => by
    have hm : l.countP q ≤ l.countP p := List.countP_mono_left fun z hz => h z (List.mem_cons_of_mem _ hz)
    rw [List.countP_cons, List.countP_cons]
    rw [List.mem_cons] at m
    by_cases e : x = y
    · subst e
      rw [if_neg (by rw [hq]; exact Bool.false_ne_true), if_pos hp]
      omega
    · have ih := countP_lt (fun z hz => h z (List.mem_cons_of_mem _ hz)) (m.resolve_left e) hp hq
      have hy := h y (List.mem_cons_self ..)
      by_cases c : q y = true
      · rw [if_pos c, if_pos (hy c)]; omega
      · rw [if_neg c]; omega
theorem left_lt {n : Nat} {S S' : Int → Bool} {o : Int} (h : ∀ x, S x = true → S' x = true) (h0 : 0 ≤ o) (h1 : o < n) (hs : S o = false) (hs' : S' o = true) : left n S' < left n S := by
  refine countP_lt (x := o.toNat) (fun y _ hy => ?_) (List.mem_range.mpr (by omega)) ?_ ?_
  · cases e : S (y : Int) with
    | false => rfl
    | true => rw [h _ e] at hy; cases hy
  · rw [show ((o.toNat : Nat) : Int) = o by omega, hs]; rfl
  · rw [show ((o.toNat : Nat) : Int) = o by omega, hs']; rfl
theorem left_le (n : Nat) (S : Int → Bool) : left n S ≤ n := by
  refine Nat.le_trans List.countP_le_length ?_
  simp
end Fw
namespace Fw
open PySem PySem.Spec PyProof.Rows L2
def top (i : Nat) : Stmt := PySem.Challenge.pw_fromwithin_k16_whole_moves_reversed.main.body.getD i (.Pass ⟨0, 0, 0, 0⟩)
abbrev sIsInt : Stmt := top 1
abbrev iUnknownPerson : Stmt := inClass (top 4) 0
abbrev iInvalidRoom : Stmt := inClass (top 5) 0
abbrev iNotAdjacent : Stmt := inClass (top 6) 0
abbrev iEmptyRoom : Stmt := inClass (top 7) 0
abbrev sIsRoom : Stmt := top 9
abbrev sNb : Stmt := top 10
abbrev sRoomOf : Stmt := top 12
abbrev sWith : Stmt := top 13
abbrev sPIn : Stmt := top 14
abbrev sPWi : Stmt := top 15
abbrev sMove : Stmt := top 17
abbrev sLegal : Stmt := top 18
abbrev sStream : Stmt := top 20
abbrev sNames : Stmt := top 21
abbrev sDraw : Stmt := top 22
abbrev sHouse : Stmt := top 23
abbrev sPl : Stmt := top 24
abbrev sLNb : Stmt := top 25
abbrev sLMoved : Stmt := top 26
abbrev sLMoves : Stmt := top 27
abbrev sLReach : Stmt := top 28
abbrev sLWalk : Stmt := top 29
abbrev sLRev : Stmt := top 30
abbrev sLRevH : Stmt := top 31
abbrev sLaw : Stmt := top 32
end Fw
namespace Fw
open PySem PySem.Spec PyProof.Rows L2
abbrev vi (ns : List Int) : List V := ns.map V.int

theorem same_upd {H : Hp} {p : Addr} {o : HO} (h : H p = none) : Same H (upd H p o) := fun b x e => by
  rw [upd_ne (ne_of_none e h)]
  exact e

/-- the stream of draws: s the list of three, A the great cells, B all cells; c bounds the count -/
structure StreamAt (H : Hp) (s A B : Addr) (c : Nat) : Prop where
  ex : ∃ (big cells : List Int) (cnt : Int), H s = some (.lst [.ref A, .ref B, .int cnt]) ∧ H A = some (.lst (vi big)) ∧ H B = some (.lst (vi cells)) ∧
    (∀ x ∈ big, 0 ≤ x) ∧ (∀ x ∈ cells, 0 ≤ x) ∧ 0 < cells.length ∧ cells.length ≤ 100 ∧ big.length ≤ 100 ∧ 0 ≤ cnt ∧ cnt ≤ c
  nAB : A ≠ B
  nsA : s ≠ A
  nsB : s ≠ B
/-- all but the stream's own lists stands as before -/
def Fr (s A : Addr) (H H' : Hp) : Prop := ∀ b o, b ≠ s → b ≠ A → H b = some o → H' b = some o
theorem Fr.trans {s A : Addr} {H H1 H2 : Hp} (a : Fr s A H H1) (b : Fr s A H1 H2) : Fr s A H H2 := fun c o h1 h2 e => b c o h1 h2 (a c o h1 h2 e)
theorem Fr.of {s A : Addr} {H H1 : Hp} (a : Same H H1) : Fr s A H H1 := fun c o _ _ e => a c o e

theorem same_put {H H1 : Hp} {p : Addr} {o : HO} (s : Same H H1) (h : H p = none) : Same H (upd H1 p o) := fun b x e => by
  rw [upd_ne (ne_of_none e h)]
  exact s _ _ e
theorem get_vi {ns : List Int} {i : Nat} {x : V} (h : (vi ns)[i]? = some x) : ∃ v, ns[i]? = some v ∧ x = .int v := by
  rw [List.getElem?_map] at h
  cases e : ns[i]? with
  | none => rw [e] at h; cases h
  | some v => rw [e] at h; exact ⟨v, rfl, (Option.some.inj h).symm⟩
theorem vi_app (a b : List Int) : vi (a ++ b) = vi a ++ vi b := List.map_append
def absI (i : Int) : Int := if i < 0 then -i else i
theorem absI_pos (i : Int) : 0 ≤ absI i := by unfold absI; split <;> omega
/-- the builtins' names are not taken -/
structure Nm (mg : Str → Option Value) : Prop where
  abs : mg "abs" = none
  len : mg "len" = none
  list : mg "list" = none
  range : mg "range" = none
  min : mg "min" = none
  max : mg "max" = none
  tuple : mg "tuple" = none
  sorted : mg "sorted" = none
  isinstance : mg "isinstance" = none
  all : mg "all" = none
  zip : mg "zip" = none
  bool : mg "bool" = none
  int : mg "int" = none
  str : mg "str" = none
  repr : mg "repr" = none

/-! ### data -/
theorem dp_ints {K : PySem.W.Frag} {H : Hp} : ∀ ns : List Int, DpAll K H (vi ns) (ns.map PyData.int)
  | [] => .nil
  | n :: ns => .cons (.int n) (dp_ints ns)
theorem lay_ints : ∀ ns : List Int, PyData.canLayAll0 (ns.map PyData.int) = true
  | [] => by simp [PyData.canLayAll0]
  | n :: ns => by
    rw [List.map_cons, PyData.canLayAll0, lay_ints ns, PyData.canLay0]
    rfl
theorem deep_ints : ∀ ns : List Int, PyData.depthAll (ns.map PyData.int) = 0
  | [] => by simp [PyData.depthAll]
  | n :: ns => by
    rw [List.map_cons, PyData.depthAll, deep_ints ns, PyData.depth]
    rfl
theorem shaped_list (ns : List Int) : SeqAt.shaped (.list (ns.map PyData.int)) = true := by
  unfold SeqAt.shaped
  rw [PyData.canLay0, lay_ints, PyData.depth, deep_ints]
  decide
theorem shaped_tup (ns : List Int) : SeqAt.shaped (.tuple (ns.map PyData.int)) = true := by
  unfold SeqAt.shaped
  rw [PyData.canLay0, lay_ints, PyData.depth, deep_ints]
  decide
theorem eqv_nil (ns : List Int) : PyData.eqv (.list (ns.map PyData.int)) (.list []) = ns.isEmpty := by
  rw [PyData.eqv]
  cases ns with
  | nil => rw [List.map_nil, PyData.eqvAll]; rfl
  | cons n ns => rw [List.map_cons, PyData.eqvAll]; rfl
theorem ix0 (n : Nat) : ixN (n + 1) 0 = some 0 := by
  unfold ixN
  rw [if_pos (by omega), if_pos (by omega)]
  rfl
theorem atI0 {α : Type} {x : α} {xs : List α} : atI (x :: xs) 0 = some x := atI_nat (j := 0) rfl
theorem atI1 {α : Type} {x y : α} {xs : List α} : atI (x :: y :: xs) 1 = some y := atI_nat (j := 1) rfl
theorem atI2 {α : Type} {x y z : α} {xs : List α} : atI (x :: y :: z :: xs) 2 = some z := atI_nat (j := 2) rfl

section
variable {P : Program} {w : World} {K : PySem.W.Frag} {mg : Str → Option Value} {base : Heap}

def spStream (K : PySem.W.Frag) : Sp := fun vs H Q _ => ∃ (a : Addr) (ns : List Int), vs = [.ref a] ∧ SqL K H a (ns.map V.int) ∧ ns.length ≤ 63 ∧
  ∀ H' s A B, Same H H' → H s = none → H A = none → StreamAt H' s A B 0 → Q (.ref s) H'

theorem scStream : FnScope ["_law_script", "_law_cells", "_law_cell"] ["_law_script"] (defScope sStream) := ⟨rfl, rfl, rfl, by decide +kernel, rfl, by decide +kernel, by decide +kernel⟩
theorem ok_stream {f : Addr} {fd : FuncData} {k : Nat} (F : Fun K "_law_stream" "_law_stream" sStream f fd) (T : Nm mg) : FnOk P w K mg base CX0 (k + 1) f fd ["_law_script"] (spStream K) := by
  refine F.ok scStream (fun vs H Q E h => ?_) (fun cdv A outer s H vs Q E hr h => ?_)
  · obtain ⟨a, ns, rfl, _⟩ := h
    rfl
  · obtain ⟨a, ns, rfl, hS, hlen, q⟩ := h
    refine ⟨_, pss_cons (ps_setLc (i := 1) (own := [("_law_cell", 2)]) (g := gName 2) (by rfl) scStream.nd rfl rfl (sw_true rfl rfl rfl (by decide +kernel)) (pi_list (pv 0))
        (blkOk_by (own := [("_law_cell", 2)]) (N := ["_law_script", "_law_cells", "_law_cell"]) (sc := defScope sStream) (by decide +kernel))
        (fun _ _ _ _ _ => pg_name (i := 2) scStream.nd rfl (Or.inl rfl)) (fun _ _ _ _ _ => pts_nil)
        (fun _ _ _ _ _ => pe_callB call_abs (by rfl) T.abs (by decide +kernel) (pa_cons (pv 2) pa_nil)))
      (pss_one (ps_ret (pe_lst (pa_cons
        (pe_lc (own := [("_law_cell", 2)]) (g := gName 2) (by rfl) scStream.nd (pi_list (pv 1))
          (blkOk_by (own := [("_law_cell", 2)]) (N := ["_law_script", "_law_cells", "_law_cell"]) (sc := defScope sStream) (by decide +kernel))
          (fun _ _ _ _ _ => pg_name (i := 2) scStream.nd rfl (Or.inl rfl)) (fun _ _ _ _ _ => pts_one (pt_cmpR op_ge (pv 2) (pe_op op_pow pe_int pe_int) (nomark _)))
          (fun _ _ _ _ _ => pv 2))
        (pa_cons (pe_op op_cat (pv 1) (pe_lst (pa_cons (pe_op op_add (pe_callB call_len_seq (by rfl) T.len PySem.boot_len (pa_cons (pv 1) pa_nil)) pe_int) pa_nil)))
        (pa_cons pe_int pa_nil)))))), ?_⟩
    refine ⟨.ref a, rfl, a, rfl, ⟨_, hS⟩, fun D hD => lc_list (K := K) (a := a) (xs := vi ns) (fun i H1 => Same H H1 ∧ H1 D = some (.lst (vi ((ns.map absI).take i))))
      ⟨same_upd hD, upd_same⟩ (fun i H1 _ h => h.1.seq hS) ?_ ?_⟩
    · rintro i x H1 hx ⟨s1, e1⟩
      obtain ⟨v, ev, rfl⟩ := get_vi hx
      refine ⟨rfl, ?_⟩
      unfold tYes
      refine iteT ?_
      refine ⟨_, rfl, v, rfl, _, e1, ?_, ?_, ?_⟩
      · rw [List.length_map, List.length_take, List.length_map]
        exact small1000 (by omega)
      · exact same_put s1 hD
      · rw [upd_same, List.take_add_one, List.getElem?_map, ev, vi_app]
        rfl
    · rintro H1 ⟨s1, e1⟩
      rw [List.length_map, ← List.length_map (f := absI), List.take_length] at e1
      refine ⟨_, rfl, D, rfl, ⟨_, SqL.of e1⟩, fun G hG => lc_list (K := K) (a := D) (xs := vi (ns.map absI)) (fun i H2 => Same H1 H2 ∧ H2 G = some (.lst (vi (((ns.map absI).take i).filter fun x => decide (10 ^ 18 ≤ x)))))
        ⟨same_upd hG, upd_same⟩ (fun i H2 _ h => h.1.seq (SqL.of e1)) ?_ ?_⟩
      · rintro i x H2 hx ⟨s2, e2⟩
        obtain ⟨v, ev, rfl⟩ := get_vi hx
        refine ⟨rfl, _, rfl, _, _, rfl, rfl, ⟨by decide, by decide, by decide⟩, _, _, rfl, rfl, _, rfl, ?_⟩
        have et : ((ns.map absI).take (i + 1)).filter (fun x => decide (10 ^ 18 ≤ x)) = ((ns.map absI).take i).filter (fun x => decide (10 ^ 18 ≤ x)) ++ (if 10 ^ 18 ≤ v then [v] else []) := by
          rw [List.take_add_one, ev, List.filter_append]
          congr 1
          by_cases c : (10 : Int) ^ 18 ≤ v
          · rw [if_pos c]
            show List.filter _ [v] = [v]
            rw [List.filter_cons_of_pos (by simpa using c)]
            rfl
          · rw [if_neg c]
            show List.filter _ [v] = []
            rw [List.filter_cons_of_neg (by simpa using c)]
            rfl
        refine ite2 (fun c => ?_) (fun c => ?_)
        · have c : (10 : Int) ^ 18 ≤ v := of_decide_eq_true c
          refine ⟨_, rfl, _, e2, ?_, same_put s2 hG, ?_⟩
          · rw [List.length_map]
            refine small1000 (Nat.le_trans (List.length_filter_le _ _) ?_)
            rw [List.length_take, List.length_map]
            omega
          · rw [upd_same, et, if_pos c, vi_app]
            rfl
        · have c : ¬ (10 : Int) ^ 18 ≤ v := fun e => c (decide_eq_true e)
          refine ⟨s2, ?_⟩
          rw [et, if_neg c, List.append_nil]
          exact e2
      · rintro H2 ⟨s2, e2⟩
        rw [List.length_map, List.take_length] at e2
        have e1' := s2 _ _ e1
        refine ⟨_, rfl, _, rfl, D, _, rfl, .inl (SqL.of e1'), _, _, rfl, rfl, by show 1 ≤ sizeLine; decide, fun O hO => ?_⟩
        have e1'' := same_upd (o := .lst [.int (((vi (ns.map absI)).length : Nat) + 3)]) hO _ _ e1'
        refine ⟨D, O, _, _, rfl, rfl, e1'', upd_same, ?_, fun B hB => ?_⟩
        · simp only [List.length_map, List.length_append, List.length_cons, List.length_nil]
          exact Nat.le_of_lt (small1000 (by omega))
        refine ⟨by show 3 ≤ sizeLine; decide, fun S hS' => ?_⟩
        have nGS : S ≠ G := fun e => by
          rw [e] at hS'
          exact absurd hS' (by rw [same_upd hB _ _ (same_upd hO _ _ e2)]; exact nofun)
        have nBS : S ≠ B := fun e => by
          rw [e, upd_same] at hS'
          cases hS'
        have nGB : G ≠ B := fun e => by
          rw [← e] at hB
          exact absurd hB (by rw [same_upd hO _ _ e2]; exact nofun)
        have sA : Same H (upd (upd H2 O (.lst [.int (((vi (ns.map absI)).length : Nat) + 3)])) B (.lst (vi (ns.map absI) ++ [.int (((vi (ns.map absI)).length : Nat) + 3)]))) := (s1.trans s2).trans ((same_upd hO).trans (same_upd hB))
        refine q _ S G B (sA.trans (same_upd hS')) (sA.free hS') (s1.free hG) ⟨⟨(ns.map absI).filter (fun x => decide (10 ^ 18 ≤ x)), ns.map absI ++ [((ns.length : Nat) : Int) + 3], 0, upd_same, ?_, ?_, ?_, ?_, ?_, ?_, ?_, Int.le_refl _, Int.le_refl _⟩, nGB, nGS, nBS⟩
        · rw [upd_ne nGS.symm, upd_ne nGB, same_upd hO _ _ e2]
        · rw [upd_ne nBS.symm, upd_same, vi_app]
          show some (HO.lst (vi (ns.map absI) ++ [V.int (((vi (ns.map absI)).length : Nat) + 3)])) = _
          rw [List.length_map, List.length_map]
          rfl
        · intro x hx
          obtain ⟨y, _, rfl⟩ := List.mem_map.mp (List.mem_filter.mp hx).1
          exact absI_pos y
        · intro x hx
          rcases List.mem_append.mp hx with hx | hx
          · obtain ⟨y, _, rfl⟩ := List.mem_map.mp hx
            exact absI_pos y
          · rw [List.mem_singleton.mp hx]
            omega
        · simp
        · simp only [List.length_map, List.length_append, List.length_cons, List.length_nil]
          omega
        · refine Nat.le_trans (List.length_filter_le _ _) ?_
          rw [List.length_map]
          omega

theorem lg60 {m : Int} (h0 : 0 < m) (h1 : m < 2 ^ 60) : m.natAbs.log2 < 9000 := by
  have : m.natAbs ≠ 0 := by omega
  have h2 : m.natAbs < 2 ^ 60 := by omega
  have := (Nat.log2_lt this).mpr h2
  omega
def spDraw : Sp := fun vs H Q _ => ∃ (s A B : Addr) (c : Nat) (m : Int), vs = [.ref s, .int m] ∧ StreamAt H s A B c ∧ c < 2 ^ 40 ∧ 0 < m ∧ m < 2 ^ 60 ∧
  ∀ H' r, StreamAt H' s A B (c + 1) → Fr s A H H' → 0 ≤ r → r < m → Q (.int r) H'

theorem scDraw : FnScope ["_law_stream_here", "_law_many", "_law_rest", "_law_turn", "_law_cell", "_law_mixed"] ["_law_stream_here", "_law_many"] (defScope sDraw) := ⟨rfl, rfl, rfl, by decide +kernel, rfl, by decide +kernel, by decide +kernel⟩
theorem ok_draw {f : Addr} {fd : FuncData} {k : Nat} (F : Fun K "_law_draw" "_law_draw" sDraw f fd) (T : Nm mg) : FnOk P w K mg base CX0 (k + 1) f fd ["_law_stream_here", "_law_many"] spDraw := by
  refine F.ok scDraw (fun vs H Q E h => ?_) (fun cdv A outer s H vs Q E hr h => ?_)
  · obtain ⟨s, A, B, c, m, rfl, _⟩ := h
    rfl
  · obtain ⟨s, A, B, c, m, rfl, hS, hc, hm0, hm1, q⟩ := h
    refine ⟨_, pss_cons (ps_while PassesOwn.never (pt_cmpR (op_neD hr.units) (pe_ix ix_list (pv 0) pe_int (fun _ _ => rfl)) (pe_lst pa_nil) (nomark _))
        (pss_cons (ps_set (i := 2) scDraw.nd rfl (.inl rfl) (pe_ix ix_list (pe_ix ix_list (pv 0) pe_int (fun _ _ => rfl)) pe_int (fun _ _ => rfl)))
        (pss_cons (ps_if (pt_cmpR op_gt (pv 2) pe_int (nomark _))
          (pss_cons (ps_asg (pe_op op_fdivW (pv 2) (pv 1)) (pg_sub (pe_ix ix_list (pv 0) pe_int (fun _ _ => rfl)) pe_int set_list))
          (pss_one (ps_ret (pe_op op_modN (pv 2) (pv 1))))) pss_nil)
        (pss_one (ps_expr (pe_bm PySem.F.plainAttrs_list PySem.F.slot_list_pop PySem.F.type_list_pop mt_popAt (pe_ix ix_list (pv 0) pe_int (fun _ _ => rfl)) (pa_cons pe_int pa_nil)))))))
      (pss_cons (ps_set (i := 3) scDraw.nd rfl (.inl rfl) (pe_op op_add (pe_ix ix_list (pv 0) pe_int (fun _ _ => rfl)) pe_int))
      (pss_cons (ps_asg (pv 3) (pg_sub (pv 0) pe_int set_list))
      (pss_cons (ps_set (i := 4) scDraw.nd rfl (.inl rfl) (pe_op op_modN (pe_ix ix_list (pe_ix ix_list (pv 0) pe_int (fun _ _ => rfl)) (pe_op op_modN (pv 3) (pe_callB call_len_seq (by rfl) T.len PySem.boot_len (pa_cons (pe_ix ix_list (pv 0) pe_int (fun _ _ => rfl)) pa_nil))) (fun _ _ => rfl)) pe_int))
      (pss_cons (ps_set (i := 5) scDraw.nd rfl (.inl rfl) (pe_op op_add (pe_op op_add (pe_op op_mul (pv 4) (pe_op op_add pe_int (pe_op op_mul pe_int (pv 3)))) (pe_op op_mul (pe_op op_mul pe_int (pv 3)) (pv 3))) pe_int))
      (pss_cons (ps_set (i := 5) scDraw.nd rfl (.inl rfl) (pe_op op_modN (pv 5) pe_int))
      (pss_one (ps_ret (pe_op op_modN (pe_op op_fdivN (pe_op op_modN (pe_op op_mul (pv 5) (pv 5)) pe_int) pe_int) (pv 1))))))))), ?_⟩
    have fm : ∀ x y : Int, 0 < y → 0 ≤ x.fmod y ∧ x.fmod y < y := fun x y hy => by
      rw [Int.fmod_eq_emod_of_nonneg x (Int.le_of_lt hy)]
      exact ⟨Int.emod_nonneg x (by omega), Int.emod_lt_of_pos x hy⟩
    refine ⟨fun n σ H' => ∃ y2, σ = [some (.ref s), some (.int m), y2, none, none, none] ∧ StreamAt H' s A B c ∧ Fr s A H H' ∧ ∃ big : List Int, H' A = some (.lst (vi big)) ∧ n = big.length, ?_, ?_⟩
    · obtain ⟨big, cells, cnt, _, h2, _⟩ := hS.ex
      exact ⟨_, none, rfl, hS, fun _ _ _ _ e => e, big, h2, rfl⟩
    rintro n σ H1 ⟨y2, rfl, hS1, fr1, big', hb', rfl⟩
    obtain ⟨big, cells, cnt, h1, h2, h3, p1, p2, l0, l1, l2, c0, c1⟩ := hS1.ex
    have eb : vi big' = vi big := by
      rw [h2] at hb'
      injection hb' with hb'
      injection hb' with hb'
      exact hb'.symm
    have el : big'.length = big.length := by
      have := congrArg List.length eb
      simpa using this
    rw [el]
    refine ⟨_, rfl, s, _, _, _, rfl, rfl, SqL.of h1, atI0, Nat.zero_le _, fun e he => ?_⟩
    have n1 : s ≠ e := ne_of_none h1 he
    have n2 : A ≠ e := ne_of_none h2 he
    have n3 : B ≠ e := ne_of_none h3 he
    have h1' : (upd H1 e (.lst [])) s = _ := (upd_ne n1).trans h1
    have h2' : (upd H1 e (.lst [])) A = _ := (upd_ne n2).trans h2
    have h3' : (upd H1 e (.lst [])) B = _ := (upd_ne n3).trans h3
    have sm : Same H1 (upd H1 e (.lst [])) := same_upd he
    refine ⟨.list (big.map .int), .list [], .lst (SqL.of h2') (dp_ints big), .lst (SqL.of upd_same) .nil, shaped_list big, shaped_list [], _, rfl, ?_⟩
    rw [eqv_nil]
    cases big with
    | nil =>
      refine iteF ?_
      -- turn = s[2] + 1; s[2] = turn
      refine ⟨_, rfl, s, _, _, _, rfl, rfl, SqL.of h1', atI2, _, _, rfl, rfl, ?_⟩
      refine ⟨_, rfl, _, rfl, s, _, _, 2, rfl, rfl, h1', rfl, ?_⟩
      have h3s : (upd (upd H1 e (.lst [])) s (.lst ([V.ref A, V.ref B, V.int cnt].set 2 (V.int (cnt + 1))))) B = _ := (upd_ne hS1.nsB.symm).trans h3'
      have h2s : (upd (upd H1 e (.lst [])) s (.lst ([V.ref A, V.ref B, V.int cnt].set 2 (V.int (cnt + 1))))) A = _ := (upd_ne hS1.nsA.symm).trans h2'
      have hS2 : StreamAt (upd (upd H1 e (.lst [])) s (.lst ([V.ref A, V.ref B, V.int cnt].set 2 (V.int (cnt + 1))))) s A B (c + 1) :=
        ⟨⟨[], cells, cnt + 1, upd_same, h2s, h3s, p1, p2, l0, l1, l2, by omega, by omega⟩, hS1.nAB, hS1.nsA, hS1.nsB⟩
      have fr2 : Fr s A H (upd (upd H1 e (.lst [])) s (.lst ([V.ref A, V.ref B, V.int cnt].set 2 (V.int (cnt + 1))))) := fun b o z1 z2 z3 => by
        rw [upd_ne z1]
        exact sm _ _ (fr1 b o z1 z2 z3)
      have h1s : (upd (upd H1 e (.lst [])) s (.lst ([V.ref A, V.ref B, V.int cnt].set 2 (V.int (cnt + 1))))) s = some (.lst [V.ref A, V.ref B, V.int (cnt + 1)]) := upd_same
      have hl : (0 : Int) < (cells.length : Nat) := by omega
      obtain ⟨g0, g1⟩ := fm (cnt + 1) ((cells.length : Nat) : Int) hl
      have hj : ((cnt + 1).fmod ((cells.length : Nat) : Int)).toNat < cells.length := by omega
      have hat : atI (vi cells) ((cnt + 1).fmod (((vi cells).length : Nat) : Int)) = some (V.int cells[((cnt + 1).fmod ((cells.length : Nat) : Int)).toNat]) := by
        rw [List.length_map]
        have := atI_nat (xs := vi cells) (j := ((cnt + 1).fmod ((cells.length : Nat) : Int)).toNat) (v := V.int cells[((cnt + 1).fmod ((cells.length : Nat) : Int)).toNat]) (by rw [List.getElem?_map, List.getElem?_eq_getElem hj]; rfl)
        rw [show ((((cnt + 1).fmod ((cells.length : Nat) : Int)).toNat : Nat) : Int) = (cnt + 1).fmod ((cells.length : Nat) : Int) by omega] at this
        exact this
      refine ⟨_, rfl, s, _, _, _, rfl, rfl, SqL.of h1s, atI1, _, rfl, _, rfl, s, _, _, _, rfl, rfl, SqL.of h1s, atI1, B, _, rfl, .inl (SqL.of h3s), _, _, rfl, rfl, by rw [List.length_map]; omega, B, _, _, _, rfl, rfl, SqL.of h3s, hat, _, _, rfl, rfl, (by show (2147483647 : Int) ≠ 0; decide), ?_⟩
      generalize cells[((cnt + 1).fmod ((cells.length : Nat) : Int)).toNat] = x
      obtain ⟨x0, x1⟩ := fm x 2147483647 (by decide)
      refine ⟨_, rfl, _, rfl, _, _, rfl, rfl, .inl ⟨by decide, by decide⟩, _, _, rfl, rfl, _, _, rfl, rfl, .inl ⟨by omega, by omega⟩, ?_⟩
      refine ⟨_, rfl, _, _, rfl, rfl, .inl ⟨by decide, by decide⟩, _, rfl, _, _, rfl, rfl, .inr ⟨by omega, by omega⟩, _, _, rfl, rfl, _, _, rfl, rfl, ?_⟩
      refine ⟨_, rfl, _, _, rfl, rfl, (by show (2147483629 : Int) ≠ 0; decide), ?_⟩
      refine ⟨_, rfl, _, rfl, _, _, rfl, rfl, .inl ?_, _, _, rfl, rfl, (by show (2147483587 : Int) ≠ 0; decide), _, _, rfl, rfl, ⟨by decide, by decide⟩, _, rfl, _, _, rfl, rfl, by omega, ?_⟩
      · generalize (x.fmod 2147483647 * _ + _ + _ : Int) = y
        obtain ⟨y0, y1⟩ := fm y 2147483629 (by decide)
        exact ⟨by omega, by omega⟩
      · exact q _ _ hS2 fr2 (fm _ m hm0).1 (fm _ m hm0).2
    | cons x r =>
      refine iteT ⟨_, fun _ _ h => h, ?_⟩
      refine ⟨_, rfl, s, _, _, _, rfl, rfl, SqL.of h1', atI0, A, _, _, _, rfl, rfl, SqL.of h2', atI0, ?_⟩
      refine ⟨_, rfl, _, _, rfl, rfl, _, rfl, ?_⟩
      have hx : 0 ≤ x := p1 x (List.mem_cons_self ..)
      have hr' : ∀ y ∈ r, 0 ≤ y := fun y hy => p1 y (List.mem_cons_of_mem _ hy)
      refine ite2 (fun cx => ?_) (fun cx => ?_)
      · refine ⟨_, rfl, _, rfl, _, _, rfl, rfl, ⟨hm0, lg60 hm0 hm1⟩, ?_⟩
        refine ⟨_, rfl, s, _, _, _, rfl, rfl, SqL.of h1', atI0, A, _, _, 0, rfl, rfl, h2', ix0 _, ?_⟩
        refine ⟨_, rfl, _, rfl, _, _, rfl, rfl, by omega, ?_⟩
        refine q _ _ ⟨⟨x / m :: r, cells, cnt, (upd_ne hS1.nsA).trans h1', upd_same, (upd_ne hS1.nAB.symm).trans h3', ?_, p2, l0, l1, l2, c0, by omega⟩, hS1.nAB, hS1.nsA, hS1.nsB⟩ ?_ (fm x m hm0).1 (fm x m hm0).2
        · intro y hy
          rcases List.mem_cons.mp hy with rfl | hy
          · exact Int.ediv_nonneg hx (Int.le_of_lt hm0)
          · exact hr' y hy
        · intro b o z1 z2 z3
          rw [upd_ne z2]
          exact sm _ _ (fr1 b o z1 z2 z3)
      · refine ⟨_, rfl, s, _, _, _, rfl, rfl, SqL.of h1', atI0, .inl ⟨rfl, _, SqL.of h2'⟩, A, _, _, 0, _, rfl, rfl, h2', by decide, by decide, (ixN_seq (ix0 _)).1, rfl, ?_⟩
        refine ⟨r.length, by simp, _, rfl, ⟨⟨r, cells, cnt, (upd_ne hS1.nsA).trans h1', upd_same, (upd_ne hS1.nAB.symm).trans h3', hr', p2, l0, l1, by simp at l2; omega, c0, c1⟩, hS1.nAB, hS1.nsA, hS1.nsB⟩, ?_, r, upd_same, rfl⟩
        intro b o z1 z2 z3
        rw [upd_ne z2]
        exact sm _ _ (fr1 b o z1 z2 z3)
end
end Fw
namespace Fw
open PySem PySem.Spec PyProof.Rows L2

structure Def (K : PySem.W.Frag) (mg : Str → Option Value) (x : Str) (st : Stmt) (f : Addr) (fd : FuncData) (ps : List Str) : Prop where
  F : Fun K x x st f fd
  b : Binds K fd ps []
  g : mg x = some (.ref f)

section
variable {s A B : Addr} {H H1 H2 : Hp} {c : Nat}
theorem StreamAt.ne (hS : StreamAt H s A B c) {L : Addr} (h : H L = none) : s ≠ L ∧ A ≠ L ∧ B ≠ L := by
  obtain ⟨big, cells, cnt, h1, h2, h3, _⟩ := hS.ex
  exact ⟨ne_of_none h1 h, ne_of_none h2 h, ne_of_none h3 h⟩
theorem StreamAt.put (hS : StreamAt H s A B c) {L : Addr} {o : HO} (n : s ≠ L ∧ A ≠ L ∧ B ≠ L) : StreamAt (upd H L o) s A B c := by
  obtain ⟨big, cells, cnt, h1, h2, h3, r⟩ := hS.ex
  exact ⟨⟨big, cells, cnt, (upd_ne n.1).trans h1, (upd_ne n.2.1).trans h2, (upd_ne n.2.2).trans h3, r⟩, hS.nAB, hS.nsA, hS.nsB⟩
theorem StreamAt.mono (hS : StreamAt H s A B c) {c' : Nat} (h : c ≤ c') : StreamAt H s A B c' := by
  obtain ⟨big, cells, cnt, h1, h2, h3, p1, p2, l0, l1, l2, c0, c1⟩ := hS.ex
  exact ⟨⟨big, cells, cnt, h1, h2, h3, p1, p2, l0, l1, l2, c0, by omega⟩, hS.nAB, hS.nsA, hS.nsB⟩
theorem StreamAt.same (hS : StreamAt H s A B c) (e : Same H H1) : StreamAt H1 s A B c := by
  obtain ⟨big, cells, cnt, h1, h2, h3, r⟩ := hS.ex
  exact ⟨⟨big, cells, cnt, e _ _ h1, e _ _ h2, e _ _ h3, r⟩, hS.nAB, hS.nsA, hS.nsB⟩
theorem StreamAt.tup (hS : StreamAt H s A B c) {t : Addr} {xs : List V} (h : H t = some (.tup xs)) : t ≠ s ∧ t ≠ A ∧ t ≠ B := by
  obtain ⟨big, cells, cnt, h1, h2, h3, _⟩ := hS.ex
  exact ⟨ne_of h h1 (by intro q; cases q), ne_of h h2 (by intro q; cases q), ne_of h h3 (by intro q; cases q)⟩
theorem Fr.refl : Fr s A H H := fun _ _ _ _ e => e
theorem Fr.free (f : Fr s A H H1) (hS : StreamAt H1 s A B c) {L : Addr} (h : H1 L = none) : H L = none := by
  obtain ⟨n1, n2, _⟩ := hS.ne h
  cases e : H L with
  | none => rfl
  | some o =>
    rw [f L o n1.symm n2.symm e] at h
    cases h
theorem Fr.put (f : Fr s A H H1) {L : Addr} {o : HO} (h : H L = none) : Fr s A H (upd H1 L o) := fun b u z1 z2 e => by
  rw [upd_ne (ne_of_none e h)]
  exact f b u z1 z2 e
theorem Fr.tup (f : Fr s A H H1) (hS : StreamAt H s A B c) {t : Addr} {xs : List V} (h : H t = some (.tup xs)) : H1 t = some (.tup xs) :=
  f t _ (hS.tup h).1 (hS.tup h).2.1 h
end

/-- a house, as it stands in memory -/
def HouseAt (H : Hp) (h : Addr) (n : Int) (D : List (Int × Int)) : Prop := ∃ (q : Addr) (ps : List (Addr × Int × Int)),
  H h = some (.tup [.int n, .ref q]) ∧ H q = some (.tup (ps.map fun p => V.ref p.1)) ∧ D = ps.map (·.2) ∧ ∀ p ∈ ps, H p.1 = some (.tup [.int p.2.1, .int p.2.2])
theorem HouseAt.same {H H' : Hp} {h : Addr} {n : Int} {D : List (Int × Int)} (x : HouseAt H h n D) (e : Same H H') : HouseAt H' h n D := by
  obtain ⟨q, ps, h1, h2, h3, h4⟩ := x
  exact ⟨q, ps, e _ _ h1, e _ _ h2, h3, fun p hp => e _ _ (h4 p hp)⟩
theorem HouseAt.fr {s A B : Addr} {c : Nat} {H H' : Hp} {h : Addr} {n : Int} {D : List (Int × Int)} (x : HouseAt H h n D) (hS : StreamAt H s A B c) (e : Fr s A H H') : HouseAt H' h n D := by
  obtain ⟨q, ps, h1, h2, h3, h4⟩ := x
  exact ⟨q, ps, e.tup hS h1, e.tup hS h2, h3, fun p hp => e.tup hS (h4 p hp)⟩

theorem perm_map_inv {α β : Type} {f : α → β} : ∀ {ys zs : List β}, ys.Perm zs → ∀ {ps : List α}, zs = ps.map f → ∃ ps' : List α, ps'.Perm ps ∧ ys = ps'.map f := by
  intro ys zs h
  induction h with
  | nil =>
    intro ps e
    cases ps with
    | nil => exact ⟨[], .nil, rfl⟩
    | cons p r => cases e
  | cons x _ ih =>
    intro ps e
    cases ps with
    | nil => cases e
    | cons p r =>
      rw [List.map_cons] at e
      injection e with e1 e2
      obtain ⟨ps', hp, he⟩ := ih e2
      exact ⟨p :: ps', hp.cons p, by rw [he, List.map_cons, e1]⟩
  | swap x y l =>
    intro ps e
    match ps, e with
    | p :: q :: r, e =>
      rw [List.map_cons, List.map_cons] at e
      injection e with e1 e2
      injection e2 with e2 e3
      exact ⟨q :: p :: r, List.Perm.swap p q r, by rw [List.map_cons, List.map_cons, e1, e2, e3]⟩
  | trans _ _ ih1 ih2 =>
    intro ps e
    obtain ⟨p2, h2, e2⟩ := ih2 e
    obtain ⟨p1, h1, e1⟩ := ih1 e2
    exact ⟨p1, h1.trans h2, e1⟩

theorem rg_vi (n : Int) : rgV 0 n = vi ((List.range n.toNat).map fun (i : Nat) => (i : Int)) := by
  unfold rgV vi
  rw [List.map_map, Int.sub_zero]
  refine List.map_congr_left fun i _ => ?_
  show V.int (0 + (i : Int)) = V.int (i : Int)
  rw [Int.zero_add]
def rg (n : Int) : List Int := (List.range n.toNat).map fun (i : Nat) => (i : Int)
theorem mem_rg {n x : Int} : x ∈ rg n ↔ 0 ≤ x ∧ x < n := by
  unfold rg
  rw [List.mem_map]
  constructor
  · rintro ⟨i, hi, rfl⟩
    rw [List.mem_range] at hi
    omega
  · rintro ⟨h0, h1⟩
    exact ⟨x.toNat, List.mem_range.mpr (by omega), by omega⟩
theorem rg_len (n : Int) : (rg n).length = n.toNat := by simp [rg]
theorem rg_nodup (n : Int) : (rg n).Nodup := (range_up n.toNat).imp fun h => by omega

theorem vi_erase (ns : List Int) (i : Nat) : (vi ns).eraseIdx i = vi (ns.eraseIdx i) := by
  induction ns generalizing i with
  | nil => rfl
  | cons n ns ih =>
    cases i with
    | zero => rfl
    | succ i =>
      show V.int n :: (vi ns).eraseIdx i = V.int n :: vi (ns.eraseIdx i)
      rw [ih]
theorem erase_perm : ∀ {ns : List Int} {i : Nat} (h : i < ns.length), (ns[i] :: ns.eraseIdx i).Perm ns
  | n :: ns, 0, _ => List.Perm.refl _
  | n :: ns, i + 1, h => by
    have h' : i < ns.length := by simpa using h
    show (ns[i] :: n :: ns.eraseIdx i).Perm (n :: ns)
    exact (List.Perm.swap _ _ _).trans ((erase_perm (by simpa using h)).cons n)
theorem lacks {r : Int} (h0 : 0 ≤ r) (h1 : r < 3) : ∃ lk : Int, atI [V.int 0, V.int 0, V.int 6] r = some (.int lk) ∧ (lk = 0 ∨ lk = 6) := by
  have : r = 0 ∨ r = 1 ∨ r = 2 := by omega
  rcases this with rfl | rfl | rfl
  · exact ⟨0, atI0, .inl rfl⟩
  · exact ⟨0, atI1, .inl rfl⟩
  · exact ⟨6, atI2, .inr rfl⟩
theorem pick3 {r r1 : Int} {i : Nat} (h0 : 0 ≤ r) (h1 : r < 3) (a0 : 0 ≤ r1) (a1 : r1 < 1 + (i : Int)) : ∃ ix : Int, atI [V.int (1 + (i : Int) - 1), V.int 0, V.int r1] r = some (.int ix) ∧ 0 ≤ ix ∧ ix ≤ i := by
  have : r = 0 ∨ r = 1 ∨ r = 2 := by omega
  rcases this with rfl | rfl | rfl
  · exact ⟨_, atI0, by omega, by omega⟩
  · exact ⟨_, atI1, by omega, by omega⟩
  · exact ⟨_, atI2, by omega, by omega⟩
/-- the two ints of a pair in memory -/
def twoOf (H : Hp) (x : V) : Int × Int := match x with
  | .ref t => match H t with
    | some (.tup [.int i, .int j]) => (i, j)
    | _ => (0, 0)
  | _ => (0, 0)
theorem twoOf_eq {H : Hp} {t : Addr} {d : Int × Int} (h : H t = some (.tup [.int d.1, .int d.2])) : twoOf H (.ref t) = d := by
  unfold twoOf
  simp only [h]
theorem Dlt_of {x y : Int × Int} (h : ¬ (y.1 < x.1 ∨ (y.1 = x.1 ∧ y.2 < x.2))) (n : x ≠ y) : Dlt x y := by
  unfold Dlt
  have : ¬ (x.1 = y.1 ∧ x.2 = y.2) := fun e => n (Prod.ext e.1 e.2)
  omega
/-- what stands while the doors are made -/
structure Mid (H : Hp) (s A B O R : Addr) (ord : List Int) (c : Nat) (ps : List (Addr × Int × Int)) (H' : Hp) : Prop where
  st : StreamAt H' s A B c
  frm : Fr s A H H'
  eO : H' O = some (.lst (vi ord))
  eR : H' R = some (.lst (ps.map fun p => V.ref p.1))
  eP : ∀ p ∈ ps, H' p.1 = some (.tup [.int p.2.1, .int p.2.2])
theorem Mid.fr {H H1 H2 : Hp} {s A B O R : Addr} {ord : List Int} {c c' : Nat} {ps : List (Addr × Int × Int)} (m : Mid H s A B O R ord c ps H1) (hS : StreamAt H2 s A B c') (f : Fr s A H1 H2) (zO : s ≠ O ∧ A ≠ O ∧ B ≠ O) (zR : s ≠ R ∧ A ≠ R ∧ B ≠ R) : Mid H s A B O R ord c' ps H2 :=
  ⟨hS, m.frm.trans f, f _ _ zO.1.symm zO.2.1.symm m.eO, f _ _ zR.1.symm zR.2.1.symm m.eR, fun p hp => f.tup m.st (m.eP p hp)⟩
theorem Mid.new {H H1 : Hp} {s A B O R : Addr} {ord : List Int} {c : Nat} {ps : List (Addr × Int × Int)} (m : Mid H s A B O R ord c ps H1) {N : Addr} {o : HO} (h : H1 N = none) : Mid H s A B O R ord c ps (upd H1 N o) :=
  ⟨m.st.same (same_upd h), m.frm.put (m.frm.free m.st h), same_upd h _ _ m.eO, same_upd h _ _ m.eR, fun p hp => same_upd h _ _ (m.eP p hp)⟩
theorem if_by {t : TT} {tb te : TS} {D : Ends} {σ : L2.St} {H : Hp} (Good : Bool → Hp → Prop) (hb : ∀ H', Good true H' → tb D σ H') (he : ∀ H', Good false H' → te D σ H')
    (h : ∀ Q : Bool → Hp → Prop, (∀ b H', Good b H' → Q b H') → t σ H Q) : tIfS t tb te D σ H := h _ fun b H' g => by
  cases b with
  | true => exact iteT (hb _ g)
  | false => exact iteF (he _ g)
section
variable {P : Program} {w : World} {K : PySem.W.Frag} {mg : Str → Option Value} {base : Heap}
def spHouse : Sp := fun vs H Q _ => ∃ (s A B : Addr) (c : Nat) (least most : Int), vs = [.ref s, .int least, .int most] ∧ StreamAt H s A B c ∧ c < 2 ^ 30 ∧ 1 ≤ least ∧ least ≤ most ∧ most ≤ 8 ∧
  ∀ H' h n D, StreamAt H' s A B (c + 40) → Fr s A H H' → HouseAt H' h n D → Forest n D → least ≤ n → n ≤ most → Q (.ref h) H'

abbrev nHouse : List Str := ["_law_stream_here", "_law_least", "_law_most", "_law_rooms", "_law_left", "_law_order", "_law_doors", "_law_lacks", "_law_k", "_law_on"]
theorem scHouse : FnScope nHouse ["_law_stream_here", "_law_least", "_law_most"] (defScope sHouse) := ⟨rfl, rfl, rfl, by decide +kernel, rfl, by decide +kernel, by decide +kernel⟩
theorem ok_house {f fD : Addr} {fd fdD : FuncData} (F : Fun K "_law_house" "_law_house" sHouse f fd) (T : Nm mg) (D : Def K mg "_law_draw" sDraw fD fdD ["_law_stream_here", "_law_many"]) : FnOk P w K mg base CX0 2 f fd ["_law_stream_here", "_law_least", "_law_most"] spHouse := by
  have GD : FnOk P w K mg base CX0 1 fD fdD ["_law_stream_here", "_law_many"] spDraw := ok_draw D.F T
  refine F.ok scHouse (fun vs H Q E h => ?_) (fun cdv A outer s H vs Q E hr h => ?_)
  · obtain ⟨s, A, B, c, least, most, rfl, _⟩ := h
    rfl
  · obtain ⟨s, A, B, c, least, most, rfl, hS, hc, hl1, hl2, hl3, q⟩ := h
    refine ⟨_, pss_cons (ps_set (i := 3) scHouse.nd rfl (.inl rfl) (pe_op op_add (pv 1) (pe_call GD hr (by rfl) D.g D.F.kp D.b .nil pass0 (pa_cons (pv 0) (pa_cons (pe_op op_add (pe_op op_sub (pv 2) (pv 1)) pe_int) pa_nil)))))
      (pss_cons (ps_par3 (i := 4) (j := 5) (l := 6) (by rfl) scHouse.nd rfl rfl rfl (by decide) (by decide) (by decide) rfl rfl rfl (pa_cons (pe_listRg (by rfl) (by rfl) T.list (prg_1 (by rfl) T.range (pv 3))) (pa_cons (pe_lst pa_nil) (pa_cons (pe_lst pa_nil) pa_nil))) (by rfl))
      (pss_cons (ps_while PassesOwn.never (pt_cmpR (op_neD hr.units) (pv 4) (pe_lst pa_nil) (nomark _))
        (pss_one (ps_expr (pe_bm PySem.F.plainAttrs_list PySem.F.slot_list_append PySem.F.type_list_append mt_append (pv 5) (pa_cons
          (pe_bm PySem.F.plainAttrs_list PySem.F.slot_list_pop PySem.F.type_list_pop mt_popAt (pv 4) (pa_cons
            (pe_call GD hr (by rfl) D.g D.F.kp D.b .nil pass0 (pa_cons (pv 0) (pa_cons (pe_callB call_len_seq (by rfl) T.len PySem.boot_len (pa_cons (pv 4) pa_nil)) pa_nil))) pa_nil)) pa_nil)))))
      (pss_cons (ps_set (i := 7) scHouse.nd rfl (.inl rfl) (pe_ix ix_list (pe_lst (pa_cons pe_int (pa_cons pe_int (pa_cons pe_int pa_nil)))) (pe_call GD hr (by rfl) D.g D.F.kp D.b .nil pass0 (pa_cons (pv 0) (pa_cons pe_int pa_nil))) (fun _ _ => rfl)))
      (pss_cons (ps_for PassesOwn.never rfl (pi_range2 (by rfl) T.range (pa_cons pe_int (pa_cons (pv 3) pa_nil))) (pg_name (i := 8) scHouse.nd rfl (Or.inl rfl))
        (pss_cons (ps_set (i := 9) scHouse.nd rfl (.inl rfl) (pe_ix ix_list (pv 5) (pe_ix ix_list (pe_lst (pa_cons (pe_op op_sub (pv 8) pe_int) (pa_cons pe_int (pa_cons (pe_call GD hr (by rfl) D.g D.F.kp D.b .nil pass0 (pa_cons (pv 0) (pa_cons (pv 8) pa_nil))) pa_nil))))
            (pe_call GD hr (by rfl) D.g D.F.kp D.b .nil pass0 (pa_cons (pv 0) (pa_cons pe_int pa_nil))) (fun _ _ => rfl)) (fun _ _ => rfl)))
        (pss_one (ps_if (PW.pt (pw_or (pt_cmpR op_eq (pv 7) pe_int (nomark _)) (pw_or1 (pt_cmpR op_gt (pe_call GD hr (by rfl) D.g D.F.kp D.b .nil pass0 (pa_cons (pv 0) (pa_cons (pv 7) pa_nil))) pe_int (nomark _)))))
          (pss_one (ps_expr (pe_bm PySem.F.plainAttrs_list PySem.F.slot_list_append PySem.F.type_list_append mt_append (pv 6) (pa_cons (pe_tup
            (pa_cons (pe_callB (call_min2 rfl) (by rfl) T.min (by decide +kernel) (pa_cons (pv 9) (pa_cons (pe_ix ix_list (pv 5) (pv 8) (fun _ _ => rfl)) pa_nil)))
            (pa_cons (pe_callB (call_max2 rfl) (by rfl) T.max (by decide +kernel) (pa_cons (pv 9) (pa_cons (pe_ix ix_list (pv 5) (pv 8) (fun _ _ => rfl)) pa_nil))) pa_nil))) pa_nil))))
          pss_nil))))
      (pss_one (ps_ret (pe_tup (pa_cons (pv 3) (pa_cons (pe_callTy call_tuple_of (by rfl) T.tuple (by decide +kernel) (pa_cons (pe_callB cr_sortedPO (by rfl) T.sorted (by decide +kernel) (pa_cons (pv 6) pa_nil)) pa_nil)) pa_nil))))))))), ?_⟩
    refine ⟨_, rfl, _, rfl, _, rfl, _, rfl, _, _, rfl, rfl, _, _, rfl, rfl, s, A, B, c, _, rfl, hS, by omega, by omega, by omega, fun H1 r hS1 fr1 r0 r1 => ⟨_, _, rfl, rfl, ?_⟩⟩
    show gName 3 (V.int (least + r)) _ _ _
    generalize hn : least + r = n
    have n0 : 1 ≤ n := by omega
    have n1 : n ≤ 8 := by omega
    have n2 : least ≤ n := by omega
    have n3 : n ≤ most := by omega
    clear hn r0 r1
    refine ⟨_, rfl, _, rfl, RgOk.of_le (by omega) (by omega) (by omega) (by omega), fun L hL => ⟨Nat.zero_le _, fun O hO => ⟨Nat.zero_le _, fun R hR => ⟨_, _, _, rfl, ?_⟩⟩⟩⟩
    rw [rg_vi] at hR hO ⊢
    rw [show ((List.range n.toNat).map fun (i : Nat) => (i : Int)) = rg n from rfl] at hR hO ⊢
    have nLO : O ≠ L := fun e => by rw [e, upd_same] at hO; cases hO
    have hO1 : H1 O = none := by rw [upd_ne nLO] at hO; exact hO
    have nOR : R ≠ O := fun e => by rw [e, upd_same] at hR; cases hR
    have nLR : R ≠ L := fun e => by rw [e, upd_ne nLO.symm, upd_same] at hR; cases hR
    have hR1 : H1 R = none := by rw [upd_ne nOR, upd_ne nLR] at hR; exact hR
    have zL := hS1.ne hL
    have zO := hS1.ne hO1
    have zR := hS1.ne hR1
    have gL := fr1.free hS1 hL
    have gO := fr1.free hS1 hO1
    have gR := fr1.free hS1 hR1
    have hS2 : StreamAt (upd (upd (upd H1 L (.lst (vi (rg n)))) O (.lst [])) R (.lst [])) s A B (c + 1) := ((hS1.put zL).put zO).put zR
    have fr2 : Fr s A H (upd (upd (upd H1 L (.lst (vi (rg n)))) O (.lst [])) R (.lst [])) := ((fr1.put gL).put gO).put gR
    -- while left != []: order.append(left.pop(draw(s, len(left))))
    refine ⟨fun m σ H' => ∃ (lft ord : List Int) (c' : Nat), σ = [some (.ref s), some (.int least), some (.int most), some (.int n), some (.ref L), some (.ref O), some (.ref R), none, none, none] ∧ StreamAt H' s A B c' ∧ c' + lft.length ≤ c + 1 + n.toNat ∧
        Fr s A H H' ∧ H' L = some (.lst (vi lft)) ∧ H' O = some (.lst (vi ord)) ∧ H' R = some (.lst []) ∧ (ord ++ lft).Perm (rg n) ∧ m = lft.length,
      ⟨_, rg n, [], c + 1, rfl, hS2, by rw [rg_len]; omega, fr2, ?_, ?_, upd_same, List.Perm.refl _, rfl⟩, ?_⟩
    · rw [upd_ne nLR.symm, upd_ne nLO.symm, upd_same]
    · rw [upd_ne nOR.symm, upd_same]
      rfl
    clear hS2 fr2 hR hO
    rintro m σ H2 ⟨lft, ord, c2, rfl, hS2, hc2, fr2, eL, eO, eR, pm, rfl⟩
    have plen : ord.length + lft.length = n.toNat := by
      have := pm.length_eq
      rw [List.length_append, rg_len] at this
      exact this
    refine ⟨_, rfl, Nat.zero_le _, fun e he => ?_⟩
    have sm : Same H2 (upd H2 e (.lst [])) := same_upd he
    have hS3 := hS2.same sm
    have fr3 := fr2.put (o := .lst []) (fr2.free hS2 he)
    have eL3 := sm _ _ eL
    have eO3 := sm _ _ eO
    have eR3 := sm _ _ eR
    refine ⟨.list (lft.map .int), .list [], .lst (SqL.of eL3) (dp_ints lft), .lst (SqL.of upd_same) .nil, shaped_list lft, shaped_list [], _, rfl, ?_⟩
    clear eL eO eR hS2 fr2
    generalize upd H2 e (.lst []) = H3 at *
    clear sm he
    rw [eqv_nil]
    cases lft with
    | cons x0 lft0 =>
      generalize hlf : x0 :: lft0 = lft at *
      have lpos : 0 < lft.length := by rw [← hlf]; simp
      have lem : lft.isEmpty = false := by rw [← hlf]; rfl
      rw [lem]
      clear lem hlf
      refine iteT ⟨_, fun _ _ h => h, ?_⟩
      refine ⟨_, rfl, .inl ⟨rfl, _, SqL.of eO3⟩, _, rfl, .inl ⟨rfl, _, SqL.of eL3⟩, _, rfl, _, rfl, L, _, rfl, .inl (SqL.of eL3), s, A, B, c2, _, rfl, hS3, by omega, ?_, ?_, fun H4 r hS4 fr4 r0 r1 => ?_⟩
      · rw [List.length_map]; omega
      · rw [List.length_map]; omega
      rw [List.length_map] at r1
      have eL4 := fr4 _ _ zL.1.symm zL.2.1.symm eL3
      have eO4 := fr4 _ _ zO.1.symm zO.2.1.symm eO3
      have eR4 := fr4 _ _ zR.1.symm zR.2.1.symm eR3
      have hj : r.toNat < lft.length := by omega
      have ixr : ixN (vi lft).length r = some r.toNat := by
        unfold ixN
        rw [List.length_map, if_pos r0, if_pos r1]
      have gx : (vi lft)[r.toNat]? = some (V.int lft[r.toNat]) := by
        rw [List.getElem?_map, List.getElem?_eq_getElem hj]
        rfl
      refine ⟨L, _, r, r.toNat, _, rfl, rfl, eL4, by omega, by omega, (ixN_seq ixr).1, gx, ?_⟩
      have eO5 : (upd H4 L (.lst ((vi lft).eraseIdx r.toNat))) O = some (.lst (vi ord)) := (upd_ne nLO).trans eO4
      refine ⟨O, _, _, rfl, rfl, eO5, ?_, ?_⟩
      · rw [List.length_map]
        exact small1000 (by omega)
      have el : (lft.eraseIdx r.toNat).length = lft.length - 1 := by
        rw [List.length_eraseIdx, if_pos hj]
      refine ⟨(lft.eraseIdx r.toNat).length, by omega, lft.eraseIdx r.toNat, ord ++ [lft[r.toNat]], c2 + 1, rfl, ((hS4.put zL).put zO), by omega, ((fr3.trans fr4).put gL).put gO, ?_, ?_, ?_, ?_, rfl⟩
      · rw [upd_ne nLO.symm, upd_same, vi_erase]
      · rw [upd_same, vi_app]
        rfl
      · rw [upd_ne nOR, upd_ne nLR]
        exact eR4
      · refine List.Perm.trans ?_ pm
        rw [List.append_assoc]
        refine List.Perm.append_left ord ?_
        exact erase_perm hj
    | nil =>
      refine iteF ?_
      rw [List.append_nil] at pm
      clear eL3 zL gL hL nLO nLR hS1 fr1 hO1 hR1
      simp only [List.length_nil, Nat.add_zero] at hc2 plen
      have zO3 := zO
      -- lacks = [0, 0, 6][draw(s, 3)]
      refine ⟨by show 3 ≤ sizeLine; decide, fun M hM => ?_⟩
      have sm : Same H3 (upd H3 M (.lst [.int 0, .int 0, .int 6])) := same_upd hM
      refine ⟨_, rfl, s, A, B, c2, 3, rfl, hS3.same sm, by omega, by decide, by decide, fun H4 r hS4 fr4 r0 r1 => ?_⟩
      have zM := hS3.ne hM
      have eM4 := fr4 M _ zM.1.symm zM.2.1.symm upd_same
      have eO4 := fr4 _ _ zO.1.symm zO.2.1.symm (sm _ _ eO3)
      have eR4 := fr4 _ _ zR.1.symm zR.2.1.symm (sm _ _ eR3)
      have fr4' : Fr s A H H4 := (fr3.put (fr3.free hS3 hM)).trans fr4
      obtain ⟨lk, elk, hlk⟩ := lacks r0 r1
      refine ⟨M, _, _, _, rfl, rfl, SqL.of eM4, elk, ?_⟩
      clear eM4 fr4 sm hM zM elk eO3 eR3 fr3 hS3
      -- for k in range(1, rooms)
      refine ⟨_, rfl, 1, n, rfl, ⟨by decide, by decide, by omega, by omega⟩, for_range (lo := 1) (n := (n - 1).toNat) (fun i σ H' => ∃ (cc : Nat) (y8 y9 : Option V) (ps : List (Addr × Int × Int)),
        σ = [some (.ref s), some (.int least), some (.int most), some (.int n), some (.ref L), some (.ref O), some (.ref R), some (.int lk), y8, y9] ∧ cc ≤ c2 + 1 + 3 * i ∧ Mid H s A B O R ord cc ps H' ∧
        ps.length ≤ i ∧ ∃ U E, Grown U E ∧ (∀ x, x ∈ U ↔ x ∈ ord.take (i + 1)) ∧ (ps.map (·.2)).Perm E ∧ U.length = i + 1) ⟨c2 + 1, none, none, [], rfl, by omega, ⟨hS4, fr4', eO4, eR4, fun p hp => nomatch hp⟩, Nat.le_refl _, ?_⟩ ?_ ?_⟩
      · have h0 : 0 < ord.length := by omega
        refine ⟨[ord[0]], [], .room _ .nil (by simp), fun x => ?_, .nil, rfl⟩
        rw [List.take_add_one, List.getElem?_eq_getElem h0]
        simp
      · rintro i σ H5 hi ⟨cc, y8, y9, ps, rfl, hcc, M5, hps, U, E, g, hU, pE, lU⟩
        have hi1 : i + 1 < ord.length := by omega
        refine ⟨_, rfl, _, rfl, _, _, rfl, rfl, _, rfl, _, rfl, s, A, B, cc, _, rfl, M5.st, by omega, by omega, by omega, fun H6 r1 hS6 fr6 r10 r11 => ?_⟩
        have M6 := M5.fr hS6 fr6 zO zR
        refine ⟨by show 3 ≤ sizeLine; decide, fun N hN => ?_⟩
        have M7 := M6.new (o := .lst [.int (1 + (i : Int) - 1), .int 0, .int r1]) hN
        refine ⟨_, rfl, s, A, B, cc + 1, 3, rfl, M7.st, by omega, by decide, by decide, fun H8 r2 hS8 fr8 r20 r21 => ?_⟩
        have M8 := M7.fr hS8 fr8 zO zR
        have zN := M6.st.ne hN
        have eN8 := fr8 N _ zN.1.symm zN.2.1.symm upd_same
        obtain ⟨ix, eix, hix0, hix1⟩ := pick3 (i := i) r20 r21 r10 r11
        have hixl : ix.toNat < ord.length := by omega
        have eon : atI (vi ord) ix = some (V.int ord[ix.toNat]) := by
          have := atI_nat (xs := vi ord) (j := ix.toNat) (v := V.int ord[ix.toNat]) (by rw [List.getElem?_map, List.getElem?_eq_getElem hixl]; rfl)
          rw [show ((ix.toNat : Nat) : Int) = ix by omega] at this
          exact this
        have ekk : atI (vi ord) (1 + (i : Int)) = some (V.int ord[i + 1]) := by
          have := atI_nat (xs := vi ord) (j := i + 1) (v := V.int ord[i + 1]) (by rw [List.getElem?_map, List.getElem?_eq_getElem hi1]; rfl)
          rw [show ((i + 1 : Nat) : Int) = 1 + (i : Int) by omega] at this
          exact this
        refine ⟨N, _, _, _, rfl, rfl, SqL.of eN8, eix, O, _, _, _, rfl, rfl, SqL.of M8.eO, eon, ?_⟩
        clear eN8 fr8 zN hN M7 M6 fr6 eix
        have nd : ord.Nodup := pm.nodup_iff.mpr (rg_nodup n)
        have nv : ord[i + 1] ∉ U := fun m => by
          obtain ⟨j, hj, e⟩ := List.mem_take_iff_getElem.mp ((hU _).mp m)
          exact (List.pairwise_iff_getElem.mp nd) j (i + 1) (by omega) hi1 (by omega) e
        have mu : ord[ix.toNat] ∈ U := (hU _).mpr (List.mem_take_iff_getElem.mpr ⟨ix.toNat, by omega, rfl⟩)
        have hU' : ∀ x, x ∈ (ord[i + 1] :: U) ↔ x ∈ ord.take (i + 1 + 1) := fun x => by
          rw [List.take_add_one (i := i + 1), List.getElem?_eq_getElem hi1, List.mem_append, List.mem_cons, hU]
          simp [or_comm]
        dsimp only [gName]
        refine if_by (fun _ H' => ∃ c9, c9 ≤ cc + 3 ∧ Mid H s A B O R ord c9 ps H') ?_ ?_ ?_
        · rintro H9 ⟨c9, hc9, M9⟩
          refine ⟨_, rfl, .inl ⟨rfl, _, SqL.of M9.eR⟩, _, rfl, _, rfl, _, rfl, O, _, _, _, rfl, rfl, SqL.of M9.eO, ekk, _, _, rfl, _, rfl, _, rfl, _, rfl, O, _, _, _, rfl, rfl, SqL.of M9.eO, ekk, _, _, rfl, by show 2 ≤ sizeLine; decide, fun t ht => ?_⟩
          generalize hu : ord[ix.toNat] = u at *
          generalize hv : ord[i + 1] = v at *
          have M10 := M9.new (o := .tup [.int (if v < u then v else u), .int (if v > u then v else u)]) ht
          refine ⟨R, _, _, rfl, rfl, M10.eR, ?_, ?_⟩
          · rw [List.length_map]
            exact small1000 (by omega)
          refine ⟨c9, _, _, ps ++ [(t, if v < u then v else u, if v > u then v else u)], rfl, by omega, ⟨M10.st.put zR, M10.frm.put gR, ?_, ?_, ?_⟩, ?_, v :: U, _, .door v u (if v < u then v else u) (if v > u then v else u) g nv mu ?_, hU', ?_, ?_⟩
          · rw [upd_ne nOR.symm]
            exact M10.eO
          · rw [upd_same, List.map_append]
            rfl
          · intro p hp
            rcases List.mem_append.mp hp with hp | hp
            · have h1 := M10.eP p hp
              rw [upd_ne (ne_of h1 M10.eR (by intro q; cases q))]
              exact h1
            · rw [List.mem_singleton.mp hp]
              have h1 : (upd H9 t (.tup [.int (if v < u then v else u), .int (if v > u then v else u)])) t = some (.tup [.int (if v < u then v else u), .int (if v > u then v else u)]) := upd_same
              rw [upd_ne (ne_of h1 M10.eR (by intro q; cases q))]
              exact h1
          · rw [List.length_append, List.length_singleton]
            omega
          · constructor
            · split <;> omega
            · split <;> omega
          · rw [List.map_append]
            exact (List.perm_append_comm).trans (pE.cons _)
          · rw [List.length_cons, lU]
        · rintro H9 ⟨c9, hc9, M9⟩
          exact ⟨c9, _, _, ps, rfl, by omega, M9, by omega, _, _, .room _ g nv, hU', pE, by rw [List.length_cons, lU]⟩
        · intro QQ hQ
          refine ⟨_, rfl, rfl, _, rfl, ?_⟩
          refine ite2 (fun _ => ?_) (fun hz => ?_)
          · exact hQ _ _ ⟨cc + 2, by omega, M8⟩
          · have hlk6 : lk = 6 := by
              rcases hlk with e | e
              · subst e
                exact absurd (decide_eq_true rfl) hz
              · exact e
            subst hlk6
            refine ⟨_, rfl, _, rfl, s, A, B, cc + 2, 6, rfl, M8.st, by omega, by decide, by decide, fun H9 r3 hS9 fr9 _ _ => ?_⟩
            exact ⟨_, _, rfl, rfl, _, rfl, hQ _ _ ⟨cc + 3, by omega, M8.fr hS9 fr9 zO zR⟩⟩
      · rintro σ H5 ⟨cc, y8, y9, ps, rfl, hcc, M5, hps, U, E, g, hU, pE, lU⟩
        have kz : ∀ z ∈ ps, twoOf H5 (.ref z.1) = z.2 := fun z hz => twoOf_eq (M5.eP z hz)
        refine ⟨_, rfl, _, rfl, R, _, twoOf H5, rfl, SqL.of M5.eR, ?_, fun ys p hsrt hstb hp => ?_⟩
        · intro x hx
          obtain ⟨z, hz, rfl⟩ := List.mem_map.mp hx
          refine ⟨z.1, rfl, ?_⟩
          rw [kz z hz]
          exact M5.eP z hz
        obtain ⟨ps', pp, rfl⟩ := perm_map_inv hstb.perm rfl
        have upD : (ps'.map (·.2)).Pairwise Dlt := by
          have nd : (ps'.map (·.2)).Nodup := ((pp.map _).trans pE).nodup_iff.mpr g.nodup
          rw [List.nodup_iff_pairwise_ne, List.pairwise_map] at nd
          rw [List.pairwise_map]
          have hs : ps'.Pairwise fun x y => ltP (twoOf H5) (.ref y.1) (.ref x.1) = false := List.pairwise_map.mp hsrt
          refine (hs.and nd).imp_of_mem fun {x y} hx hy h => ?_
          have h1 : SrtO.lexB y.2 x.2 = false := by
            have := h.1
            unfold ltP at this
            rw [kz x (pp.mem_iff.mp hx), kz y (pp.mem_iff.mp hy)] at this
            exact this
          exact Dlt_of (SrtO.lexB_no.mp h1) h.2
        have M6 := M5.new (o := .lst (ps'.map fun p => V.ref p.1)) hp
        refine ⟨p, _, rfl, .inl ⟨SqL.of upd_same, fun d hd => ?_⟩⟩
        have M7 := M6.new (o := .tup (ps'.map fun p => V.ref p.1)) hd
        refine ⟨by show 2 ≤ sizeLine; decide, fun h hh => ?_⟩
        have M8 := M7.new (o := .tup [.int n, .ref d]) hh
        have tk : ord.take ((n - 1).toNat + 1) = ord := List.take_of_length_le (by omega)
        refine q _ h n (ps'.map (·.2)) (M8.st.mono (by omega)) M8.frm ⟨d, ps', upd_same, ?_, rfl, fun z hz => M8.eP z (pp.mem_iff.mp hz)⟩ ⟨U, E, g, fun x => ?_, (pp.map _).trans pE, by omega, upD⟩ n2 n3
        · rw [upd_ne (fun e => ?_), upd_same]
          rw [← e, upd_same] at hh
          cases hh
        · rw [hU, tk, pm.mem_iff, mem_rg]
end
end Fw
namespace Fw
open PySem PySem.Spec PyProof.Rows L2

/-! ### x in a tuple, by data -/
def rInT (K : PySem.W.Frag) : R2 := fun x y H Q => ∃ d ds, Dp K H x d ∧ Dp K H y (.tuple ds) ∧ SeqAt.shaped d = true ∧ SeqAt.shaped (.tuple ds) = true ∧ Q (.bl (ds.any fun z => PyData.eqv z d)) H
theorem op_inT {X : Cx} (hu : X.A.units + 65 < cLine) : OpR X (compareOp .In) (rInT X.K) := by
  intro pins s σ H x y v u Q I rx ry h
  obtain ⟨d, ds, hd, he, sd, se, q⟩ := h
  obtain ⟨as, r1⟩ := Dp.reads I d x v hd rx
  obtain ⟨bs, r2⟩ := Dp.reads I (.tuple ds) y u he ry
  exact SeqAt.in_tuple_reads r2 r1 (SeqAt.canLay_of_shaped se) (SeqAt.canLay_of_shaped sd) (room_in_shaped sd hu) ⟨.bl _, H, I, rfl, q⟩
theorem units65 {k : Nat} {A : Around} (r : Room k A) : A.units + 65 < cLine := by have := r.un; omega

/-- a door as data -/
def pd (d : Int × Int) : PyData := .tuple [.int d.1, .int d.2]
theorem pd_lay : ∀ D : List (Int × Int), PyData.canLayAll0 (D.map pd) = true
  | [] => by simp [PyData.canLayAll0]
  | d :: D => by
    rw [List.map_cons, PyData.canLayAll0, pd_lay D]
    simp [pd, PyData.canLay0, PyData.canLayAll0]
theorem pd_deep : ∀ D : List (Int × Int), PyData.depthAll (D.map pd) ≤ 1
  | [] => by simp [PyData.depthAll]
  | d :: D => by
    rw [List.map_cons, PyData.depthAll]
    have := pd_deep D
    simp [pd, PyData.depth, PyData.depthAll]
    omega
theorem pd_shaped (d : Int × Int) : SeqAt.shaped (pd d) = true := shaped_tup [d.1, d.2]
theorem pds_shaped (D : List (Int × Int)) : SeqAt.shaped (.tuple (D.map pd)) = true := by
  unfold SeqAt.shaped
  rw [PyData.canLay0, pd_lay, PyData.depth]
  have := pd_deep D
  simp
  omega
theorem pd_eqv (a b : Int × Int) : PyData.eqv (pd a) (pd b) = decide (a = b) := by
  obtain ⟨a1, a2⟩ := a
  obtain ⟨b1, b2⟩ := b
  simp only [pd, PyData.eqv, PyData.eqvAll, Bool.and_true]
  rw [Bool.eq_iff_iff]
  simp
theorem any_pd (D : List (Int × Int)) (d : Int × Int) : ((D.map pd).any fun z => PyData.eqv z (pd d)) = decide (d ∈ D) := by
  rw [Bool.eq_iff_iff, List.any_eq_true, decide_eq_true_eq]
  constructor
  · rintro ⟨z, hz, e⟩
    obtain ⟨y, hy, rfl⟩ := List.mem_map.mp hz
    rw [pd_eqv, decide_eq_true_eq] at e
    exact e ▸ hy
  · intro h
    exact ⟨pd d, List.mem_map_of_mem h, by rw [pd_eqv]; simp⟩
theorem dp_pair {K : PySem.W.Frag} {H : Hp} {t : Addr} {d : Int × Int} (h : H t = some (.tup [.int d.1, .int d.2])) : Dp K H (.ref t) (pd d) :=
  .tup (SqT.of h) (.cons (.int _) (.cons (.int _) .nil))
theorem dp_pairs {K : PySem.W.Frag} {H : Hp} : ∀ {ps : List (Addr × Int × Int)}, (∀ p ∈ ps, H p.1 = some (.tup [.int p.2.1, .int p.2.2])) → DpAll K H (ps.map fun p => V.ref p.1) ((ps.map (·.2)).map pd)
  | [], _ => .nil
  | p :: ps, h => .cons (dp_pair (h p (List.mem_cons_self ..))) (dp_pairs fun q hq => h q (List.mem_cons_of_mem _ hq))
theorem tt_by {t : TT} {Q : Bool → Hp → Prop} {σ : L2.St} {H : Hp} (Good : Bool → Hp → Prop) (h : ∀ Q' : Bool → Hp → Prop, (∀ b H', Good b H' → Q' b H') → t σ H Q') (hq : ∀ b H', Good b H' → Q b H') : t σ H Q := h _ hq

def pr (D : List (Int × Int)) (r : Int) : Int → Bool := fun o => decide ((r, o) ∈ D) || decide ((o, r) ∈ D)
def nbk (D : List (Int × Int)) (r : Int) (i : Nat) : List Int := ((List.range i).map fun (j : Nat) => 0 + (j : Int)).filter (pr D r)
theorem nbk_succ (D : List (Int × Int)) (r : Int) (i : Nat) : nbk D r (i + 1) = nbk D r i ++ if pr D r (0 + (i : Int)) = true then [0 + (i : Int)] else [] := by
  unfold nbk
  rw [List.range_succ, List.map_append, List.filter_append]
  congr 1
  by_cases c : pr D r (0 + (i : Int)) = true
  · rw [if_pos c]
    show List.filter (pr D r) [0 + (i : Int)] = _
    rw [List.filter_cons_of_pos c]
    rfl
  · rw [if_neg c]
    show List.filter (pr D r) [0 + (i : Int)] = _
    rw [List.filter_cons_of_neg c]
    rfl
theorem nbk_len (D : List (Int × Int)) (r : Int) (i : Nat) : (nbk D r i).length ≤ i := by
  refine Nat.le_trans (List.length_filter_le _ _) ?_
  simp
theorem nbk_nb (n : Int) (D : List (Int × Int)) (r : Int) : nbk D r n.toNat = nb n D r := by
  unfold nbk nb
  congr 1
  refine List.map_congr_left fun i _ => ?_
  omega

theorem get_ref {ps : List (Addr × Int × Int)} {i : Nat} {x : V} (h : (ps.map fun p => V.ref p.1)[i]? = some x) : ∃ p, ps[i]? = some p ∧ x = .ref p.1 := by
  rw [List.getElem?_map] at h
  cases e : ps[i]? with
  | none => rw [e] at h; cases h
  | some v => rw [e] at h; exact ⟨v, rfl, (Option.some.inj h).symm⟩
theorem outs_succ {D : List (Int × Int)} {r : Int} {i : Nat} {d : Int × Int} (h : D[i]? = some d) : outs (D.take (i + 1)) r = outs (D.take i) r ++ if d.1 = r then [d.2] else [] := by
  unfold outs
  rw [List.take_add_one, h, List.filter_append, List.map_append]
  congr 1
  by_cases c : d.1 = r
  · rw [if_pos c]
    show List.map _ (List.filter _ [d]) = _
    rw [List.filter_cons_of_pos (by simpa using c)]
    rfl
  · rw [if_neg c]
    show List.map _ (List.filter _ [d]) = _
    rw [List.filter_cons_of_neg (by simpa using c)]
    rfl
theorem ins_succ {D : List (Int × Int)} {r : Int} {i : Nat} {d : Int × Int} (h : D[i]? = some d) : ins (D.take (i + 1)) r = ins (D.take i) r ++ if d.2 = r then [d.1] else [] := by
  unfold ins
  rw [List.take_add_one, h, List.filter_append, List.map_append]
  congr 1
  by_cases c : d.2 = r
  · rw [if_pos c]
    show List.map _ (List.filter _ [d]) = _
    rw [List.filter_cons_of_pos (by simpa using c)]
    rfl
  · rw [if_neg c]
    show List.map _ (List.filter _ [d]) = _
    rw [List.filter_cons_of_neg (by simpa using c)]
    rfl
theorem outs_len (D : List (Int × Int)) (r : Int) : (outs D r).length ≤ D.length := by
  unfold outs
  rw [List.length_map]
  exact List.length_filter_le _ _
theorem ins_len (D : List (Int × Int)) (r : Int) : (ins D r).length ≤ D.length := by
  unfold ins
  rw [List.length_map]
  exact List.length_filter_le _ _
section
variable {P : Program} {w : World} {K : PySem.W.Frag} {mg : Str → Option Value} {base : Heap}
def spNb : Sp := fun vs H Q _ => ∃ (h : Addr) (n : Int) (D : List (Int × Int)) (r : Int), vs = [.ref h, .int r] ∧ HouseAt H h n D ∧ Forest n D ∧
  ∀ H' t, Same H H' → H' t = some (.tup (vi (nb n D r))) → Q (.ref t) H'

abbrev nNb : List Str := ["house", "room", "doors", "a", "b"]
abbrev gAB : PySem.W.Frag → TG := fun K => gTup K 2 (gCons (gName 3) (gCons (gName 4) gNil))
theorem scNb : FnScope nNb ["house", "room"] (defScope sNb) := ⟨rfl, rfl, rfl, by decide +kernel, rfl, by decide +kernel, by decide +kernel⟩
theorem ok_nb {f : Addr} {fd : FuncData} {k : Nat} (F : Fun K "neighbors" "neighbors" sNb f fd) (T : Nm mg) : FnOk P w K mg base CX0 (k + 1) f fd ["house", "room"] spNb := by
  refine F.ok scNb (fun vs H Q E h => ?_) (fun cdv A outer s H vs Q E hr h => ?_)
  · obtain ⟨h, n, D, r, rfl, _⟩ := h
    rfl
  · obtain ⟨h, n, D, r, rfl, ⟨q0, ps, h1, h2, h3, h4⟩, hF, q⟩ := h
    refine ⟨_, pss_cons (ps_set (i := 2) scNb.nd rfl (.inl rfl) (pe_ix ix_tup (pv 0) pe_int (fun _ _ => rfl)))
      (pss_one (ps_ret (pe_callTy call_tuple_of (by rfl) T.tuple (by decide +kernel) (pa_cons (pe_op op_cat
        (pe_lc (own := [("a", 3), ("b", 4)]) (g := gAB K) (by rfl) scNb.nd (pi_tup (pv 2))
          (blkOk_by (own := [("a", 3), ("b", 4)]) (N := nNb) (sc := defScope sNb) (by decide +kernel))
          (fun _ _ _ _ _ => pg_tup (by rfl) (pgs_cons (pg_name (i := 3) scNb.nd rfl (Or.inl rfl)) (pgs_cons (pg_name (i := 4) scNb.nd rfl (Or.inl rfl)) pgs_nil)))
          (fun _ _ _ _ _ => pts_one (pt_cmpR op_eq (pv 4) (pv 1) (nomark _)))
          (fun _ _ _ _ _ => pv 3))
        (pe_lc (own := [("a", 3), ("b", 4)]) (g := gAB K) (by rfl) scNb.nd (pi_tup (pv 2))
          (blkOk_by (own := [("a", 3), ("b", 4)]) (N := nNb) (sc := defScope sNb) (by decide +kernel))
          (fun _ _ _ _ _ => pg_tup (by rfl) (pgs_cons (pg_name (i := 3) scNb.nd rfl (Or.inl rfl)) (pgs_cons (pg_name (i := 4) scNb.nd rfl (Or.inl rfl)) pgs_nil)))
          (fun _ _ _ _ _ => pts_one (pt_cmpR op_eq (pv 3) (pv 1) (nomark _)))
          (fun _ _ _ _ _ => pv 4))) pa_nil)))), ?_⟩
    have el := hF.len
    have eD : D.take (ps.map fun p => V.ref p.1).length = D := by
      rw [h3, List.length_map, ← List.length_map (f := fun x : Addr × Int × Int => x.2), List.take_length]
    refine ⟨_, rfl, h, _, _, _, rfl, rfl, SqT.of h1, atI1, ?_⟩
    refine ⟨_, rfl, q0, rfl, ⟨_, SqT.of h2⟩, fun L hL => lc_tup (K := K) (a := q0) (xs := ps.map fun p => V.ref p.1) (fun i H1 => Same H H1 ∧ H1 L = some (.lst (vi (ins (D.take i) r))))
      ⟨same_upd hL, upd_same⟩ (fun i H1 _ hh => SqT.of (hh.1 _ _ h2)) ?_ ?_⟩
    · rintro i x H1 hx ⟨s1, e1⟩
      obtain ⟨p, hp, rfl⟩ := get_ref hx
      have ed : D[i]? = some p.2 := by rw [h3, List.getElem?_map, hp]; rfl
      refine ⟨p.1, _, rfl, SqT.of (s1 _ _ (h4 p (List.mem_of_getElem? hp))), rfl, _, _, rfl, _, _, rfl, rfl, rfl, _, rfl, _, rfl, rfl, _, rfl, ?_⟩
      refine ite2 (fun c => ?_) (fun c => ?_)
      · have c : p.2.2 = r := V.int.inj (of_decide_eq_true c)
        refine ⟨_, rfl, _, e1, ?_, same_put s1 hL, ?_⟩
        · rw [List.length_map]
          exact small1000 (Nat.le_trans (ins_len _ _) (by rw [List.length_take]; omega))
        · rw [upd_same, ins_succ ed, if_pos c, vi_app]
          rfl
      · have c : ¬ p.2.2 = r := fun e => c (decide_eq_true (by rw [e]))
        refine ⟨s1, ?_⟩
        rw [ins_succ ed, if_neg c, List.append_nil]
        exact e1
    · rintro H1 ⟨s1, e1⟩
      rw [eD] at e1
      refine ⟨_, rfl, q0, rfl, ⟨_, SqT.of (s1 _ _ h2)⟩, fun M hM => lc_tup (K := K) (a := q0) (xs := ps.map fun p => V.ref p.1) (fun i H2 => Same H1 H2 ∧ H2 M = some (.lst (vi (outs (D.take i) r))))
        ⟨same_upd hM, upd_same⟩ (fun i H2 _ hh => SqT.of (hh.1 _ _ (s1 _ _ h2))) ?_ ?_⟩
      · rintro i x H2 hx ⟨s2, e2⟩
        obtain ⟨p, hp, rfl⟩ := get_ref hx
        have ed : D[i]? = some p.2 := by rw [h3, List.getElem?_map, hp]; rfl
        refine ⟨p.1, _, rfl, SqT.of (s2 _ _ (s1 _ _ (h4 p (List.mem_of_getElem? hp)))), rfl, _, _, rfl, _, _, rfl, rfl, rfl, _, rfl, _, rfl, rfl, _, rfl, ?_⟩
        refine ite2 (fun c => ?_) (fun c => ?_)
        · have c : p.2.1 = r := V.int.inj (of_decide_eq_true c)
          refine ⟨_, rfl, _, e2, ?_, same_put s2 hM, ?_⟩
          · rw [List.length_map]
            exact small1000 (Nat.le_trans (outs_len _ _) (by rw [List.length_take]; omega))
          · rw [upd_same, outs_succ ed, if_pos c, vi_app]
            rfl
        · have c : ¬ p.2.1 = r := fun e => c (decide_eq_true (by rw [e]))
          refine ⟨s2, ?_⟩
          rw [outs_succ ed, if_neg c, List.append_nil]
          exact e2
      · rintro H2 ⟨s2, e2⟩
        rw [eD] at e2
        refine ⟨L, M, _, _, rfl, rfl, s2 _ _ e1, e2, ?_, fun N hN => ?_⟩
        · rw [List.length_map, List.length_map]
          have h1 := outs_len D r
          have h2 := ins_len D r
          exact Nat.le_of_lt (small1000 (by omega))
        rw [← vi_app, hF.nb_eq r]
        refine ⟨N, _, rfl, .inl ⟨SqL.of upd_same, fun t ht => q _ t ?_ upd_same⟩⟩
        exact ((s1.trans s2).trans (same_upd hN)).trans (same_upd ht)
def spLNb : Sp := fun vs H Q _ => ∃ (h : Addr) (n : Int) (D : List (Int × Int)) (r : Int), vs = [.ref h, .int r] ∧ HouseAt H h n D ∧ Forest n D ∧
  ∀ H' l, Same H H' → H l = none → H' l = some (.lst (vi (nb n D r))) → Q (.ref l) H'

abbrev nLNb : List Str := ["_law_house_here", "_law_room", "_law_found", "_law_one", "_law_other"]
abbrev gOO : PySem.W.Frag → TG := fun K => gTup K 2 (gCons (gName 3) (gCons (gName 4) gNil))
theorem scLNb : FnScope nLNb ["_law_house_here", "_law_room"] (defScope sLNb) := ⟨rfl, rfl, rfl, by decide +kernel, rfl, by decide +kernel, by decide +kernel⟩
theorem ok_lnb {f : Addr} {fd : FuncData} {k : Nat} (F : Fun K "_law_neighbors" "_law_neighbors" sLNb f fd) (T : Nm mg) : FnOk P w K mg base CX0 (k + 1) f fd ["_law_house_here", "_law_room"] spLNb := by
  refine F.ok scLNb (fun vs H Q E h => ?_) (fun cdv A outer s H vs Q E hr h => ?_)
  · obtain ⟨h, n, D, r, rfl, _⟩ := h
    rfl
  · obtain ⟨h, n, D, r, rfl, ⟨q0, ps, h1, h2, h3, h4⟩, hF, q⟩ := h
    refine ⟨_, pss_cons (ps_setLc (i := 2) (own := [("_law_one", 3), ("_law_other", 4)]) (g := gOO K) (by rfl) scLNb.nd rfl rfl (sw_true rfl rfl rfl (by decide +kernel)) (pi_tup (pe_ix ix_tup (pv 0) pe_int (fun _ _ => rfl)))
        (blkOk_by (own := [("_law_one", 3), ("_law_other", 4)]) (N := nLNb) (sc := defScope sLNb) (by decide +kernel))
        (fun _ _ _ _ _ => pg_tup (by rfl) (pgs_cons (pg_name (i := 3) scLNb.nd rfl (Or.inl rfl)) (pgs_cons (pg_name (i := 4) scLNb.nd rfl (Or.inl rfl)) pgs_nil)))
        (fun _ _ _ _ _ => pts_one (pt_cmpR op_eq (pv 3) (pv 1) (nomark _)))
        (fun _ _ _ _ _ => pv 4))
      (pss_one (ps_ret (pe_callB cr_sortedI (by rfl) T.sorted (by decide +kernel) (pa_cons (pe_op op_cat (pv 2)
        (pe_lc (own := [("_law_one", 3), ("_law_other", 4)]) (g := gOO K) (by rfl) scLNb.nd (pi_tup (pe_ix ix_tup (pv 0) pe_int (fun _ _ => rfl)))
          (blkOk_by (own := [("_law_one", 3), ("_law_other", 4)]) (N := nLNb) (sc := defScope sLNb) (by decide +kernel))
          (fun _ _ _ _ _ => pg_tup (by rfl) (pgs_cons (pg_name (i := 3) scLNb.nd rfl (Or.inl rfl)) (pgs_cons (pg_name (i := 4) scLNb.nd rfl (Or.inl rfl)) pgs_nil)))
          (fun _ _ _ _ _ => pts_one (pt_cmpR op_eq (pv 4) (pv 1) (nomark _)))
          (fun _ _ _ _ _ => pv 3))) pa_nil)))), ?_⟩
    refine ⟨_, rfl, h, _, _, _, rfl, rfl, SqT.of h1, atI1, q0, rfl, ⟨_, SqT.of h2⟩, fun L hL => lc_tup (K := K) (a := q0) (xs := ps.map fun p => V.ref p.1) (fun i H1 => Same H H1 ∧ H1 L = some (.lst (vi (outs (D.take i) r))))
      ⟨same_upd hL, upd_same⟩ (fun i H1 _ hh => SqT.of (hh.1 _ _ h2)) ?_ ?_⟩
    · rintro i x H1 hx ⟨s1, e1⟩
      obtain ⟨p, hp, rfl⟩ := get_ref hx
      have ed : D[i]? = some p.2 := by rw [h3, List.getElem?_map, hp]; rfl
      have em := List.mem_of_getElem? hp
      refine ⟨p.1, _, rfl, SqT.of (s1 _ _ (h4 p em)), rfl, _, _, rfl, _, _, rfl, rfl, rfl, _, rfl, _, rfl, rfl, _, rfl, ?_⟩
      refine ite2 (fun c => ?_) (fun c => ?_)
      · have c : p.2.1 = r := V.int.inj (of_decide_eq_true c)
        refine ⟨_, rfl, _, e1, ?_, same_put s1 hL, ?_⟩
        · rw [List.length_map]
          exact small1000 (Nat.le_trans (outs_len _ _) (by have := hF.len; rw [List.length_take]; omega))
        · rw [upd_same, outs_succ ed, if_pos c, vi_app]
          rfl
      · have c : ¬ p.2.1 = r := fun e => c (decide_eq_true (by rw [e]))
        refine ⟨s1, ?_⟩
        rw [outs_succ ed, if_neg c, List.append_nil]
        exact e1
    · rintro H1 ⟨s1, e1⟩
      have eD : D.take (ps.map fun p => V.ref p.1).length = D := by
        rw [h3, List.length_map, ← List.length_map (f := fun x : Addr × Int × Int => x.2), List.take_length]
      rw [eD] at e1
      refine ⟨_, rfl, _, rfl, h, _, _, _, rfl, rfl, SqT.of (s1 _ _ h1), atI1, q0, rfl, ⟨_, SqT.of (s1 _ _ h2)⟩, fun M hM => lc_tup (K := K) (a := q0) (xs := ps.map fun p => V.ref p.1) (fun i H2 => Same H1 H2 ∧ H2 M = some (.lst (vi (ins (D.take i) r))))
        ⟨same_upd hM, upd_same⟩ (fun i H2 _ hh => SqT.of (hh.1 _ _ (s1 _ _ h2))) ?_ ?_⟩
      · rintro i x H2 hx ⟨s2, e2⟩
        obtain ⟨p, hp, rfl⟩ := get_ref hx
        have ed : D[i]? = some p.2 := by rw [h3, List.getElem?_map, hp]; rfl
        have em := List.mem_of_getElem? hp
        refine ⟨p.1, _, rfl, SqT.of (s2 _ _ (s1 _ _ (h4 p em))), rfl, _, _, rfl, _, _, rfl, rfl, rfl, _, rfl, _, rfl, rfl, _, rfl, ?_⟩
        refine ite2 (fun c => ?_) (fun c => ?_)
        · have c : p.2.2 = r := V.int.inj (of_decide_eq_true c)
          refine ⟨_, rfl, _, e2, ?_, same_put s2 hM, ?_⟩
          · rw [List.length_map]
            exact small1000 (Nat.le_trans (ins_len _ _) (by have := hF.len; rw [List.length_take]; omega))
          · rw [upd_same, ins_succ ed, if_pos c, vi_app]
            rfl
        · have c : ¬ p.2.2 = r := fun e => c (decide_eq_true (by rw [e]))
          refine ⟨s2, ?_⟩
          rw [ins_succ ed, if_neg c, List.append_nil]
          exact e2
      · rintro H2 ⟨s2, e2⟩
        rw [eD] at e2
        have el := hF.len
        refine ⟨L, M, _, _, rfl, rfl, s2 _ _ e1, e2, ?_, fun N hN => ?_⟩
        · rw [List.length_map, List.length_map]
          have h1 := outs_len D r
          have h2 := ins_len D r
          exact Nat.le_of_lt (small1000 (by omega))
        · rw [← vi_app]
          refine ⟨N, _, rfl, SqL.of upd_same, fun ys Z hp hup hZ => ?_⟩
          refine q _ Z ((s1.trans s2).trans ((same_upd hN).trans (same_upd hZ))) (s1.free (s2.free ((same_upd hN).free hZ))) ?_
          rw [upd_same, hF.sorted_nb hp hup]
end
end Fw
namespace Fw
open PySem PySem.Spec PyProof.Rows L2

/-! ### repr, where no repr is under way -/
def rRepr (K : PySem.W.Frag) : List V → Hp → VK → Prop := fun vs H Q => ∃ (a : Addr) (d : PyData), vs = [.ref a] ∧ Dp K H (.ref a) d ∧ d.showable = true ∧ d.hasDict = false ∧ d.depth ≤ 60 ∧ d.shown.length ≤ sizeLine ∧ Q (.str d.shown) H
theorem call_repr {X : Cx} (hg : X.A.guards = some []) (hu : X.A.units + 65 < cLine) : CallR X (.builtin "repr") (rRepr X.K) := by
  intro pins s σ H vs us Q I r h
  obtain ⟨a, d, rfl, hd, hs, hn, hp, hz, q⟩ := h
  obtain ⟨u, rfl, ru⟩ := vals1 r
  obtain rfl : u = Value.ref a := ru
  obtain ⟨as, rd⟩ := Dp.reads I d _ _ hd rfl
  refine repr_of_reads' rd hs (fun z => ?_) hg (by omega) (fun _ _ e => e) (fun h' t tk hk => ?_) hz
  · rw [hn] at z
    cases z
  · exact ⟨.str _, H, I.kept hk, ⟨_, rfl⟩, q⟩

/-! ### a def that is run where no repr is under way -/
structure FnG (P : Program) (w : World) (K : PySem.W.Frag) (mg : Str → Option Value) (base : Heap) (k : Nat) (f : Addr) (fd : FuncData) (ps : List Str) (sp : Sp) : Prop where
  len : ∀ vs H Q E, sp vs H Q E → vs.length = ps.length
  go : ∀ (A : Around) (out : List Env) (st : Shared) (H : Hp) (as : Args) (us : List Value) (vs : List V) (Q : VK), A.guards = some [] → Room k A → Env0 P w K mg base A out st H → BindsTo st fd as (ps.zip us) → Vals vs us → sp vs H Q E0 →
    codeAny (model P w) A (.call (.ref f) as) (CR CX0 out P w H st Q E0) st

section
variable {P : Program} {w : World} {K : PySem.W.Frag} {mg : Str → Option Value} {base : Heap}
theorem Fun.okG {x : Str} {st : Stmt} {f : Addr} {fd : FuncData} {N ps : List Str} {k : Nat} {sp : Sp} (F : Fun K x x st f fd) (S : FnScope N ps (defScope st)) (len : ∀ vs H Q E, sp vs H Q E → vs.length = ps.length)
    (bd : ∀ (c : Value) (A : Around) (out : List Env) (z : Shared) (H : Hp) (vs : List V) (Q : VK), (A.deeper (envOfC x (defScope st) z.heap.objs.size f c)).guards = some [] → Room k (A.deeper (envOfC x (defScope st) z.heap.objs.size f c)) → sp vs H Q E0 →
      ∃ t, PSs (cxOf CX0 P w K mg base N x (defScope st) f c A out z H E0).nox (defBody st) t ∧ t { nx := fun _ H' => Q .non H', rt := Q } (L2.start N vs) H) : FnG P w K mg base (k + 1) f fd ps sp := by
  obtain ⟨oc, od, kV, doc, pm, an, c, ct, osl, rfl, lk, hc⟩ := F.ex
  refine ⟨len, fun A out z H as us vs Q gd room en bi rel hs => ?_⟩
  have kin : K.In z.heap := fun b o e => (en.bs b o (en.mod.kin b o e)).1
  refine codeAny_call_function room.depth (kin _ _ lk) rfl S.co S.gen rfl (PySem.W.codeRec_of kin hc) (bi _ _ _ _ ?_)
  have kinds : ∀ y ∈ ps.zip us, (defScope st).names.lookup y.1 = some .local ∨ ((defScope st).names.lookup y.1 = some .cell ∧ ((cellsFrom (z.heap.objs.size + 1) (defScope st).names []).lookup y.1).isSome = true) := by
    rintro ⟨n, v⟩ hy
    exact (S.par n (List.of_mem_zip hy).1).imp id fun q => ⟨q, PySem.W.cellsFrom_some _ _ _ (.inl q)⟩
  refine wpAny_newFunctionEnv_cells S.kind kinds fun env ee z1 ic => ?_
  subst ee
  refine ⟨(en.mod.nolimit.keeps fun b o e => (en.bs b o e).1).keeps ic.toInCall.keep, codeAny_func ?_⟩
  obtain ⟨t, d, rd⟩ := bd c A out z H vs Q gd (room.deeper _) hs
  have inv := inv_start (CX := CX0) (E := E0) S room.hd en (len _ _ _ _ hs) rel ic
  refine wpAny_mono (d.nox.run [] z1 _ H _ inv rd) (fun fl z2 e => ?_) fun _ _ e => e
  match fl, e with
  | .ret u, ⟨v, σ', H', J, rv, q⟩ => exact ⟨v, H', J.os, J.bare, J.base, J.hok, rv, q⟩
  | .next, ⟨σ', H', J, q⟩ => exact ⟨.non, H', J.os, J.bare, J.base, J.hok, rfl, q⟩
  | .brk, ⟨_, _, _, q⟩ => exact q.elim
  | .cont, ⟨_, _, _, q⟩ => exact q.elim

/-- a call of such a def -/
theorem pe_callG {X : Cx} {k : Nat} {f : Addr} {fd : FuncData} {ps : List Str} {sp : Sp} {x : Str} {p pos : Pos} {e : Expr} {es : List Expr} {t : TA} (F : FnG X.prog X.w X.K X.mg X.base k f fd ps sp) (gd : X.A.guards = some []) (hr : Room k X.A)
    (hg : Gl X x) (hm : X.mg x = some (.ref f)) (hk : PySem.W.keepIn X.K (.ref f) = true) (hb : Binds X.K fd ps []) (ha : PA X (e :: es) t) (hdb : (x == ("__debug__" : Str)) = false := by decide)
    (h1 : starEach (e :: es) X.env = (false, eval e X.env) :: starEach es X.env := by rfl) (h2 : (backTo pos (starEach es X.env)).any (·.1) = false := by rfl) : PE X (.Call (.Name x p) (e :: es) [] pos) (tCall sp [] E0 t) := by
  constructor
  intro pins z σ H Q I h
  refine wpAny_Call_Name_kw (ld_glob I hg hm (PySem.W.callWith_K (h₀ := X.base) I.ok.mod.kin hk (thn (ha.run pos pins z σ H _ I h) ?_) h1 h2) hdb)
  rintro us z1 ⟨vs, H1, I1, r, q⟩
  refine ⟨I1.kIn, wpAny_call (codeAny_mono (F.go X.A X.stack z1 H1 ⟨us, []⟩ (us ++ []) (vs ++ []) Q gd hr I1.env0 (hb z1 us I1.kIn ?_) (r.append .nil) q) fun a z2 hq => ?_)⟩
  · rw [← (r.append .nil).length]
    exact F.len _ _ _ _ q
  · match a, hq with
    | .error _, hq => exact hq.elim
    | .ok (.ret u), hq => exact I1.after hq
    | .ok .next, hq => exact hq.elim
    | .ok .brk, hq => exact hq.elim
    | .ok .cont, hq => exact hq.elim
end
end Fw
namespace Fw
open PySem PySem.Spec PyProof.Rows L2

/-- the state at the law's own call: only the script is tracked -/
theorem top_state {P : Program} {w : World} {K : PySem.W.Frag} {mg mb : Str → Option Value} {a : Addr} {z : Shared} {vs : List Value} {ns : List Int} (kin : K.In z.heap) (gl : z.heap.Ns mainGlobals mg) (bl : z.heap.Ns builtinsNs mb)
    (bb : ∀ x : Str, x ≠ "__name__" → mb x = bootBuiltins x) (lim : z.heap.NoLimit) (ge : z.gens = #[]) (obj : z.heap.get? a = some { cls := .type "list", data := .seq vs.toArray }) (hi : IntsAre vs ns) (hl : ns.length ≤ sizeLine) :
    ∃ (H : Hp) (base : Heap), SqL K H a (vi ns) ∧ K.In base ∧ base.Ns mainGlobals mg ∧ Env0 P w K mg base callerA [] z H ∧ ∀ (H' : Hp) (z' : Shared), Un (frs []) [] H H' z.heap z'.heap → HOk P w H' z'.heap → OldK z.heap z'.heap := by
  have rel : Vals (vi ns) vs := vals_ints hi
  -- what is tracked: nothing, or the script alone
  have pick : ∃ H : Hp, SqL K H a (vi ns) ∧ HOk P w H z.heap ∧ (∀ b, H b = none ∨ (b = a ∧ K.lookup a = none ∧ ∃ xs, H b = some (.frz { cls := .type "list", data := .seq vs.toArray } (.lst xs)))) := by
    cases e : K.lookup a with
    | some o =>
      have e2 : o = { cls := .type "list", data := .seq vs.toArray } := by
        have := kin a o e
        rw [obj] at this
        exact (Option.some.inj this).symm
      subst e2
      refine ⟨fun _ => none, .inr ⟨_, vs.toArray, _, e, rfl, rfl, rfl, ?_, rel⟩, fun b u q => ?_, fun b => .inl rfl⟩
      · rw [List.size_toArray, hi.length]
        exact hl
      · cases (show (none : Option HO) = some u from q)
    | none =>
      refine ⟨upd (fun _ => none) a (.frz { cls := .type "list", data := .seq vs.toArray } (.lst (vi ns))), .inl (.inr ⟨_, upd_same⟩), fun b u q => ?_, fun b => ?_⟩
      · by_cases eb : b = a
        · rw [eb, upd_same] at q
          cases q
          rw [eb]
          exact ⟨obj, by rw [List.length_map]; exact hl, vs, _, rel, obj⟩
        · rw [upd_ne eb] at q
          cases q
      · by_cases eb : b = a
        · exact .inr ⟨eb, rfl, _, by rw [eb]; exact upd_same⟩
        · exact .inl (upd_ne eb)
  obtain ⟨H, hS, hok, only⟩ := pick
  have low : ∀ {b : Addr} {o : Obj}, z.heap.get? b = some o → (b = a → K.lookup a ≠ none) → (hidT z.heap H).get? b = some o := fun {b o} e q => hidT_get e (by
    rcases only b with n | ⟨eb, n, _⟩
    · exact n
    · exact absurd n (q eb))
  have dic : ∀ {b : Addr} {m : Str → Option Value}, z.heap.Ns b m → (hidT z.heap H).Ns b m := fun {b m} h => by
    obtain ⟨o, es, ep, e, d, r⟩ := h
    refine ⟨o, es, ep, hidT_get e ?_, d, r⟩
    rcases only b with n | ⟨eb, _, _⟩
    · exact n
    · rw [eb, obj] at e
      cases e
      cases (show Data.seq vs.toArray _ = Data.dict es ep from d)
  have kb : K.In (hidT z.heap H) := fun b o e => low (kin b o e) fun eb n => by
    rw [eb, n] at e
    cases e
  refine ⟨H, hidT z.heap H, hS, kb, dic gl, ?_, fun H' z' un ok' => OldK.of_keep fun b o e => ?_⟩
  · refine { frames := rfl, mod := ⟨kb, dic gl, ⟨mb, dic bl, bb⟩, ?_⟩, bs := fun b o e => of_hidT e, bsz := Nat.le_of_eq (hidT_size _ _), funs := trivial, frf := fun b hb => ?_, hok := hok, bare := .of_eq ge }
    · obtain ⟨mc, h1, h2⟩ := lim
      exact ⟨mc, dic h1, h2⟩
    · cases (show b ∈ ([] : List Addr) from hb)
  · rcases only b with n | ⟨eb, _, xs, fz⟩
    · refine un.keep b o e n (fun hb => ?_) (fun hb => ?_)
      · cases (show b ∈ ([] : List Addr) from hb)
      · cases hb
    · have f2 := (ok' b _ (un.frzs b _ _ fz)).1
      rw [eb, obj] at e
      cases e
      exact f2

/-- the law's def takes the script alone -/
abbrev Takes1 (fd : FuncData) : Prop := ∀ (z : Shared) (v : Value), BindsTo z fd ⟨[v], []⟩ [("_law_script", v)]
/-- the law's def, at fa, keeps sp over whatever holds the written part -/
def LawAt (P : Program) (w : World) (K : PySem.W.Frag) (mg : Str → Option Value) (k : Nat) (fa : Addr) (sp : Sp) : Prop :=
  ∃ fd, Takes1 fd ∧ ∀ b : Heap, K.In b → b.Ns mainGlobals mg → FnG P w K mg b k fa fd ["_law_script"] sp
/-- a promise that says True of every script -/
def Tells (sp : PySem.W.Frag → Sp) : Prop := ∀ K H a ns, ns.length ≤ 63 → SqL K H a (vi ns) → sp K [.ref a] H (fun v _ => v = .bl true) E0
/-- how a call that keeps such a promise ends -/
structure Told (P : Program) (w : World) (H : Hp) (z : Shared) (r : Result) (z' : Shared) : Prop where
  res : r = .ok (.ret (.bool true))
  os : z'.os = z.os
  bare : AllBare z'.gens
  st : ∃ H', Un (frs []) [] H H' z.heap z'.heap ∧ HOk P w H' z'.heap
theorem told {P : Program} {w : World} {H : Hp} {z z' : Shared} {r : Result} (e : CR CX0 [] P w H z (fun v _ => v = .bl true) E0 r z') : Told P w H z r z' := by
  rcases r with _ | f
  · exact False.elim e
  cases f
  all_goals first | exact False.elim e | skip
  rename_i u
  obtain ⟨v, H', o1, o2, un, ok, rv, qv⟩ := e
  have qv : v = .bl true := qv
  rw [qv] at rv
  exact ⟨by rw [show u = Value.bool true from rv], o1, o2, H', un, ok⟩
/-- the end of a law whose def wants that no repr is under way -/
theorem walkG {l : PySem.W.OpenLaw} {k : Nat} {q : Program} {ls : List Str} {XP : (Str → Option Value) → Heap → Prop} {Y : World → Heap → Prop} {d : DefRec} {K : Params → PySem.W.Frag} {sp : PySem.W.Frag → Sp} (t : Tells sp) (m : l.most = some 63) (nd : d.params.defaults = []) (room : Room k callerA)
    (inK : ∀ w h, Y w h → (K w.params).In h) (L : ∀ w mg fa h, (K w.params).In h → h.Ns mainGlobals mg → mg d.name = some (.ref fa) → LawAt l.prog w (K w.params) mg k fa (sp (K w.params))) :
    PySem.W.WalkO q ls XP Y l.row.toRowW d [] (fun f vs => PySem.call f vs) := by
  apply Att.attach_call m nd
  intro w _ z mg _ fa _ _ _ _ a vs ns G y _ _ _ here obj hi few gens
  obtain ⟨fd, one, keeps⟩ := L w mg fa _ (inK w _ y) G.T.g here
  obtain ⟨H, b, hS, kb, gb, en, old⟩ := top_state (P := l.prog) (w := w) (inK w _ y) G.T.g G.T.b G.T.builtins G.T.nolimit gens obj hi (Nat.le_trans few (by decide))
  have c := (keeps b kb gb).go callerA [] z H ⟨[.ref a], []⟩ [.ref a] [.ref a] (fun v _ => v = .bl true) rfl room en (one z (.ref a)) (.cons rfl .nil) (t _ H a ns few hS)
  exact codeAny_mono c fun r z' e => by
    have e := told e
    obtain ⟨H', un, ok⟩ := e.st
    exact ⟨e.res, old H' z' un ok, e.os, e.bare⟩
end Fw
namespace Fw
open PySem PySem.Spec PyProof.Rows L2
/-- a house as data -/
def hd (n : Int) (D : List (Int × Int)) : PyData := .tuple [.int n, .tuple (D.map pd)]
theorem log_small {i : Int} (h0 : 0 ≤ i) (h1 : i ≤ 100) : i.natAbs.log2 < 1920 := by
  by_cases h : i.natAbs = 0
  · rw [h]; decide
  · exact (Nat.log2_lt h).mpr (Nat.lt_of_le_of_lt (show i.natAbs ≤ 2 ^ 7 by omega) (Nat.pow_lt_pow_right (by decide) (by decide)))
theorem pds_show : ∀ {D : List (Int × Int)}, (∀ d ∈ D, 0 ≤ d.1 ∧ d.1 ≤ 100 ∧ 0 ≤ d.2 ∧ d.2 ≤ 100) → PyData.showableAll (D.map pd) = true ∧ PyData.leavesShortAll 13 (D.map pd) = true
  | [], _ => by simp [PyData.showableAll, PyData.leavesShortAll]
  | d :: D, h => by
    obtain ⟨i1, i2⟩ := pds_show (D := D) fun x hx => h x (List.mem_cons_of_mem _ hx)
    obtain ⟨a0, a1, b0, b1⟩ := h d (List.mem_cons_self ..)
    have s1 := PyData.shown_int_le2 (i := d.1) (by omega) (by omega)
    have s2 := PyData.shown_int_le2 (i := d.2) (by omega) (by omega)
    rw [List.map_cons, PyData.showableAll, PyData.leavesShortAll, i1, i2]
    simp only [pd, PyData.showable, PyData.showableAll, PyData.leavesShort, PyData.leavesShortAll, Bool.and_true]
    exact ⟨by rw [decide_eq_true (log_small a0 a1), decide_eq_true (log_small b0 b1)]; rfl, by rw [decide_eq_true s1, decide_eq_true s2]; rfl⟩
theorem pds_nodict : ∀ D : List (Int × Int), PyData.hasDictAll (D.map pd) = false
  | [] => by simp [PyData.hasDictAll]
  | d :: D => by
    rw [List.map_cons, PyData.hasDictAll, pds_nodict D]
    simp [pd, PyData.hasDict, PyData.hasDictAll]
theorem pds_bulk : ∀ D : List (Int × Int), PyData.bulkAll (D.map pd) = 3 * D.length
  | [] => by simp [PyData.bulkAll]
  | d :: D => by
    rw [List.map_cons, PyData.bulkAll, pds_bulk D]
    simp [pd, PyData.bulk, PyData.bulkAll]
    omega
structure Shows (d : PyData) : Prop where
  s : d.showable = true
  n : d.hasDict = false
  p : d.depth ≤ 60
  z : d.shown.length ≤ sizeLine
theorem hd_shows {n : Int} {D : List (Int × Int)} (n0 : 0 ≤ n) (n1 : n ≤ 100) (h : ∀ d ∈ D, 0 ≤ d.1 ∧ d.1 ≤ 100 ∧ 0 ≤ d.2 ∧ d.2 ≤ 100) (hl : D.length ≤ 100) : Shows (hd n D) := by
  obtain ⟨i1, i2⟩ := pds_show h
  have s1 := PyData.shown_int_le2 (i := n) (by omega) (by omega)
  have dp := pd_deep D
  refine ⟨?_, ?_, ?_, PyData.shown_fits_bulk (B := 13) (by decide) (by decide) ?_ ?_⟩
  · simp only [hd, PyData.showable, PyData.showableAll, Bool.and_true, i1]
    rw [decide_eq_true (log_small n0 n1)]
  · simp only [hd, PyData.hasDict, PyData.hasDictAll, Bool.or_false, Bool.false_or]
    exact pds_nodict D
  · simp only [hd, PyData.depth, PyData.depthAll]
    omega
  · simp only [hd, PyData.leavesShort, PyData.leavesShortAll, Bool.and_true, i2]
    rw [decide_eq_true s1]
  · simp only [hd, PyData.bulk, PyData.bulkAll, pds_bulk]
    omega
theorem Forest.shows {n : Int} {D : List (Int × Int)} (f : Forest n D) (n0 : 0 ≤ n) (n1 : n ≤ 8) : Shows (hd n D) := by
  refine hd_shows n0 (by omega) (fun d hd => ?_) (Nat.le_trans f.len (by decide))
  have := f.ends (a := d.1) (b := d.2) hd
  omega
theorem HouseAt.dp {K : PySem.W.Frag} {H : Hp} {h : Addr} {n : Int} {D : List (Int × Int)} (x : HouseAt H h n D) : Dp K H (.ref h) (hd n D) := by
  obtain ⟨q, ps, h1, h2, h3, h4⟩ := x
  rw [h3]
  exact .tup (SqT.of h1) (.cons (.int n) (.cons (.tup (SqT.of h2) (dp_pairs h4)) .nil))
end Fw
namespace Fw
open PySem PySem.Spec PyProof.Rows L2
/-- a def of the text, wherever it stands -/
def DefE (K : PySem.W.Frag) (mg : Str → Option Value) (x : Str) (st : Stmt) (ps : List Str) : Prop := ∃ f fd, Def K mg x st f fd ps
/-- a def that keeps a promise, by its name -/
def Cal (P : Program) (w : World) (K : PySem.W.Frag) (mg : Str → Option Value) (base : Heap) (k : Nat) (x : Str) (ps : List Str) (sp : Sp) : Prop :=
  ∃ f fd, mg x = some (.ref f) ∧ PySem.W.keepIn K (.ref f) = true ∧ Binds K fd ps [] ∧ FnOk P w K mg base CX0 k f fd ps sp
def CalG (P : Program) (w : World) (K : PySem.W.Frag) (mg : Str → Option Value) (base : Heap) (k : Nat) (x : Str) (ps : List Str) (sp : Sp) : Prop :=
  ∃ f fd, mg x = some (.ref f) ∧ PySem.W.keepIn K (.ref f) = true ∧ Binds K fd ps [] ∧ FnG P w K mg base k f fd ps sp
section
variable {P : Program} {w : World} {K : PySem.W.Frag} {mg : Str → Option Value} {base : Heap}
theorem Def.cal {x : Str} {st : Stmt} {f : Addr} {fd : FuncData} {ps : List Str} {k : Nat} {sp : Sp} (D : Def K mg x st f fd ps) (h : FnOk P w K mg base CX0 k f fd ps sp) : Cal P w K mg base k x ps sp :=
  ⟨f, fd, D.g, D.F.kp, D.b, h⟩
theorem Def.calG {x : Str} {st : Stmt} {f : Addr} {fd : FuncData} {ps : List Str} {k : Nat} {sp : Sp} (D : Def K mg x st f fd ps) (h : FnG P w K mg base k f fd ps sp) : CalG P w K mg base k x ps sp :=
  ⟨f, fd, D.g, D.F.kp, D.b, h⟩
theorem DefE.cal {x : Str} {st : Stmt} {ps : List Str} {k : Nat} {sp : Sp} (D : DefE K mg x st ps) (h : ∀ f fd, Def K mg x st f fd ps → FnOk P w K mg base CX0 k f fd ps sp) : Cal P w K mg base k x ps sp := by
  obtain ⟨f, fd, d⟩ := D
  exact d.cal (h f fd d)
theorem DefE.calG {x : Str} {st : Stmt} {ps : List Str} {k : Nat} {sp : Sp} (D : DefE K mg x st ps) (h : ∀ f fd, Def K mg x st f fd ps → FnG P w K mg base k f fd ps sp) : CalG P w K mg base k x ps sp := by
  obtain ⟨f, fd, d⟩ := D
  exact d.calG (h f fd d)
theorem Cal.imp {x : Str} {ps : List Str} {k : Nat} {sp sp' : Sp} (C : Cal P w K mg base k x ps sp) (h : ∀ vs H Q E, sp' vs H Q E → sp vs H Q E) : Cal P w K mg base k x ps sp' := by
  obtain ⟨f, fd, a, b, c, d⟩ := C
  exact ⟨f, fd, a, b, c, d.imp h⟩
theorem Cal.up {x : Str} {ps : List Str} {j k : Nat} {sp : Sp} (C : Cal P w K mg base j x ps sp) (h : j ≤ k) : Cal P w K mg base k x ps sp := by
  obtain ⟨f, fd, a, b, c, d⟩ := C
  exact ⟨f, fd, a, b, c, d.mono h⟩
theorem pe_cal {X : Cx} {k : Nat} {ps : List Str} {sp : Sp} {x : Str} {p pos : Pos} {e : Expr} {es : List Expr} {t : TA} (C : Cal X.prog X.w X.K X.mg X.base k x ps sp) (hr : Room k X.A) (hg : Gl X x) (ha : PA X (e :: es) t) (hdb : (x == ("__debug__" : Str)) = false := by decide)
    (h1 : starEach (e :: es) X.env = (false, eval e X.env) :: starEach es X.env := by rfl) (h2 : (backTo pos (starEach es X.env)).any (·.1) = false := by rfl) : PE X (.Call (.Name x p) (e :: es) [] pos) (tCall sp [] E0 t) := by
  obtain ⟨f, fd, a, b, c, d⟩ := C
  exact pe_call d hr hg a b c .nil pass0 ha hdb h1 h2
theorem pe_calG {X : Cx} {k : Nat} {ps : List Str} {sp : Sp} {x : Str} {p pos : Pos} {e : Expr} {es : List Expr} {t : TA} (C : CalG X.prog X.w X.K X.mg X.base k x ps sp) (gd : X.A.guards = some []) (hr : Room k X.A) (hg : Gl X x) (ha : PA X (e :: es) t) (hdb : (x == ("__debug__" : Str)) = false := by decide)
    (h1 : starEach (e :: es) X.env = (false, eval e X.env) :: starEach es X.env := by rfl) (h2 : (backTo pos (starEach es X.env)).any (·.1) = false := by rfl) : PE X (.Call (.Name x p) (e :: es) [] pos) (tCall sp [] E0 t) := by
  obtain ⟨f, fd, a, b, c, d⟩ := C
  exact pe_callG d gd hr hg a b c ha hdb h1 h2
end
def tTru (K : PySem.W.Frag) (ta : TE) : TT := fun σ H Q => ta σ H fun x H' => ∃ k, TruV K x H' k ∧ Q k H'
/-! ### the rules with the written part told (so that they can stand in a comprehension) -/
section
variable {X : Cx} (K : PySem.W.Frag) (h : X.K = K)
include h
theorem op_inK : OpR X (compareOp .In) (rIn K false) := by subst h; exact op_in_seq
theorem op_notInK : OpR X (compareOp .NotIn) (rIn K true) := by subst h; exact op_notIn_seq
theorem ix_listK : IxR X (rIxL K) := by subst h; exact ix_list
theorem ix_tupK : IxR X (rIxT K) := by subst h; exact ix_tup
theorem call_lenK : CallR X (.builtin "len") (fun xs H Q => ∃ p ys, xs = [.ref p] ∧ (SqL K H p ys ∨ SqT K H p ys) ∧ Q (.int ys.length) H) := by subst h; exact call_len_seq
theorem call_listK : CallR X (.type "list") (fun xs H Q => ∃ p ys, xs = [.ref p] ∧ (SqL K H p ys ∨ SqT K H p ys) ∧ ∀ l, H l = none → Q (.ref l) (upd H l (.lst ys))) := by subst h; exact call_list_of
theorem call_tupleK : CallR X (.type "tuple") (fun xs H Q => ∃ p ys, xs = [.ref p] ∧ ((SqL K H p ys ∧ ∀ l, H l = none → Q (.ref l) (upd H l (.tup ys))) ∨ (SqT K H p ys ∧ Q (.ref p) H))) := by subst h; exact call_tuple_of
theorem call_tupleF : CallR X (.type "tuple") (fun xs H Q => ∃ p ys, xs = [.ref p] ∧ SqL K H p ys ∧ ∀ (l : Addr) (ob : Obj), H l = none → ob.dict = none → Q (.ref l) (upd H l (.frz ob (.tup ys)))) := by
  subst h
  intro pins s σ H xs us Q I r h
  obtain ⟨p, ys, rfl, hq, q⟩ := h
  obtain ⟨u, rfl, ru⟩ := vals1 r
  cases ru
  obtain ⟨its, rel, pl, hz⟩ := I.list hq
  have hlen := rel.length
  refine call_tuple_list pl.isList (fun h' kp => ?_) (by simp only [List.size_toArray] <;> omega)
  have I1 : Inv X pins σ H { s with heap := h' } := I.kept (t' := s.toks) kp
  have J : Inv X pins σ (upd H h'.objs.size (.frz { cls := .type "tuple", data := .seq its.toArray } (.tup ys))) { s with heap := h'.push { cls := .type "tuple", data := .seq its.toArray } } :=
    I1.laid (t' := s.toks) (fun b o e => Heap.get?_push_of_some _ e) (Nat.le_refl _) (show ObjOk X.prog X.w _ _ _ (.frz _ (.tup ys)) from ⟨Heap.get?_push_size _ rfl, hz, its, rel, IsTup.new _ _⟩)
  exact ⟨.ref h'.objs.size, _, J, rfl, q _ _ (I1.hok.fresh (Nat.le_refl _)) rfl⟩
theorem pi_tupK {tg l : Expr} {tl : TE} (hl : PE X l tl) : PI X tg l (iTup K tl) := by subst h; exact pi_tup hl
theorem pi_listK {tg l : Expr} {tl : TE} (hl : PE X l tl) : PI X tg l (iList K tl) := by subst h; exact pi_list hl
theorem op_eqDK (hu : X.A.units + 64 < cLine) : OpR X (compareOp .Eq) (rEqD K) := by subst h; exact op_eqD hu
theorem op_neDK (hu : X.A.units + 64 < cLine) : OpR X (compareOp .NotEq) (rNeD K) := by subst h; exact op_neD hu
theorem pt_truthK {a : Expr} {ta : TE} (ha : PE X a ta) (he : ∀ whole, isTrue a X.env whole = (do let v ← whole; standAt a.pos; holding [v] (truthy v))) : PT X a (tTru K ta) := by subst h; exact pt_truth ha he
end
end Fw
namespace Fw
open PySem PySem.Spec PyProof.Rows L2
/-! ### names: texts of small letters -/
def Low (m : Nat) (s : Str) : Prop := s.length ≤ m ∧ ∀ c ∈ s.cps.toList, 97 ≤ c ∧ c ≤ 122
def Nam (s : Str) : Prop := 1 ≤ s.length ∧ Low 8 s
def ltS (a b : Str) : Prop := a.cps.toList < b.cps.toList
structure Names (ns : List Str) : Prop where
  nam : ∀ x ∈ ns, Nam x
  up : ns.Pairwise ltS
theorem str_ext {a b : Str} (h : a.cps.toList = b.cps.toList) : a = b := by
  cases a with
  | mk x => cases b with
    | mk y =>
      have : x = y := Array.toList_inj.mp h
      rw [this]
theorem app_list (a b : Str) : (a ++ b).cps.toList = a.cps.toList ++ b.cps.toList := by
  show (a.cps ++ b.cps).toList = _
  rw [Array.toList_append]
theorem app_len (a b : Str) : (a ++ b).length = a.length + b.length := Str.length_append a b
theorem len_list (a : Str) : a.length = a.cps.toList.length := by
  show a.cps.size = _
  rw [Array.length_toList]
theorem Low.app {m n : Nat} {a b : Str} (h : Low m a) (k : Low n b) : Low (m + n) (a ++ b) := by
  refine ⟨by rw [app_len]; have := h.1; have := k.1; omega, fun c hc => ?_⟩
  rw [app_list, List.mem_append] at hc
  exact hc.elim (h.2 c) (k.2 c)
theorem Low.mono {m n : Nat} {a : Str} (h : Low m a) (k : m ≤ n) : Low n a := ⟨Nat.le_trans h.1 k, h.2⟩
def let1 (i : Int) : Str := ⟨#[97 + i.toNat]⟩
theorem let1_low {i : Int} (h0 : 0 ≤ i) (h1 : i < 26) : Low 1 (let1 i) := by
  refine ⟨Nat.le_refl _, fun c hc => ?_⟩
  have : c = 97 + i.toNat := by simpa [let1] using hc
  omega
theorem join_low {sep : Str} (hs : sep.cps.toList = []) : ∀ {ys : List Str}, (∀ y ∈ ys, Low 1 y) → Low ys.length (Txt.join sep ys) := by
  intro ys h
  show Low ys.length (Builtin.Str.glued sep ys)
  rw [StrLaws.glued_eq_join]
  induction ys with
  | nil => exact ⟨Nat.le_refl _, fun c hc => by cases (show c ∈ ([] : List Nat) from hc)⟩
  | cons y r ih =>
    cases r with
    | nil => exact h y (List.mem_cons_self ..)
    | cons z r =>
      have i1 := ih fun x hx => h x (List.mem_cons_of_mem _ hx)
      have i0 := h y (List.mem_cons_self ..)
      have e : Str.join sep (y :: z :: r) = y ++ sep ++ Str.join sep (z :: r) := rfl
      have e2 : y ++ sep = y := str_ext (by rw [app_list, hs, List.append_nil])
      rw [e, e2]
      refine ((i0.app i1).mono ?_)
      simp only [List.length_cons]
      omega
theorem join_fits {sep : Str} (hs : sep.cps.toList = []) {ys : List Str} (h : ∀ y ∈ ys, Low 1 y) (hl : ys.length ≤ 100) : (ys.map (·.length)).sum + ys.length * sep.length ≤ 16777216 := by
  have e : sep.length = 0 := by rw [len_list, hs]; rfl
  rw [e, Nat.mul_zero, Nat.add_zero]
  have : ∀ zs : List Str, (∀ y ∈ zs, Low 1 y) → (zs.map (·.length)).sum ≤ zs.length := by
    intro zs hz
    induction zs with
    | nil => exact Nat.le_refl _
    | cons z r ih =>
      have := ih fun x hx => hz x (List.mem_cons_of_mem _ hx)
      have := (hz z (List.mem_cons_self ..)).1
      simp only [List.map_cons, List.sum_cons, List.length_cons]
      omega
  have := this ys h
  omega
def nmk (h t : Str) (r : Int) (k : Nat) : Str := h ++ let1 ((r + 7 * (0 + (k : Int))).fmod 26) ++ t
theorem fm26 (x : Int) : 0 ≤ x.fmod 26 ∧ x.fmod 26 < 26 := by
  rw [Int.fmod_eq_emod_of_nonneg x (by decide)]
  omega
theorem nmk_nam {h t : Str} {r : Int} {k : Nat} (a : Low 3 h) (b : Low 3 t) : Nam (nmk h t r k) := by
  have l := let1_low (fm26 (r + 7 * (0 + (k : Int)))).1 (fm26 _).2
  have := ((a.app l).app b).mono (show 3 + 1 + 3 ≤ 8 by decide)
  refine ⟨?_, this⟩
  unfold nmk
  rw [app_len, app_len]
  show 1 ≤ h.length + 1 + t.length
  omega
theorem nmk_len {h t : Str} {r : Int} {k : Nat} (a : Low 3 h) (b : Low 3 t) : (nmk h t r k).length ≤ 7 := ((a.app (let1_low (fm26 (r + 7 * (0 + (k : Int)))).1 (fm26 _).2)).app b).1
theorem nmk_inj {h t : Str} {r : Int} {i j : Nat} (hi : i < 26) (hj : j < 26) (e : nmk h t r i = nmk h t r j) : i = j := by
  have e1 := congrArg (fun s : Str => s.cps.toList) e
  simp only [nmk, app_list] at e1
  have e2 := List.append_cancel_right e1
  have e3 := List.append_cancel_left e2
  have e4 : 97 + ((r + 7 * (0 + (i : Int))).fmod 26).toNat = 97 + ((r + 7 * (0 + (j : Int))).fmod 26).toNat := by simpa [let1] using e3
  have a := fm26 (r + 7 * (0 + (i : Int)))
  have b := fm26 (r + 7 * (0 + (j : Int)))
  rw [Int.fmod_eq_emod_of_nonneg _ (by decide)] at a b e4
  rw [Int.fmod_eq_emod_of_nonneg _ (by decide)] at e4
  omega
theorem nmk_nodup {h t : Str} {r : Int} {m : Nat} (hm : m ≤ 26) : ((List.range m).map (nmk h t r)).Nodup := by
  rw [List.nodup_iff_pairwise_ne, List.pairwise_map]
  refine (List.nodup_iff_pairwise_ne.mp List.nodup_range).imp_of_mem fun {a b} ha hb ne e => ne ?_
  rw [List.mem_range] at ha hb
  exact nmk_inj (by omega) (by omega) e
theorem risingS_le : ∀ {ys : List Str} {p : Str}, risingS p ys = true → (∀ x ∈ ys, ¬ ltS x p) ∧ ys.Pairwise (fun a b => ¬ ltS b a)
  | [], _, _ => ⟨fun _ h => absurd h List.not_mem_nil, .nil⟩
  | x :: r, p, h => by
    rw [risingS, Bool.and_eq_true, Bool.not_eq_true', ltCps_eq, decide_eq_false_iff_not] at h
    obtain ⟨h1, h2⟩ := h
    obtain ⟨i1, i2⟩ := risingS_le h2
    refine ⟨fun y hy => ?_, .cons i1 i2⟩
    rcases List.mem_cons.mp hy with rfl | hy
    · exact h1
    · have h3 := i1 y hy
      exact fun z => List.le_trans (α := Nat) (Std.not_lt.mp h1) (Std.not_lt.mp h3) z
theorem sortedS_le {ys : List Str} (h : sortedS ys = true) : ys.Pairwise (fun a b => ¬ ltS b a) := by
  cases ys with
  | nil => exact .nil
  | cons x r => exact .cons (risingS_le h).1 (risingS_le h).2
theorem ltS_of {a b : Str} (h : ¬ ltS b a) (n : a ≠ b) : ltS a b := by
  have h : a.cps.toList ≤ b.cps.toList := Std.not_lt.mp h
  by_cases l : ltS a b
  · exact l
  · exact absurd (str_ext (List.le_antisymm h (Std.not_lt.mp l))) n
theorem sorted_names {ns ys : List Str} (p : ys.Perm ns) (h : sortedS ys = true) (n : ns.Nodup) (a : ∀ x ∈ ns, Nam x) : Names ys := by
  refine ⟨fun x hx => a x (p.mem_iff.mp hx), ?_⟩
  have nd : ys.Nodup := p.nodup_iff.mpr n
  exact ((sortedS_le h).and (List.nodup_iff_pairwise_ne.mp nd)).imp fun {a b} h => ltS_of h.1 h.2
theorem ltS_irr (a : Str) : ¬ ltS a a := fun h => List.lt_irrefl _ h
theorem ltS_trans {a b c : Str} (h : ltS a b) (k : ltS b c) : ltS a c := List.lt_trans h k
theorem Names.nodup {ns : List Str} (h : Names ns) : ns.Nodup := List.nodup_iff_pairwise_ne.mpr (h.up.imp fun {a b} l => fun (e : a = b) => ltS_irr b (by rw [e] at l; exact l))
theorem vs_app (a b : List Str) : (a ++ b).map V.str = a.map V.str ++ b.map V.str := List.map_append
theorem get_vs {ns : List Str} {i : Nat} {x : V} (h : (ns.map V.str)[i]? = some x) : ∃ v, ns[i]? = some v ∧ x = .str v := by
  rw [List.getElem?_map] at h
  cases e : ns[i]? with
  | none => rw [e] at h; cases h
  | some v => rw [e] at h; exact ⟨v, rfl, (Option.some.inj h).symm⟩
theorem abc_at {z : Str} (hz : z.cps.toList = (List.range 26).map (97 + ·)) {i : Int} (h0 : 0 ≤ i) (h1 : i < 26) : atI z.cps.toList i = some (97 + i.toNat) := by
  have := atI_nat (xs := z.cps.toList) (j := i.toNat) (v := 97 + i.toNat) (by rw [hz, List.getElem?_map, List.getElem?_range (by omega)]; rfl)
  rw [show ((i.toNat : Nat) : Int) = i by omega] at this
  exact this

theorem nam_ok {s : Str} (h : Nam s) : PyData.strOk s = true := by
  unfold PyData.strOk
  rw [Array.all_eq_true_iff_forall_mem]
  intro c hc
  have := h.2.2 c (by rw [Array.mem_toList_iff]; exact hc)
  exact decide_eq_true (by omega)
/-! ### a placement, as it stands in memory -/
/-- a tuple that is to be read (the second way: one that is known to have no attributes of its own) -/
def TpAt (H : Hp) (p : Addr) (xs : List V) : Prop := H p = some (.tup xs) ∨ ∃ o : Obj, o.dict = none ∧ H p = some (.frz o (.tup xs))
theorem TpAt.same {H H' : Hp} {p : Addr} {xs : List V} (x : TpAt H p xs) (e : Same H H') : TpAt H' p xs := x.elim (fun h => .inl (e _ _ h)) fun ⟨o, d, h⟩ => .inr ⟨o, d, e _ _ h⟩
theorem TpAt.sq {K : PySem.W.Frag} {H : Hp} {p : Addr} {xs : List V} (x : TpAt H p xs) : SqT K H p xs := x.elim (fun h => SqT.of h) fun ⟨o, _, h⟩ => .inl (.inr ⟨o, h⟩)
def PlAt (H : Hp) (p : Addr) (P : List (Str × Int)) : Prop := ∃ ps : List (Addr × Str × Int), TpAt H p (ps.map fun q => V.ref q.1) ∧ P = ps.map (·.2) ∧ ∀ q ∈ ps, H q.1 = some (.tup [.str q.2.1, .int q.2.2])
theorem PlAt.same {H H' : Hp} {p : Addr} {P : List (Str × Int)} (x : PlAt H p P) (e : Same H H') : PlAt H' p P := by
  obtain ⟨ps, h1, h2, h3⟩ := x
  exact ⟨ps, h1.same e, h2, fun q hq => e _ _ (h3 q hq)⟩
/-- the same, of a tuple of the second way -/
def PlD (H : Hp) (p : Addr) (P : List (Str × Int)) : Prop := ∃ (ps : List (Addr × Str × Int)) (o : Obj), o.dict = none ∧ H p = some (.frz o (.tup (ps.map fun q => V.ref q.1))) ∧ P = ps.map (·.2) ∧ ∀ q ∈ ps, H q.1 = some (.tup [.str q.2.1, .int q.2.2])
theorem PlD.pl {H : Hp} {p : Addr} {P : List (Str × Int)} (x : PlD H p P) : PlAt H p P := by
  obtain ⟨ps, o, d, h1, h2, h3⟩ := x
  exact ⟨ps, .inr ⟨o, d, h1⟩, h2, h3⟩
theorem PlD.same {H H' : Hp} {p : Addr} {P : List (Str × Int)} (x : PlD H p P) (e : Same H H') : PlD H' p P := by
  obtain ⟨ps, o, d, h1, h2, h3⟩ := x
  exact ⟨ps, o, d, e _ _ h1, h2, fun q hq => e _ _ (h3 q hq)⟩
/-- a placement of n rooms -/
structure Pl (n : Int) (P : List (Str × Int)) : Prop where
  nm : Names (P.map (·.1))
  rm : ∀ x ∈ P, 0 ≤ x.2 ∧ x.2 < n
theorem Pl.nodup {n : Int} {P : List (Str × Int)} (h : Pl n P) : (P.map (·.1)).Nodup := h.nm.nodup
/-! ### parameters -/
abbrev pDraw : List Str := ["_law_stream_here", "_law_many"]
abbrev pHP : List Str := ["house", "placement"]
abbrev pIsAsc : List Str := ["sequence"]
abbrev pIsInt : List Str := ["value"]
abbrev pIsRoom : List Str := ["house", "value"]
abbrev pLMoved : List Str := ["_law_placement_here", "_law_name", "_law_room"]
abbrev pLMoves : List Str := ["_law_house_here", "_law_placement_here"]
abbrev pLNb : List Str := ["_law_house_here", "_law_room"]
abbrev pMove : List Str := ["house", "placement", "name", "room"]
abbrev pLeav : List Str := ["placement", "target", "region"]
abbrev pSurp : List Str := ["placement", "region"]
abbrev pLHP : List Str := ["_law_house_here", "_law_placement_here"]
abbrev pFree : List Str := ["house", "placement", "target", "region"]
abbrev pLFree : List Str := ["_law_house_here", "_law_placement_here", "_law_target", "_law_piece"]
abbrev pWith : List Str := ["placement", "name", "room"]
abbrev pNamesOf : List Str := ["placement"]
abbrev pPIn : List Str := ["placement", "room"]
abbrev pPWi : List Str := ["placement", "rooms"]
abbrev pPl : List Str := ["_law_stream_here", "_law_house_here", "_law_most"]
abbrev pRegOf : List Str := ["house", "placement", "room"]
abbrev pRoomOf : List Str := ["placement", "name"]
abbrev pLWithin : List Str := ["_law_one", "_law_others"]
abbrev pLWalk : List Str := ["_law_stream_here", "_law_house_here", "_law_placement_here", "_law_many"]
abbrev pLTarget : List Str := ["_law_stream_here", "_law_house_here", "_law_placement_here"]
abbrev pHPT : List Str := ["house", "placement", "target"]
abbrev pLHPT : List Str := ["_law_house_here", "_law_placement_here", "_law_target"]
abbrev pConn : List Str := ["_law_house_here", "_law_rooms", "_law_room"]
abbrev pPTgt : List Str := ["house", "placement", "target", "name"]
abbrev pPassing : List Str := ["house", "placement", "target", "room"]
abbrev pLPassing : List Str := ["_law_house_here", "_law_placement_here", "_law_target", "_law_room", "_law_some"]
abbrev pSame : List Str := ["_law_found", "_law_expected"]
end Fw
namespace Fw
open PySem PySem.Spec PyProof.Rows L2
section
variable {P : Program} {w : World} {K : PySem.W.Frag} {mg : Str → Option Value} {base : Heap}
theorem cal_draw (D : DefE K mg "_law_draw" sDraw pDraw) (T : Nm mg) : Cal P w K mg base 1 "_law_draw" pDraw spDraw := D.cal fun _ _ d => ok_draw d.F T
theorem StreamAt.frz {s A B : Addr} {c : Nat} {H : Hp} (hS : StreamAt H s A B c) {t : Addr} {o : Obj} {u : HO} (h : H t = some (.frz o u)) : t ≠ s ∧ t ≠ A ∧ t ≠ B := by
  obtain ⟨big, cells, cnt, h1, h2, h3, _⟩ := hS.ex
  exact ⟨ne_of h h1 (by intro q; cases q), ne_of h h2 (by intro q; cases q), ne_of h h3 (by intro q; cases q)⟩
theorem Fr.frz {s A B : Addr} {c : Nat} {H H1 : Hp} (f : Fr s A H H1) (hS : StreamAt H s A B c) {t : Addr} {o : Obj} {u : HO} (h : H t = some (.frz o u)) : H1 t = some (.frz o u) := f t _ (hS.frz h).1 (hS.frz h).2.1 h
theorem TpAt.fr {s A B : Addr} {c : Nat} {H H' : Hp} {p : Addr} {xs : List V} (x : TpAt H p xs) (hS : StreamAt H s A B c) (e : Fr s A H H') : TpAt H' p xs := x.elim (fun h => .inl (e.tup hS h)) fun ⟨o, d, h⟩ => .inr ⟨o, d, e.frz hS h⟩
theorem PlAt.fr {s A B : Addr} {c : Nat} {H H' : Hp} {p : Addr} {P : List (Str × Int)} (x : PlAt H p P) (hS : StreamAt H s A B c) (e : Fr s A H H') : PlAt H' p P := by
  obtain ⟨ps, h1, h2, h3⟩ := x
  exact ⟨ps, h1.fr hS e, h2, fun q hq => e.tup hS (h3 q hq)⟩
theorem PlD.fr {s A B : Addr} {c : Nat} {H H' : Hp} {p : Addr} {P : List (Str × Int)} (x : PlD H p P) (hS : StreamAt H s A B c) (e : Fr s A H H') : PlD H' p P := by
  obtain ⟨ps, o, d, h1, h2, h3⟩ := x
  exact ⟨ps, o, d, e.frz hS h1, h2, fun q hq => e.tup hS (h3 q hq)⟩
def spNames : Sp := fun vs H Q _ => ∃ (s A B : Addr) (c : Nat) (m : Int), vs = [.ref s, .int m] ∧ StreamAt H s A B c ∧ c < 2 ^ 30 ∧ 0 ≤ m ∧ m ≤ 20 ∧
  ∀ H' l ns, StreamAt H' s A B (c + 10) → Fr s A H H' → H l = none → H' l = some (.lst (ns.map V.str)) → ns.length = m.toNat → Names ns → Q (.ref l) H'
/-- the same, with more known of each name -/
def spNamesR (R : Str → Prop) : Sp := fun vs H Q _ => ∃ (s A B : Addr) (c : Nat) (m : Int), vs = [.ref s, .int m] ∧ StreamAt H s A B c ∧ c < 2 ^ 30 ∧ 0 ≤ m ∧ m ≤ 20 ∧
  ∀ H' l ns, StreamAt H' s A B (c + 10) → Fr s A H H' → H l = none → H' l = some (.lst (ns.map V.str)) → ns.length = m.toNat → Names ns → (∀ x ∈ ns, R x) → Q (.ref l) H'
abbrev nNames : List Str := ["_law_stream_here", "_law_many", "_law_letters", "_law_first", "_law_head", "_law_k", "_law_tail"]
theorem scNames : FnScope nNames ["_law_stream_here", "_law_many"] (defScope sNames) := ⟨rfl, rfl, rfl, by decide +kernel, rfl, by decide +kernel, by decide +kernel⟩
theorem ok_names7 {f : Addr} {fd : FuncData} (F : Fun K "_law_names" "_law_names" sNames f fd) (T : Nm mg) (C_law_draw : Cal P w K mg base 1 "_law_draw" pDraw spDraw) : FnOk P w K mg base CX0 2 f fd ["_law_stream_here", "_law_many"] (spNamesR fun x => x.length ≤ 7) := by
  refine F.ok scNames (fun vs H Q E h => ?_) (fun cdv A outer s H vs Q E hr h => ?_)
  · obtain ⟨s, A, B, c, m, rfl, _⟩ := h
    rfl
  · obtain ⟨s, A, B, c, m, rfl, hS, hc, hm0, hm1, q⟩ := h
    refine ⟨_, (pss_cons (ps_set (i := 2) scNames.nd rfl (.inr rfl) pe_str)
      (pss_cons (ps_set (i := 3) scNames.nd rfl (.inr rfl) (pe_cal C_law_draw (hr.mono (by decide)) (by rfl) (pa_cons (pv 0) (pa_cons pe_int pa_nil))))
      (pss_cons (ps_set (i := 4) scNames.nd rfl (.inr rfl) (pe_join pe_str (pe_lc (own := [("_law_k", 5)]) (g := gName 5) (by rfl) scNames.nd (pi_range1 (by rfl) T.range (pa_cons (pe_cal C_law_draw (hr.mono (by decide)) (by rfl) (pa_cons (pv 0) (pa_cons pe_int pa_nil))) pa_nil))
 (blkOk_by (own := [("_law_k", 5)]) (N := nNames) (sc := defScope sNames) (by decide +kernel))
 (fun _ _ _ _ _ => (pg_name (i := 5) scNames.nd rfl (.inl rfl))) (fun _ _ _ _ _ => pts_nil) (fun _ _ _ _ _ => (pe_ix ix_str (pv 2) (pe_cal C_law_draw (hr.mono (by decide)) (by rfl) (pa_cons (pv 0) (pa_cons pe_int pa_nil))) (fun _ _ => rfl))))))
      (pss_cons (ps_set (i := 6) scNames.nd rfl (.inr rfl) (pe_join pe_str (pe_lc (own := [("_law_k", 5)]) (g := gName 5) (by rfl) scNames.nd (pi_range1 (by rfl) T.range (pa_cons (pe_cal C_law_draw (hr.mono (by decide)) (by rfl) (pa_cons (pv 0) (pa_cons pe_int pa_nil))) pa_nil))
 (blkOk_by (own := [("_law_k", 5)]) (N := nNames) (sc := defScope sNames) (by decide +kernel))
 (fun _ _ _ _ _ => (pg_name (i := 5) scNames.nd rfl (.inl rfl))) (fun _ _ _ _ _ => pts_nil) (fun _ _ _ _ _ => (pe_ix ix_str (pv 2) (pe_cal C_law_draw (hr.mono (by decide)) (by rfl) (pa_cons (pv 0) (pa_cons pe_int pa_nil))) (fun _ _ => rfl))))))
      (pss_one (ps_ret (pe_callB cr_sortedS (by rfl) T.sorted (by decide +kernel) (pa_cons (pe_lc (own := [("_law_k", 5)]) (g := gName 5) (by rfl) scNames.nd (pi_range1 (by rfl) T.range (pa_cons (pv 1) pa_nil))
 (blkOk_by (own := [("_law_k", 5)]) (N := nNames) (sc := defScope sNames) (by decide +kernel))
 (fun _ _ _ _ _ => (pg_name (i := 5) scNames.nd rfl (.inl rfl))) (fun _ _ _ _ _ => pts_nil) (fun _ _ _ _ _ => (pe_op op_add_str (pe_op op_add_str (pv 4) (pe_ix ix_str (pv 2) (pe_op op_modN (pe_op op_add (pv 3) (pe_op op_mul pe_int (pv 5))) pe_int) (fun _ _ => rfl))) (pv 6)))) pa_nil)))))))), ?_⟩
    refine ⟨_, rfl, s, A, B, c, _, rfl, hS, by omega, by decide, by decide, fun H1 r hS1 fr1 r0 r1 => ?_⟩
    refine ⟨⟨_, rfl⟩, _, rfl, s, A, B, c + 1, _, rfl, hS1, by omega, by decide, by decide, fun H2 r2 hS2 fr2 r20 r21 => ?_⟩
    have abc : (Str.ofString "abcdefghijklmnopqrstuvwxyz").cps.toList = (List.range 26).map (97 + ·) := by decide +kernel
    have nil : (Str.ofString "").cps.toList = [] := by decide +kernel
    refine ⟨r2, rfl, by omega, by omega, fun L hL => lc_range (lo := 0) (n := r2.toNat) (fun i H' => ∃ ys : List Str, StreamAt H' s A B (c + 1 + 1 + i) ∧ Fr s A H2 H' ∧ H' L = some (.lst (ys.map V.str)) ∧ ys.length = i ∧ ∀ y ∈ ys, Low 1 y)
      ⟨[], hS2.same (same_upd hL), Fr.of (same_upd hL), upd_same, rfl, fun y hy => absurd hy List.not_mem_nil⟩ ?_ ?_⟩
    · rintro i H' hi ⟨ys, hS', fr', e', l', p'⟩
      refine ⟨rfl, ?_⟩
      unfold tYes
      refine iteT ⟨_, rfl, _, rfl, s, A, B, c + 1 + 1 + i, _, rfl, hS', by omega, by decide, by decide, fun H'' x hS'' fr'' x0 x1 => ?_⟩
      have z := hS2.ne hL
      refine ⟨_, x, _, rfl, rfl, by decide +kernel, abc_at abc x0 x1, _, fr'' _ _ z.1.symm z.2.1.symm e', ?_, ys ++ [let1 x], hS''.put z, (fr'.trans fr'').put hL, ?_, ?_, ?_⟩
      · rw [List.length_map]
        exact small1000 (by omega)
      · rw [upd_same, vs_app]
        rfl
      · rw [List.length_append, l']
        rfl
      · intro y hy
        rcases List.mem_append.mp hy with hy | hy
        · exact p' y hy
        · rw [List.mem_singleton.mp hy]
          exact let1_low x0 x1
    rintro H3 ⟨ys, hS3, fr3, e3, l3, p3⟩
    refine ⟨_, L, ys, rfl, rfl, .inl (SqL.of e3), join_fits nil p3 (by omega), ?_⟩
    have hd : Low 3 (Txt.join (Str.ofString "") ys) := (join_low nil p3).mono (by omega)
    generalize Txt.join (Str.ofString "") ys = hd' at *
    have hS3 := hS3.mono (show _ ≤ c + 5 by omega)
    have fr3 : Fr s A H H3 := (fr1.trans fr2).trans fr3
    clear e3 l3 p3 hL fr2 hS2
    refine ⟨⟨_, rfl⟩, _, rfl, s, A, B, c + 5, _, rfl, hS3, by omega, by decide, by decide, fun H4 r4 hS4 fr4 r40 r41 => ?_⟩
    refine ⟨r4, rfl, by omega, by omega, fun M hM => lc_range (lo := 0) (n := r4.toNat) (fun i H' => ∃ ys : List Str, StreamAt H' s A B (c + 5 + 1 + i) ∧ Fr s A H4 H' ∧ H' M = some (.lst (ys.map V.str)) ∧ ys.length = i ∧ ∀ y ∈ ys, Low 1 y)
      ⟨[], hS4.same (same_upd hM), Fr.of (same_upd hM), upd_same, rfl, fun y hy => absurd hy List.not_mem_nil⟩ ?_ ?_⟩
    · rintro i H' hi ⟨ys, hS', fr', e', l', p'⟩
      refine ⟨rfl, ?_⟩
      unfold tYes
      refine iteT ⟨_, rfl, _, rfl, s, A, B, c + 5 + 1 + i, _, rfl, hS', by omega, by decide, by decide, fun H'' x hS'' fr'' x0 x1 => ?_⟩
      have z := hS4.ne hM
      refine ⟨_, x, _, rfl, rfl, by decide +kernel, abc_at abc x0 x1, _, fr'' _ _ z.1.symm z.2.1.symm e', ?_, ys ++ [let1 x], hS''.put z, (fr'.trans fr'').put hM, ?_, ?_, ?_⟩
      · rw [List.length_map]
        exact small1000 (by omega)
      · rw [upd_same, vs_app]
        rfl
      · rw [List.length_append, l']
        rfl
      · intro y hy
        rcases List.mem_append.mp hy with hy | hy
        · exact p' y hy
        · rw [List.mem_singleton.mp hy]
          exact let1_low x0 x1
    rintro H5 ⟨zs, hS5, fr5, e5, l5, p5⟩
    refine ⟨_, M, zs, rfl, rfl, .inl (SqL.of e5), join_fits nil p5 (by omega), ?_⟩
    have td : Low 3 (Txt.join (Str.ofString "") zs) := (join_low nil p5).mono (by omega)
    generalize Txt.join (Str.ofString "") zs = tl' at *
    have hS5 := hS5.mono (show _ ≤ c + 10 by omega)
    have fr5 : Fr s A H H5 := (fr3.trans fr4).trans fr5
    clear e5 l5 p5 hM fr4 hS4 hS3 fr3 fr1 hS1
    refine ⟨_, rfl, m, rfl, by omega, by omega, fun N hN => lc_range (lo := 0) (n := m.toNat) (fun i H' => Same H5 H' ∧ H' N = some (.lst (((List.range i).map (nmk hd' tl' r)).map V.str)))
      ⟨same_upd hN, upd_same⟩ ?_ ?_⟩
    · rintro i H' hi ⟨sm, e'⟩
      refine ⟨rfl, ?_⟩
      unfold tYes
      have g := fm26 (r + 7 * (0 + (i : Int)))
      refine iteT ⟨_, rfl, _, rfl, _, rfl, _, rfl, _, _, rfl, rfl, .inl ⟨by decide, by decide⟩, _, _, rfl, rfl, _, _, rfl, rfl, (by show (26 : Int) ≠ 0; decide), _, _, _, rfl, rfl, by decide +kernel, abc_at abc g.1 g.2, _, _, rfl, rfl, ?_, _, rfl, _, _, rfl, rfl, ?_, _, e', ?_, same_put sm hN, ?_⟩
      · show hd'.length + 1 ≤ sizeLine
        have := hd.1
        exact Nat.le_of_lt (small1000 (by omega))
      · rw [app_len]
        show hd'.length + 1 + tl'.length ≤ sizeLine
        have := hd.1
        have := td.1
        exact Nat.le_of_lt (small1000 (by omega))
      · rw [List.length_map, List.length_map, List.length_range]
        exact small1000 (by omega)
      · rw [upd_same, List.range_succ, List.map_append, vs_app]
        rfl
    rintro H6 ⟨sm6, e6⟩
    refine ⟨N, _, rfl, SqL.of e6, ?_, fun zs p hp hs hpn => ?_⟩
    · rw [List.length_map, List.length_range]
      omega
    have fr7 : Fr s A H (upd H6 p (.lst (zs.map V.str))) := fr5.trans (Fr.of (sm6.trans (same_upd hpn)))
    refine q _ p zs (hS5.same (sm6.trans (same_upd hpn))) fr7 (fr5.free hS5 (sm6.free hpn)) upd_same ?_ (sorted_names hp hs (nmk_nodup (by omega)) ?_) (fun x hx => ?_)
    · rw [hp.length_eq, List.length_map, List.length_range]
    · intro x hx
      obtain ⟨k, _, rfl⟩ := List.mem_map.mp hx
      exact nmk_nam hd td
    · obtain ⟨k, _, rfl⟩ := List.mem_map.mp (hp.mem_iff.mp hx)
      exact nmk_len hd td
theorem names_all {R : Str → Prop} {x : Str} {ps : List Str} {k : Nat} (C : Cal P w K mg base k x ps spNames) (h : ∀ z, R z) : Cal P w K mg base k x ps (spNamesR R) :=
  C.imp fun vs H Q E ⟨s, A, B, c, m, e, hS, hc, m0, m1, q⟩ => ⟨s, A, B, c, m, e, hS, hc, m0, m1, fun H' l ns a b c d e f => q H' l ns a b c d e f fun _ _ => h _⟩
theorem ok_names {f : Addr} {fd : FuncData} (F : Fun K "_law_names" "_law_names" sNames f fd) (T : Nm mg) (C_law_draw : Cal P w K mg base 1 "_law_draw" pDraw spDraw) : FnOk P w K mg base CX0 2 f fd ["_law_stream_here", "_law_many"] spNames :=
  (ok_names7 F T C_law_draw).imp fun vs H Q E ⟨s, A, B, c, m, e, hS, hc, m0, m1, q⟩ => ⟨s, A, B, c, m, e, hS, hc, m0, m1, fun H' l ns a b c d e f _ => q H' l ns a b c d e f⟩
end
end Fw
namespace Fw
open PySem PySem.Spec PyProof.Rows L2
theorem cut_vi (ns : List Int) (lo hi : Option Int) : ∃ ms : List Int, cutV (vi ns) lo hi = vi ms ∧ (∀ x ∈ ms, x ∈ ns) := by
  refine ⟨(ns.drop (HT.sIx (vi ns).length 0 lo)).take (HT.sIx (vi ns).length (vi ns).length hi - HT.sIx (vi ns).length 0 lo), ?_, fun x hx => List.mem_of_mem_drop (List.mem_of_mem_take hx)⟩
  unfold cutV vi
  rw [List.map_take, List.map_drop]
theorem cut_le (xs : List V) {m : Int} (h : 0 ≤ m) : (cutV xs none (some m)).length ≤ m.toNat := by
  unfold cutV
  rw [List.length_take]
  refine Nat.le_trans (Nat.min_le_left _ _) ?_
  show (if m < 0 then _ else min m.toNat xs.length) - 0 ≤ m.toNat
  rw [if_neg (by omega)]
  omega
theorem atI_in {xs : List Int} {r : Int} (h0 : 0 ≤ r) (h1 : r < (xs.length : Nat)) : ∃ x, x ∈ xs ∧ atI (vi xs) r = some (V.int x) := by
  have hj : r.toNat < xs.length := by omega
  refine ⟨xs[r.toNat], List.getElem_mem hj, ?_⟩
  have := atI_nat (xs := vi xs) (j := r.toNat) (v := V.int xs[r.toNat]) (by rw [List.getElem?_map, List.getElem?_eq_getElem hj]; rfl)
  rw [show ((r.toNat : Nat) : Int) = r by omega] at this
  exact this
theorem seq_by {a b : TS} {D : Ends} {σ : L2.St} {H : Hp} (M : L2.St → Hp → Prop) (h1 : ∀ N : L2.St → Hp → Prop, (∀ σ' H', M σ' H' → N σ' H') → a { D with nx := N } σ H) (h2 : ∀ σ' H', M σ' H' → b D σ' H') : tSeq a b D σ H := h1 _ h2
section
variable {P : Program} {w : World} {K : PySem.W.Frag} {mg : Str → Option Value} {base : Heap}
theorem HouseAt.room0 {H : Hp} {h : Addr} {n : Int} {D : List (Int × Int)} (x : HouseAt H h n D) : ∃ q, H h = some (.tup [.int n, .ref q]) := by
  obtain ⟨q, ps, h1, _⟩ := x
  exact ⟨q, h1⟩
def spPl : Sp := fun vs H Q _ => ∃ (s A B h : Addr) (c : Nat) (n : Int) (D : List (Int × Int)) (m : Int), vs = [.ref s, .ref h, .int m] ∧ StreamAt H s A B c ∧ c < 2 ^ 29 ∧ HouseAt H h n D ∧ 1 ≤ n ∧ n ≤ 8 ∧ 0 ≤ m ∧ m ≤ 12 ∧
  ∀ H' p P, StreamAt H' s A B (c + 60) → Fr s A H H' → PlD H' p P → Pl n P → P.length ≤ m.toNat → Q (.ref p) H'
/-- the same, with more known of each name -/
def spPlR (R : Str → Prop) : Sp := fun vs H Q _ => ∃ (s A B h : Addr) (c : Nat) (n : Int) (D : List (Int × Int)) (m : Int), vs = [.ref s, .ref h, .int m] ∧ StreamAt H s A B c ∧ c < 2 ^ 29 ∧ HouseAt H h n D ∧ 1 ≤ n ∧ n ≤ 8 ∧ 0 ≤ m ∧ m ≤ 12 ∧
  ∀ H' p P, StreamAt H' s A B (c + 60) → Fr s A H H' → PlD H' p P → Pl n P → P.length ≤ m.toNat → (∀ x ∈ P, R x.1) → Q (.ref p) H'
abbrev nPl : List Str := ["_law_stream_here", "_law_house_here", "_law_most", "_law_share", "_law_held", "_law_room", "_law_spots", "_law_k", "_law_found", "_law_name"]
theorem scPl : FnScope nPl ["_law_stream_here", "_law_house_here", "_law_most"] (defScope sPl) := ⟨rfl, rfl, rfl, by decide +kernel, rfl, by decide +kernel, by decide +kernel⟩
theorem ok_plR {R : Str → Prop} {f : Addr} {fd : FuncData} (F : Fun K "_law_placement" "_law_placement" sPl f fd) (T : Nm mg) (C_law_draw : Cal P w K mg base 1 "_law_draw" pDraw spDraw) (C_law_names : Cal P w K mg base 2 "_law_names" pDraw (spNamesR R)) : FnOk P w K mg base CX0 3 f fd pPl (spPlR R) := by
  refine F.ok scPl (fun vs H Q E h => ?_) (fun cdv A outer s H vs Q E hr h => ?_)
  · obtain ⟨s, A, B, h, c, n, D, m, rfl, _⟩ := h
    rfl
  · obtain ⟨s, A, B, h, c, n, D, m, rfl, hS, hc, hH, n0, n1, m0, m1, q⟩ := h
    refine ⟨_, (pss_cons (ps_set (i := 3) scPl.nd rfl (.inr rfl) (pe_cal C_law_draw (hr.mono (by decide)) (by rfl) (pa_cons (pv 0) (pa_cons pe_int pa_nil))))
      (pss_cons (ps_set (i := 4) scPl.nd rfl (.inl rfl) (pe_slice sl_list (pe_lc (own := [("_law_room", 5)]) (g := gName 5) (by rfl) scPl.nd (pi_range1 (by rfl) T.range (pa_cons (pe_ix ix_tup (pv 1) pe_int (fun _ _ => rfl)) pa_nil))
 (blkOk_by (own := [("_law_room", 5)]) (N := nPl) (sc := defScope sPl) (by decide +kernel))
 (fun _ _ _ _ _ => (pg_name (i := 5) scPl.nd rfl (.inl rfl))) (fun _ _ _ _ _ => pts_one (PW.pt (pw_or (pt_cmpR op_eq (pv 3) pe_int (nomark _)) (pw_or1 (pt_cmpR op_gt (pe_cal C_law_draw (hr.mono (by decide)) (by rfl) (pa_cons (pv 0) (pa_cons pe_int pa_nil))) pe_int (nomark _)))))) (fun _ _ _ _ _ => (pv 5))) po_none (po_some (pv 2))))
      (pss_cons (ps_set (i := 6) scPl.nd rfl (.inl rfl) (pe_callTy call_list_of (by rfl) T.list (by decide +kernel) (pa_cons (pv 4) pa_nil)))
      (pss_cons (ps_if (PW.pt (pw_and (pt_cmpR (op_neD hr.units) (pv 4) (pe_lst pa_nil) (nomark _)) (pw_and1 (pt_cmpR op_eq (pe_cal C_law_draw (hr.mono (by decide)) (by rfl) (pa_cons (pv 0) (pa_cons pe_int pa_nil))) pe_int (nomark _)))))
      (pss_one (ps_for PassesOwn.never rfl (pi_range1 (by rfl) T.range (pa_cons (pe_cal C_law_draw (hr.mono (by decide)) (by rfl) (pa_cons (pv 0) (pa_cons (pe_op op_add (pe_op op_sub (pv 2) (pe_callB call_len_seq (by rfl) T.len (by decide +kernel) (pa_cons (pv 4) pa_nil))) pe_int) pa_nil))) pa_nil)) (pg_name (i := 7) scPl.nd rfl (.inl rfl))
       (pss_one (ps_expr (pe_bm PySem.F.plainAttrs_list PySem.F.slot_list_append PySem.F.type_list_append mt_append (pv 6) (pa_cons (pe_ix ix_list (pv 4) (pe_cal C_law_draw (hr.mono (by decide)) (by rfl) (pa_cons (pv 0) (pa_cons (pe_callB call_len_seq (by rfl) T.len (by decide +kernel) (pa_cons (pv 4) pa_nil)) pa_nil))) (fun _ _ => rfl)) pa_nil))))))
      pss_nil)
      (pss_cons (ps_set (i := 8) scPl.nd rfl (.inl rfl) (pe_lst pa_nil))
      (pss_cons (ps_for PassesOwn.never rfl (pi_list (pe_cal C_law_names (hr.mono (by decide)) (by rfl) (pa_cons (pv 0) (pa_cons (pe_callB call_len_seq (by rfl) T.len (by decide +kernel) (pa_cons (pv 6) pa_nil)) pa_nil)))) (pg_name (i := 9) scPl.nd rfl (.inl rfl))
      (pss_one (ps_expr (pe_bm PySem.F.plainAttrs_list PySem.F.slot_list_append PySem.F.type_list_append mt_append (pv 8) (pa_cons (pe_tup (pa_cons (pv 9) (pa_cons (pe_bm PySem.F.plainAttrs_list PySem.F.slot_list_pop PySem.F.type_list_pop mt_popAt (pv 6) (pa_cons (pe_cal C_law_draw (hr.mono (by decide)) (by rfl) (pa_cons (pv 0) (pa_cons (pe_callB call_len_seq (by rfl) T.len (by decide +kernel) (pa_cons (pv 6) pa_nil)) pa_nil))) pa_nil)) pa_nil))) pa_nil)))))
      (pss_one (ps_ret (pe_callTy (call_tupleF K rfl) (by rfl) T.tuple (by decide +kernel) (pa_cons (pv 8) pa_nil)))))))))), ?_⟩
    refine ⟨_, rfl, s, A, B, c, _, rfl, hS, by omega, by decide, by decide, fun H1 sh hS1 fr1 _ _ => ?_⟩
    have hH1 := hH.fr hS fr1
    obtain ⟨qd, eh1⟩ := hH1.room0
    -- held
    refine ⟨_, rfl, h, _, _, _, rfl, rfl, SqT.of eh1, atI0, n, rfl, by omega, by omega, fun L hL => lc_range (lo := 0) (n := n.toNat) (fun i H' => ∃ ys : List Int, StreamAt H' s A B (c + 1 + i) ∧ Fr s A H1 H' ∧ H' L = some (.lst (vi ys)) ∧ ys.length ≤ i ∧ ∀ y ∈ ys, 0 ≤ y ∧ y < n)
      ⟨[], hS1.same (same_upd hL), Fr.of (same_upd hL), upd_same, Nat.le_refl _, fun y hy => absurd hy List.not_mem_nil⟩ ?_ ?_⟩
    · rintro i H' hi ⟨ys, hS', fr', e', l', p'⟩
      have z := hS1.ne hL
      refine ⟨rfl, tt_by (fun b H3 => StreamAt H3 s A B (c + 1 + (i + 1)) ∧ Fr s A H' H3) ?_ ?_⟩
      · intro Q' hQ'
        refine ⟨_, rfl, rfl, _, rfl, ?_⟩
        refine ite2 (fun _ => ?_) (fun _ => ?_)
        · exact hQ' _ _ ⟨hS'.mono (by omega), Fr.refl⟩
        · refine ⟨_, rfl, s, A, B, c + 1 + i, _, rfl, hS', by omega, by decide, by decide, fun H'' x hS'' fr'' x0 x1 => ⟨_, _, rfl, rfl, _, rfl, ?_⟩⟩
          exact hQ' _ _ ⟨hS'', fr''⟩
      · rintro b H3 ⟨hS3, fr3⟩
        have e3 := fr3 _ _ z.1.symm z.2.1.symm e'
        refine ite2 (fun _ => ?_) (fun _ => ?_)
        · refine ⟨_, rfl, _, e3, ?_, ys ++ [0 + (i : Int)], hS3.put z, (fr'.trans fr3).put hL, ?_, ?_, ?_⟩
          · rw [List.length_map]
            exact small1000 (by omega)
          · rw [upd_same, vi_app]
            rfl
          · rw [List.length_append, List.length_singleton]
            omega
          · intro y hy
            rcases List.mem_append.mp hy with hy | hy
            · exact p' y hy
            · rw [List.mem_singleton.mp hy]
              omega
        · exact ⟨ys, hS3, fr'.trans fr3, e3, by omega, p'⟩
    rintro H2 ⟨ys, hS2, fr2, e2, l2, p2⟩
    have hS2 := hS2.mono (show _ ≤ c + 9 by omega)
    refine ⟨_, rfl, m, rfl, L, _, rfl, SqL.of e2, fun M hM => ?_⟩
    have zM := hS2.ne hM
    obtain ⟨held, eh, ph⟩ := cut_vi ys none (some m)
    have lh : held.length ≤ m.toNat := by
      have := cut_le (vi ys) m0
      rw [eh, List.length_map] at this
      exact this
    have ph : ∀ y ∈ held, 0 ≤ y ∧ y < n := fun y hy => p2 y (ph y hy)
    rw [show cutV (vi ys) none (some m) = vi held from eh]
    clear eh
    have hS3 := hS2.same (same_upd (o := .lst (vi held)) hM)
    have fr3 : Fr s A H (upd H2 M (.lst (vi held))) := (fr1.trans fr2).trans (Fr.of (same_upd hM))
    have e3 : (upd H2 M (.lst (vi held))) M = some (.lst (vi held)) := upd_same
    generalize upd H2 M (.lst (vi held)) = H3 at *
    clear e2 p2 l2 fr2 hS2
    -- spots
    refine ⟨_, rfl, M, _, rfl, .inl (SqL.of e3), fun S hS' => ?_⟩
    have fS := fr3.free hS3 hS'
    have zS := hS3.ne hS'
    have nMS : M ≠ S := ne_of_none e3 hS'
    have hS4 := hS3.same (same_upd (o := .lst (vi held)) hS')
    have fr4 : Fr s A H (upd H3 S (.lst (vi held))) := fr3.trans (Fr.of (same_upd hS'))
    have e4 : (upd H3 S (.lst (vi held))) M = some (.lst (vi held)) := same_upd hS' _ _ e3
    have es4 : (upd H3 S (.lst (vi held))) S = some (.lst (vi held)) := upd_same
    generalize upd H3 S (.lst (vi held)) = H4 at *
    clear hS' hS3 fr3 e3
    dsimp only [gName]
    refine seq_by (fun σ' H' => ∃ (y5 y7 : Option V) (c' : Nat) (spots : List Int), σ' = [some (.ref s), some (.ref h), some (.int m), some (.int sh), some (.ref M), y5, some (.ref S), y7, none, none] ∧ StreamAt H' s A B c' ∧ c' ≤ c + 30 ∧ Fr s A H H' ∧ H' S = some (.lst (vi spots)) ∧ spots.length ≤ m.toNat ∧ ∀ y ∈ spots, 0 ≤ y ∧ y < n) ?_ ?_
    · intro N hN
      refine if_by (fun b H' => ∃ c', StreamAt H' s A B c' ∧ c' ≤ c + 10 ∧ Fr s A H H' ∧ H' S = some (.lst (vi held)) ∧ H' M = some (.lst (vi held)) ∧ (b = true → held ≠ [])) ?_ ?_ ?_
      · rintro H5 ⟨c5, hS5, hc5, fr5, es5, e5, ne⟩
        have ne := ne rfl
        have l0 : 0 < held.length := List.length_pos_iff.mpr ne
        refine ⟨_, rfl, _, rfl, _, rfl, M, _, rfl, .inl (SqL.of e5), _, _, rfl, rfl, _, _, rfl, rfl, s, A, B, c5, _, rfl, hS5, by omega, ?_, ?_, fun H6 x hS6 fr6 x0 x1 => ?_⟩
        · rw [List.length_map]; omega
        · rw [List.length_map]; omega
        rw [List.length_map] at x1
        refine ⟨x, rfl, by omega, by omega, for_range (lo := 0) (n := x.toNat) (fun i σ' H' => ∃ (y7 : Option V) (c' : Nat) (spots : List Int), σ' = [some (.ref s), some (.ref h), some (.int m), some (.int sh), some (.ref M), none, some (.ref S), y7, none, none] ∧ StreamAt H' s A B c' ∧ c' ≤ c5 + 1 + i ∧ Fr s A H H' ∧ H' S = some (.lst (vi spots)) ∧ H' M = some (.lst (vi held)) ∧ spots.length = held.length + i ∧ ∀ y ∈ spots, 0 ≤ y ∧ y < n)
          ⟨_, c5 + 1, held, rfl, hS6, by omega, fr5.trans fr6, fr6 _ _ zS.1.symm zS.2.1.symm es5, fr6 _ _ zM.1.symm zM.2.1.symm e5, rfl, ph⟩ ?_ ?_⟩
        · rintro i σ' H7 hi ⟨y7, c7, spots, rfl, hS7, hc7, fr7, es7, e7, l7, p7⟩
          refine ⟨_, rfl, .inl ⟨rfl, _, SqL.of es7⟩, _, rfl, _, rfl, _, rfl, M, _, rfl, .inl (SqL.of e7), s, A, B, c7, _, rfl, hS7, by omega, ?_, ?_, fun H8 y hS8 fr8 y0 y1 => ?_⟩
          · rw [List.length_map]; omega
          · rw [List.length_map]; omega
          rw [List.length_map] at y1
          obtain ⟨v, hv, ev⟩ := atI_in y0 y1
          have es8 := fr8 _ _ zS.1.symm zS.2.1.symm es7
          refine ⟨M, _, _, _, rfl, rfl, SqL.of (fr8 _ _ zM.1.symm zM.2.1.symm e7), ev, S, _, _, rfl, rfl, es8, ?_, _, c7 + 1, spots ++ [v], rfl, hS8.put zS, by omega, (fr7.trans fr8).put fS, ?_, ?_, ?_, ?_⟩
          · rw [List.length_map]
            exact small1000 (by omega)
          · rw [upd_same, vi_app]
            rfl
          · rw [upd_ne nMS]
            exact fr8 _ _ zM.1.symm zM.2.1.symm e7
          · rw [List.length_append, List.length_singleton]
            omega
          · intro z hz
            rcases List.mem_append.mp hz with hz | hz
            · exact p7 z hz
            · rw [List.mem_singleton.mp hz]
              exact ph v hv
        · rintro σ' H7 ⟨y7, c7, spots, rfl, hS7, hc7, fr7, es7, e7, l7, p7⟩
          exact hN _ _ ⟨_, _, c7, spots, rfl, hS7, by omega, fr7, es7, by omega, p7⟩
      · rintro H5 ⟨c5, hS5, hc5, fr5, es5, e5, ne⟩
        exact hN _ _ ⟨_, _, c5, held, rfl, hS5, by omega, fr5, es5, lh, ph⟩
      · intro Q' hQ'
        refine ⟨_, rfl, Nat.zero_le _, fun e he => ?_⟩
        have sm : Same H4 (upd H4 e (.lst [])) := same_upd he
        have hS5 := hS4.same sm
        have fr5 := fr4.trans (Fr.of sm)
        have e5 := sm _ _ e4
        have es5 := sm _ _ es4
        refine ⟨.list (held.map .int), .list [], .lst (SqL.of e5) (dp_ints held), .lst (SqL.of upd_same) .nil, shaped_list held, shaped_list [], _, rfl, ?_⟩
        rw [eqv_nil]
        generalize upd H4 e (.lst []) = H5 at *
        cases held with
        | nil => exact iteF (hQ' _ _ ⟨c + 9, hS5, by omega, fr5, es5, e5, fun h => nomatch h⟩)
        | cons x0 hr0 =>
          refine iteT ⟨_, rfl, s, A, B, c + 9, _, rfl, hS5, by omega, by decide, by decide, fun H6 x hS6 fr6 x0 x1 => ⟨rfl, _, rfl, ?_⟩⟩
          exact hQ' _ _ ⟨c + 9 + 1, hS6, by omega, fr5.trans fr6, fr6 _ _ zS.1.symm zS.2.1.symm es5, fr6 _ _ zM.1.symm zM.2.1.symm e5, fun _ => List.cons_ne_nil _ _⟩
    clear e4 es4 fr4 hS4
    rintro σ' H5 ⟨y5, y7, c5, spots, rfl, hS5, hc5, fr5, es5, l5, p5⟩
    refine ⟨Nat.zero_le _, fun R hR => ?_⟩
    have zR := hS5.ne hR
    have gR := fr5.free hS5 hR
    have nSR : S ≠ R := ne_of_none es5 hR
    have hS6 := hS5.same (same_upd (o := .lst []) hR)
    have fr6 := fr5.trans (Fr.of (same_upd (o := .lst []) hR))
    have es6 := same_upd (o := .lst []) hR _ _ es5
    have eR6 : (upd H5 R (.lst [])) R = some (.lst []) := upd_same
    generalize upd H5 R (.lst []) = H6 at *
    clear hS5 fr5 es5 hR
    refine ⟨_, rfl, _, rfl, S, _, rfl, .inl (SqL.of es6), s, A, B, c5, _, rfl, hS6, by omega, by omega, ?_, fun H7 NL ns hS7 fr7 hNL eN lN nN nR => ?_⟩
    · rw [List.length_map]; omega
    have zN := hS6.ne hNL
    have gN := fr6.free hS6 hNL
    have nSN : S ≠ NL := ne_of_none es6 hNL
    have nRN : R ≠ NL := ne_of_none eR6 hNL
    rw [List.length_map] at lN
    have lN : ns.length = spots.length := by omega
    refine ⟨NL, rfl, ⟨_, SqL.of eN⟩, for_list (K := K) (a := NL) (xs := ns.map V.str) (fun i σ' H' => ∃ (y9 : Option V) (sp : List Int) (ps : List (Addr × Str × Int)), σ' = [some (.ref s), some (.ref h), some (.int m), some (.int sh), some (.ref M), y5, some (.ref S), y7, some (.ref R), y9] ∧ StreamAt H' s A B (c5 + 10 + i) ∧ Fr s A H H' ∧ H' NL = some (.lst (ns.map V.str)) ∧ H' S = some (.lst (vi sp)) ∧ sp.length + i = ns.length ∧ (∀ y ∈ sp, 0 ≤ y ∧ y < n) ∧
        H' R = some (.lst (ps.map fun q => V.ref q.1)) ∧ (ps.map (·.2.1)) = ns.take i ∧ (∀ q ∈ ps, H' q.1 = some (.tup [.str q.2.1, .int q.2.2])) ∧ ∀ q ∈ ps, 0 ≤ q.2.2 ∧ q.2.2 < n)
      ⟨_, spots, [], rfl, hS7, fr6.trans fr7, eN, fr7 _ _ zS.1.symm zS.2.1.symm es6, by omega, p5, fr7 _ _ zR.1.symm zR.2.1.symm eR6, rfl, fun q hq => absurd hq List.not_mem_nil, fun q hq => absurd hq List.not_mem_nil⟩ ?_ ?_ ?_⟩
    · rintro i σ' H' _ ⟨y9, sp, ps, _, _, _, e', _⟩
      exact SqL.of e'
    · rintro i x σ' H8 hx ⟨y9, sp, ps, rfl, hS8, fr8, eN8, es8, l8, p8, eR8, en8, ep8, pr8⟩
      obtain ⟨nm, hnm, rfl⟩ := get_vs hx
      have hi : i < ns.length := (List.getElem?_eq_some_iff.mp hnm).1
      have hps : ps.length = i := by
        have := congrArg List.length en8
        rw [List.length_map, List.length_take] at this
        omega
      refine ⟨_, rfl, .inl ⟨rfl, _, SqL.of eR8⟩, _, rfl, _, rfl, .inl ⟨rfl, _, SqL.of es8⟩, _, rfl, _, rfl, S, _, rfl, .inl (SqL.of es8), s, A, B, c5 + 10 + i, _, rfl, hS8, by omega, ?_, ?_, fun H9 r hS9 fr9 r0 r1 => ?_⟩
      · rw [List.length_map]; omega
      · rw [List.length_map]; omega
      rw [List.length_map] at r1
      have hj : r.toNat < sp.length := by omega
      have ixr : ixN (vi sp).length r = some r.toNat := by
        unfold ixN
        rw [List.length_map, if_pos r0, if_pos r1]
      have gx : (vi sp)[r.toNat]? = some (V.int sp[r.toNat]) := by
        rw [List.getElem?_map, List.getElem?_eq_getElem hj]
        rfl
      have es9 := fr9 _ _ zS.1.symm zS.2.1.symm es8
      refine ⟨S, _, r, r.toNat, _, rfl, rfl, es9, by omega, by omega, (ixN_seq ixr).1, gx, by show 2 ≤ sizeLine; decide, fun t ht => ?_⟩
      have zt := (hS9.put (o := .lst ((vi sp).eraseIdx r.toNat)) zS).ne ht
      have hS10 := (hS9.put (o := .lst ((vi sp).eraseIdx r.toNat)) zS)
      have fr10 := (fr8.trans fr9).put (o := .lst ((vi sp).eraseIdx r.toNat)) fS
      have eR10 : (upd H9 S (.lst ((vi sp).eraseIdx r.toNat))) R = _ := (upd_ne nSR.symm).trans (fr9 _ _ zR.1.symm zR.2.1.symm eR8)
      have eN10 : (upd H9 S (.lst ((vi sp).eraseIdx r.toNat))) NL = _ := (upd_ne nSN.symm).trans (fr9 _ _ zN.1.symm zN.2.1.symm eN8)
      have es10 : (upd H9 S (.lst ((vi sp).eraseIdx r.toNat))) S = some (.lst (vi (sp.eraseIdx r.toNat))) := by rw [upd_same, vi_erase]
      have ep10 : ∀ q ∈ ps, (upd H9 S (.lst ((vi sp).eraseIdx r.toNat))) q.1 = some (.tup [.str q.2.1, .int q.2.2]) := fun q hq => by
        have := fr9.tup hS8 (ep8 q hq)
        rw [upd_ne (ne_of this es9 (by intro z; cases z))]
        exact this
      generalize upd H9 S (.lst ((vi sp).eraseIdx r.toNat)) = H10 at *
      have sm := same_upd (o := .tup [.str nm, .int sp[r.toNat]]) ht
      have eR11 := sm _ _ eR10
      have et : (upd H10 t (.tup [.str nm, .int sp[r.toNat]])) t = some (.tup [.str nm, .int sp[r.toNat]]) := upd_same
      have ep11 : ∀ q ∈ ps, (upd H10 t (.tup [.str nm, .int sp[r.toNat]])) q.1 = some (.tup [.str q.2.1, .int q.2.2]) := fun q hq => sm _ _ (ep10 q hq)
      have hS11 := hS10.same sm
      have fr11 := fr10.trans (Fr.of sm)
      have es11 := sm _ _ es10
      have eN11 := sm _ _ eN10
      generalize upd H10 t (.tup [.str nm, .int sp[r.toNat]]) = H11 at *
      refine ⟨R, _, _, rfl, rfl, eR11, ?_, _, sp.eraseIdx r.toNat, ps ++ [(t, nm, sp[r.toNat])], rfl, (hS11.put zR), fr11.put gR, ?_, ?_, ?_, ?_, ?_, ?_, ?_, ?_⟩
      · rw [List.length_map]
        exact small1000 (by omega)
      · rw [upd_ne nRN.symm]
        exact eN11
      · rw [upd_ne nSR]
        exact es11
      · rw [List.length_eraseIdx, if_pos hj]
        omega
      · intro y hy
        exact p8 y (List.mem_of_mem_eraseIdx hy)
      · rw [upd_same, List.map_append]
        rfl
      · rw [List.map_append, List.take_add_one, hnm, en8]
        rfl
      · intro q hq
        rcases List.mem_append.mp hq with hq | hq
        · rw [upd_ne (ne_of (ep11 q hq) eR11 (by intro z; cases z))]
          exact ep11 q hq
        · rw [List.mem_singleton.mp hq]
          rw [upd_ne (ne_of et eR11 (by intro z; cases z))]
          exact et
      · intro q hq
        rcases List.mem_append.mp hq with hq | hq
        · exact pr8 q hq
        · rw [List.mem_singleton.mp hq]
          exact p8 _ (List.getElem_mem hj)
    · rintro σ' H8 ⟨y9, sp, ps, rfl, hS8, fr8, eN8, es8, l8, p8, eR8, en8, ep8, pr8⟩
      rw [List.length_map, List.take_length] at en8
      rw [List.length_map] at hS8 l8
      refine ⟨_, rfl, R, _, rfl, SqL.of eR8, fun t ob ht od => ?_⟩
      have sm := same_upd (o := .frz ob (.tup (ps.map fun q => V.ref q.1))) ht
      refine q _ t (ps.map (·.2)) ((hS8.same sm).mono (by omega)) (fr8.trans (Fr.of sm)) ⟨ps, ob, od, upd_same, rfl, fun q hq => sm _ _ (ep8 q hq)⟩ ⟨?_, ?_⟩ ?_ (fun x hx => nR _ ?_)
      · rw [List.map_map]
        show Names (ps.map (·.2.1))
        rw [en8]
        exact nN
      · intro x hx
        obtain ⟨q, hq, rfl⟩ := List.mem_map.mp hx
        exact pr8 q hq
      · have := congrArg List.length en8
        rw [List.length_map] at this
        rw [List.length_map]
        omega
      · obtain ⟨q, hq, rfl⟩ := List.mem_map.mp hx
        rw [← en8]
        exact List.mem_map_of_mem (f := (·.2.1)) hq
theorem ok_pl {f : Addr} {fd : FuncData} (F : Fun K "_law_placement" "_law_placement" sPl f fd) (T : Nm mg) (C_law_draw : Cal P w K mg base 1 "_law_draw" pDraw spDraw) (C_law_names : Cal P w K mg base 2 "_law_names" pDraw spNames) : FnOk P w K mg base CX0 3 f fd pPl spPl :=
  (ok_plR (R := fun _ => True) F T C_law_draw (names_all C_law_names fun _ => trivial)).imp fun vs H Q E ⟨s, A, B, h, c, n, D, m, e, hS, hc, hH, n0, n1, m0, m1, q⟩ => ⟨s, A, B, h, c, n, D, m, e, hS, hc, hH, n0, n1, m0, m1, fun H' p P a b c d e _ => q H' p P a b c d e⟩
end
end Fw
namespace Fw
open PySem PySem.Spec PyProof.Rows L2
/-! ### what a walk over a placement needs: tuples stay -/
structure Tk (H H' : Hp) : Prop where
  t : ∀ {b : Addr} {xs : List V}, H b = some (.tup xs) → H' b = some (.tup xs)
  f : ∀ {b : Addr} {o : Obj} {xs : List V}, H b = some (.frz o (.tup xs)) → H' b = some (.frz o (.tup xs))
theorem Tk.refl {H : Hp} : Tk H H := ⟨fun e => e, fun e => e⟩
theorem Tk.of {H H' : Hp} (h : Same H H') : Tk H H' := ⟨fun e => h _ _ e, fun e => h _ _ e⟩
theorem Tk.trans {H H1 H2 : Hp} (a : Tk H H1) (b : Tk H1 H2) : Tk H H2 := ⟨fun e => b.t (a.t e), fun e => b.f (a.f e)⟩
theorem Tk.fr {s A B : Addr} {c : Nat} {H H' : Hp} (f : Fr s A H H') (hS : StreamAt H s A B c) : Tk H H' := ⟨fun e => f.tup hS e, fun e => f.frz hS e⟩
theorem Tk.put {H H' : Hp} (a : Tk H H') {L : Addr} {xs : List V} {o : HO} (h : H' L = some (.lst xs)) : Tk H (upd H' L o) := by
  refine ⟨fun e => ?_, fun e => ?_⟩
  · rw [upd_ne (ne_of (a.t e) h (by intro z; cases z))]
    exact a.t e
  · rw [upd_ne (ne_of (a.f e) h (by intro z; cases z))]
    exact a.f e
theorem Tk.putD {H H' : Hp} (a : Tk H H') {L : Addr} {xs : List (Key × V)} {o : HO} (h : H' L = some (.dK xs)) : Tk H (upd H' L o) := by
  refine ⟨fun e => ?_, fun e => ?_⟩
  · rw [upd_ne (ne_of (a.t e) h (by intro z; cases z))]
    exact a.t e
  · rw [upd_ne (ne_of (a.f e) h (by intro z; cases z))]
    exact a.f e
theorem Tk.new {H H' : Hp} (a : Tk H H') {L : Addr} {o : HO} (h : H' L = none) : Tk H (upd H' L o) := a.trans (Tk.of (same_upd h))
theorem HouseAt.tk {H H' : Hp} {h : Addr} {n : Int} {D : List (Int × Int)} (x : HouseAt H h n D) (e : Tk H H') : HouseAt H' h n D := by
  obtain ⟨q, ps, h1, h2, h3, h4⟩ := x
  exact ⟨q, ps, e.t h1, e.t h2, h3, fun p hp => e.t (h4 p hp)⟩
theorem TpAt.tk {H H' : Hp} {p : Addr} {xs : List V} (x : TpAt H p xs) (e : Tk H H') : TpAt H' p xs := x.elim (fun h => .inl (e.t h)) fun ⟨o, d, h⟩ => .inr ⟨o, d, e.f h⟩
theorem PlAt.tk {H H' : Hp} {p : Addr} {P : List (Str × Int)} (x : PlAt H p P) (e : Tk H H') : PlAt H' p P := by
  obtain ⟨ps, h1, h2, h3⟩ := x
  exact ⟨ps, h1.tk e, h2, fun q hq => e.t (h3 q hq)⟩
theorem PlD.tk {H H' : Hp} {p : Addr} {P : List (Str × Int)} (x : PlD H p P) (e : Tk H H') : PlD H' p P := by
  obtain ⟨ps, o, d, h1, h2, h3⟩ := x
  exact ⟨ps, o, d, e.f h1, h2, fun q hq => e.t (h3 q hq)⟩
theorem get_pl {ps : List (Addr × Str × Int)} {i : Nat} {x : V} (h : (ps.map fun p => V.ref p.1)[i]? = some x) : ∃ p, ps[i]? = some p ∧ x = .ref p.1 := by
  rw [List.getElem?_map] at h
  cases e : ps[i]? with
  | none => rw [e] at h; cases h
  | some v => rw [e] at h; exact ⟨v, rfl, (Option.some.inj h).symm⟩
/-- a comprehension over a placement -/
theorem lc_pl {K : PySem.W.Frag} {p : Addr} {P : List (Str × Int)} {i j : Nat} {tt : TT} {te : TE} {vs : List Nat} {σ : L2.St} {H1 : Hp} {D : Addr} {Qd : Hp → Prop} (x : PlAt H1 p P) (Pv : Nat → Hp → Prop) (h0 : Pv 0 (upd H1 D (.lst []))) (hl : ∀ k H, Pv k H → Tk H1 H)
    (hs : ∀ k nm r H, P[k]? = some (nm, r) → Pv k H → wipe (((wipe σ vs).set i (some (.str nm))).set j (some (.int r))) vs = wipe σ vs ∧ tt (((wipe σ vs).set i (some (.str nm))).set j (some (.int r))) H fun b H3 =>
      if b = true then te (((wipe σ vs).set i (some (.str nm))).set j (some (.int r))) H3 fun y H4 => ∃ acc, H4 D = some (.lst acc) ∧ acc.length < sizeLine ∧ Pv (k + 1) (upd H4 D (.lst (acc ++ [y]))) else Pv (k + 1) H3) (hd : ∀ H, Pv P.length H → Qd H) :
    ∃ W : Nat → Nat → Hp → Prop, (∃ m, W 0 m (upd H1 D (.lst []))) ∧ ∀ k m H, W k m H →
      ((Itt K p).stop k H ∧ Qd H) ∨ ((Itt K p).go k H ∧ ∃ Nx : Hp → Prop, (∀ H', Nx H' → ∃ m', m' < m ∧ W (k + 1) m' H') ∧ ∀ x H', (Itt K p).yld k H x H' → gTup K 2 (gCons (gName i) (gCons (gName j) gNil)) x (wipe σ vs) H' fun σ2 H2 => wipe σ2 vs = wipe σ vs ∧ tt σ2 H2 fun b H3 =>
        if b = true then te σ2 H3 fun y H4 => ∃ acc, H4 D = some (.lst acc) ∧ acc.length < sizeLine ∧ Nx (upd H4 D (.lst (acc ++ [y]))) else Nx H3) := by
  obtain ⟨ps, h1, rfl, h3⟩ := x
  refine lc_tup (K := K) (a := p) (xs := ps.map fun q => V.ref q.1) Pv h0 (fun i H _ hp => (h1.tk (hl i H hp)).sq) (fun k x H hx hp => ?_) (fun H hp => hd H (by rw [List.length_map] at hp ⊢; exact hp))
  obtain ⟨q, hq, rfl⟩ := get_pl hx
  refine ⟨q.1, _, rfl, SqT.of ((hl k H hp).t (h3 q (List.mem_of_getElem? hq))), rfl, _, _, rfl, _, _, rfl, rfl, ?_⟩
  exact hs k q.2.1 q.2.2 H (by rw [List.getElem?_map, hq]; rfl) hp
/-- a loop over a placement -/
theorem for_pl {K : PySem.W.Frag} {p : Addr} {P : List (Str × Int)} {i j : Nat} {tb : TS} {D : Ends} {σ : L2.St} {H0 H : Hp} (x : PlAt H0 p P) (Pv : Nat → L2.St → Hp → Prop) (h0 : Pv 0 σ H) (hl : ∀ k σ H, Pv k σ H → Tk H0 H)
    (hs : ∀ k nm r σ H, P[k]? = some (nm, r) → Pv k σ H → tb { D with nx := Pv (k + 1), ct := Pv (k + 1), bk := D.nx } ((σ.set i (some (.str nm))).set j (some (.int r))) H) (hd : ∀ σ H, Pv P.length σ H → D.nx σ H) :
    ∃ W : Nat → Nat → L2.St → Hp → Prop, (∃ m, W 0 m σ H) ∧ ∀ k m σ H, W k m σ H →
      ((Itt K p).stop k H ∧ D.nx σ H) ∨ ((Itt K p).go k H ∧ ∃ N : L2.St → Hp → Prop, (∀ σ' H', N σ' H' → ∃ m', m' < m ∧ W (k + 1) m' σ' H') ∧ ∀ x H', (Itt K p).yld k H x H' → gTup K 2 (gCons (gName i) (gCons (gName j) gNil)) x σ H' fun σ2 H2 => tb { D with nx := N, ct := N, bk := D.nx } σ2 H2) := by
  obtain ⟨ps, h1, rfl, h3⟩ := x
  refine for_tup (K := K) (a := p) (xs := ps.map fun q => V.ref q.1) Pv h0 (fun i σ H _ hp => (h1.tk (hl i σ H hp)).sq) (fun k x σ H hx hp => ?_) (fun σ H hp => hd σ H (by rw [List.length_map] at hp ⊢; exact hp))
  obtain ⟨q, hq, rfl⟩ := get_pl hx
  refine ⟨q.1, _, rfl, SqT.of ((hl k σ H hp).t (h3 q (List.mem_of_getElem? hq))), rfl, _, _, rfl, _, _, rfl, rfl, ?_⟩
  exact hs k q.2.1 q.2.2 σ H (by rw [List.getElem?_map, hq]; rfl) hp
theorem PlAt.sq {K : PySem.W.Frag} {H : Hp} {p : Addr} {P : List (Str × Int)} (x : PlAt H p P) : ∃ xs, SqT K H p xs := by
  obtain ⟨ps, h1, _⟩ := x
  exact ⟨_, h1.sq⟩
theorem inV_vi (x : Int) (R : List Int) : inV (.int x) (vi R) = decide (x ∈ R) := by
  unfold inV
  rw [Bool.eq_iff_iff, List.any_eq_true, decide_eq_true_eq]
  constructor
  · rintro ⟨y, hy, e⟩
    obtain ⟨z, hz, rfl⟩ := List.mem_map.mp hy
    have : z = x := by simpa [eqV] using e
    exact this ▸ hz
  · intro h
    exact ⟨.int x, List.mem_map_of_mem h, by simp [eqV]⟩
theorem flat_vi (R : List Int) : (vi R).all flatV = true := by
  rw [List.all_eq_true]
  intro x hx
  obtain ⟨z, _, rfl⟩ := List.mem_map.mp hx
  rfl
theorem take_snoc {α : Type} {xs : List α} {k : Nat} {x : α} (h : xs[k]? = some x) : xs.take (k + 1) = xs.take k ++ [x] := by
  rw [List.take_add_one, h]
  rfl
theorem filter_snoc {α : Type} (f : α → Bool) (xs : List α) (x : α) : (xs ++ [x]).filter f = xs.filter f ++ if f x = true then [x] else [] := by
  rw [List.filter_append]
  congr 1
  by_cases c : f x = true
  · rw [if_pos c, List.filter_cons_of_pos c]
    rfl
  · rw [if_neg c, List.filter_cons_of_neg c]
    rfl
theorem lt_of_get {α : Type} {xs : List α} {k : Nat} {x : α} (h : xs[k]? = some x) : k < xs.length := (List.getElem?_eq_some_iff.mp h).1
theorem sqT_same {K : PySem.W.Frag} {H H' : Hp} {a : Addr} {xs : List V} (e : Same H H') (h : SqT K H a xs) : SqT K H' a xs :=
  h.imp (Or.imp (e a _) fun ⟨o, x⟩ => ⟨o, e a _ x⟩) id
end Fw
namespace Fw
open PySem PySem.Spec PyProof.Rows L2
/-- who is in the rooms R -/
def inside (P : List (Str × Int)) (R : List Int) : List Str := (P.filter fun x => decide (x.2 ∈ R)).map (·.1)
theorem inside_snoc {P : List (Str × Int)} {R : List Int} {k : Nat} {nm : Str} {r : Int} (h : P[k]? = some (nm, r)) : inside (P.take (k + 1)) R = inside (P.take k) R ++ if r ∈ R then [nm] else [] := by
  unfold inside
  rw [take_snoc h, filter_snoc, List.map_append]
  congr 1
  by_cases c : r ∈ R
  · rw [if_pos c, if_pos (by simpa using c)]
    rfl
  · rw [if_neg c, if_neg (by simpa using c)]
    rfl
theorem inside_len (P : List (Str × Int)) (R : List Int) : (inside P R).length ≤ P.length := by
  unfold inside
  rw [List.length_map]
  exact List.length_filter_le _ _
theorem inside_nil {P : List (Str × Int)} {R : List Int} : inside P R = [] ↔ ∀ x ∈ P, x.2 ∉ R := by
  unfold inside
  rw [List.map_eq_nil_iff, List.filter_eq_nil_iff]
  simp
theorem key_uniq {P : List (Str × Int)} (nd : (P.map (·.1)).Nodup) {x y : Str × Int} (hx : x ∈ P) (hy : y ∈ P) (e : x.1 = y.1) : x = y := by
  induction P with
  | nil => cases hx
  | cons z P ih =>
    rw [List.map_cons, List.nodup_cons] at nd
    rcases List.mem_cons.mp hx with h1 | h1 <;> rcases List.mem_cons.mp hy with h2 | h2
    · rw [h1, h2]
    · exact absurd (List.mem_map_of_mem (f := (·.1)) h2) (by rw [← e, h1]; exact nd.1)
    · exact absurd (List.mem_map_of_mem (f := (·.1)) h1) (by rw [e, h2]; exact nd.1)
    · exact ih nd.2 h1 h2
section
variable {P : Program} {w : World} {K : PySem.W.Frag} {mg : Str → Option Value} {base : Heap}
def spPWi (K : PySem.W.Frag) : Sp := fun vs H Q _ => ∃ (p t : Addr) (P : List (Str × Int)) (R : List Int), vs = [.ref p, .ref t] ∧ PlAt H p P ∧ SqT K H t (vi R) ∧ P.length ≤ 100 ∧
  ∀ H' u, Same H H' → H' u = some (.tup ((inside P R).map V.str)) → Q (.ref u) H'
abbrev nPWi : List Str := ["placement", "rooms", "name", "room"]
theorem scPWi : FnScope nPWi ["placement", "rooms"] (defScope sPWi) := ⟨rfl, rfl, rfl, by decide +kernel, rfl, by decide +kernel, by decide +kernel⟩
theorem ok_pwi {f : Addr} {fd : FuncData} {k : Nat} (F : Fun K "people_within" "people_within" sPWi f fd) (T : Nm mg) : FnOk P w K mg base CX0 (k + 1) f fd pPWi (spPWi K) := by
  refine F.ok scPWi (fun vs H Q E h => ?_) (fun cdv A outer s H vs Q E hr h => ?_)
  · obtain ⟨p, t, P, R, rfl, _⟩ := h
    rfl
  · obtain ⟨p, t, P, R, rfl, hP, hR, hl, q⟩ := h
    refine ⟨_, (pss_one (ps_ret (pe_callTy call_tuple_of (by rfl) T.tuple (by decide +kernel) (pa_cons (pe_lc (own := [("name", 2), ("room", 3)]) (g := gTup K 2 (gCons (gName 2) (gCons (gName 3) gNil))) (by rfl) scPWi.nd (pi_tup (pv 0))
 (blkOk_by (own := [("name", 2), ("room", 3)]) (N := nPWi) (sc := defScope sPWi) (by decide +kernel))
 (fun _ _ _ _ _ => (pg_tup (by rfl) (pgs_cons (pg_name (i := 2) scPWi.nd rfl (.inl rfl)) (pgs_cons (pg_name (i := 3) scPWi.nd rfl (.inl rfl)) pgs_nil)))) (fun _ _ _ _ _ => pts_one (pt_cmpR (op_inK K rfl) (pv 3) (pv 1) (by rfl))) (fun _ _ _ _ _ => (pv 2))) pa_nil)))), ?_⟩
    refine ⟨_, rfl, p, rfl, hP.sq, fun L hL => lc_pl hP (fun i H1 => Same H H1 ∧ H1 L = some (.lst ((inside (P.take i) R).map V.str))) ⟨same_upd hL, upd_same⟩ (fun _ _ h => Tk.of h.1) ?_ ?_⟩
    · rintro k nm r H1 hk ⟨s1, e1⟩
      refine ⟨rfl, _, rfl, _, rfl, t, _, rfl, .inr (sqT_same s1 hR), rfl, flat_vi R, _, rfl, ?_⟩
      rw [if_neg (by decide), inV_vi, inside_snoc hk]
      refine ite2 (fun c => ?_) (fun c => ?_)
      · rw [if_pos (of_decide_eq_true c)]
        refine ⟨_, rfl, _, e1, ?_, same_put s1 hL, ?_⟩
        · rw [List.length_map]
          have h1 := inside_len (P.take k) R
          rw [List.length_take] at h1
          exact small1000 (by omega)
        · rw [upd_same, vs_app]
          rfl
      · rw [if_neg (fun z => c (decide_eq_true z)), List.append_nil]
        exact ⟨s1, e1⟩
    · rintro H1 ⟨s1, e1⟩
      rw [List.take_length] at e1
      exact ⟨L, _, rfl, .inl ⟨SqL.of e1, fun t ht => q _ t (s1.trans (same_upd ht)) upd_same⟩⟩

def spPIn : Sp := fun vs H Q _ => ∃ (p : Addr) (P : List (Str × Int)) (r : Int), vs = [.ref p, .int r] ∧ PlAt H p P ∧ P.length ≤ 100 ∧
  ∀ H' u, Same H H' → H' u = some (.tup ((inside P [r]).map V.str)) → Q (.ref u) H'
abbrev nPIn : List Str := ["placement", "room"]
theorem scPIn : FnScope nPIn ["placement", "room"] (defScope sPIn) := ⟨rfl, rfl, rfl, by decide +kernel, rfl, by decide +kernel, by decide +kernel⟩
theorem ok_pin {f : Addr} {fd : FuncData} {k : Nat} (F : Fun K "people_in" "people_in" sPIn f fd) (T : Nm mg) (Cpeople_within : Cal P w K mg base (k + 1) "people_within" pPWi (spPWi K)) : FnOk P w K mg base CX0 (k + 2) f fd pPIn spPIn := by
  refine F.ok scPIn (fun vs H Q E h => ?_) (fun cdv A outer s H vs Q E hr h => ?_)
  · obtain ⟨p, P, r, rfl, _⟩ := h
    rfl
  · obtain ⟨p, P, r, rfl, hP, hl, q⟩ := h
    refine ⟨_, (pss_one (ps_ret (pe_cal Cpeople_within hr (by rfl) (pa_cons (pv 0) (pa_cons (pe_tup (pa_cons (pv 1) pa_nil)) pa_nil))))), ?_⟩
    refine ⟨_, rfl, _, rfl, by show 1 ≤ sizeLine; decide, fun t ht => ⟨p, t, P, [r], rfl, hP.same (same_upd ht), SqT.of upd_same, hl, fun H' u s1 e1 => q _ u ((same_upd ht).trans s1) e1⟩⟩

def spRoomOf : Sp := fun vs H Q _ => ∃ (p : Addr) (P : List (Str × Int)) (nm : Str) (r : Int), vs = [.ref p, .str nm] ∧ PlAt H p P ∧ (nm, r) ∈ P ∧ (P.map (·.1)).Nodup ∧ Q (.int r) H
abbrev nRoomOf : List Str := ["placement", "name", "person", "room"]
theorem scRoomOf : FnScope nRoomOf ["placement", "name"] (defScope sRoomOf) := ⟨rfl, rfl, rfl, by decide +kernel, rfl, by decide +kernel, by decide +kernel⟩
theorem ok_roomof {f : Addr} {fd : FuncData} {k : Nat} (F : Fun K "room_of" "room_of" sRoomOf f fd) : FnOk P w K mg base CX0 (k + 1) f fd pRoomOf spRoomOf := by
  refine F.ok scRoomOf (fun vs H Q E h => ?_) (fun cdv A outer s H vs Q E hr h => ?_)
  · obtain ⟨p, P, nm, r, rfl, _⟩ := h
    rfl
  · obtain ⟨p, P, nm, r, rfl, hP, hm, nd, q⟩ := h
    refine ⟨_, (pss_cons (ps_for PassesOwn.never rfl (pi_tup (pv 0)) (pg_tup (by rfl) (pgs_cons (pg_name (i := 2) scRoomOf.nd rfl (.inl rfl)) (pgs_cons (pg_name (i := 3) scRoomOf.nd rfl (.inl rfl)) pgs_nil)))
      (pss_one (ps_if (pt_cmpR op_eq (pv 2) (pv 1) (nomark _))
       (pss_one (ps_ret (pv 3)))
       pss_nil)))
      pss_never), ?_⟩
    refine ⟨_, rfl, p, rfl, hP.sq, for_pl hP (fun i σ' H' => ∃ y2 y3, σ' = [some (.ref p), some (.str nm), y2, y3] ∧ H' = H ∧ ∀ x ∈ P.take i, x.1 ≠ nm) ⟨_, _, rfl, rfl, fun x hx => by cases hx⟩ ?_ ?_ ?_⟩
    · rintro k σ' H' ⟨_, _, _, rfl, _⟩
      exact Tk.refl
    · rintro k n' r' σ' H' hk ⟨y2, y3, rfl, rfl, hn⟩
      refine ⟨_, rfl, _, rfl, rfl, _, rfl, ?_⟩
      refine ite2 (fun c => ?_) (fun c => ?_)
      · have c : n' = nm := V.str.inj (of_decide_eq_true c)
        subst c
        have := key_uniq nd (List.mem_of_getElem? hk) hm rfl
        cases this
        exact ⟨_, rfl, q⟩
      · refine ⟨_, _, rfl, rfl, fun x hx => ?_⟩
        rw [take_snoc hk, List.mem_append] at hx
        rcases hx with hx | hx
        · exact hn x hx
        · rw [List.mem_singleton.mp hx]
          exact fun e => c (decide_eq_true (by rw [show n' = nm from e]))
    · rintro σ' H' ⟨y2, y3, rfl, rfl, hn⟩
      rw [List.take_length] at hn
      exact absurd rfl (hn _ hm)
end
end Fw
namespace Fw
open PySem PySem.Spec PyProof.Rows L2
/-! ### a list of pairs (name, room) -/
def LsAt (H : Hp) (l : Addr) (X : List (Str × Int)) : Prop := ∃ ps : List (Addr × Str × Int), H l = some (.lst (ps.map fun q => V.ref q.1)) ∧ X = ps.map (·.2) ∧ ∀ q ∈ ps, H q.1 = some (.tup [.str q.2.1, .int q.2.2])
theorem LsAt.nil {H : Hp} {l : Addr} (h : H l = some (.lst [])) : LsAt H l [] := ⟨[], h, rfl, fun q hq => absurd hq List.not_mem_nil⟩
theorem LsAt.same {H H' : Hp} {l : Addr} {X : List (Str × Int)} (x : LsAt H l X) (e : Same H H') : LsAt H' l X := by
  obtain ⟨ps, h1, h2, h3⟩ := x
  exact ⟨ps, e _ _ h1, h2, fun q hq => e _ _ (h3 q hq)⟩
theorem LsAt.fr {s A B : Addr} {c : Nat} {H H' : Hp} {l : Addr} {X : List (Str × Int)} (x : LsAt H l X) (hS : StreamAt H s A B c) (e : Fr s A H H') (z : s ≠ l ∧ A ≠ l ∧ B ≠ l) : LsAt H' l X := by
  obtain ⟨ps, h1, h2, h3⟩ := x
  exact ⟨ps, e _ _ z.1.symm z.2.1.symm h1, h2, fun q hq => e.tup hS (h3 q hq)⟩
theorem LsAt.snoc {H : Hp} {l t : Addr} {X : List (Str × Int)} {a : Str} {b : Int} (x : LsAt H l X) (ht : H t = some (.tup [.str a, .int b])) : ∃ acc, H l = some (.lst acc) ∧ acc.length = X.length ∧ LsAt (upd H l (.lst (acc ++ [.ref t]))) l (X ++ [(a, b)]) := by
  obtain ⟨ps, h1, h2, h3⟩ := x
  refine ⟨_, h1, by rw [h2, List.length_map, List.length_map], ps ++ [(t, a, b)], ?_, by rw [h2, List.map_append]; rfl, fun q hq => ?_⟩
  · rw [upd_same, List.map_append]
    rfl
  · have : H q.1 = some (.tup [.str q.2.1, .int q.2.2]) := by
      rcases List.mem_append.mp hq with hq | hq
      · exact h3 q hq
      · rw [List.mem_singleton.mp hq]
        exact ht
    rw [upd_ne (ne_of this h1 (by intro z; cases z))]
    exact this
theorem LsAt.tup {H : Hp} {l : Addr} {X : List (Str × Int)} (x : LsAt H l X) : ∃ xs, H l = some (.lst xs) ∧ ∀ (t : Addr) (ob : Obj), H t = none → ob.dict = none → PlD (upd H t (.frz ob (.tup xs))) t X := by
  obtain ⟨ps, h1, h2, h3⟩ := x
  exact ⟨_, h1, fun t ob ht od => ⟨ps, ob, od, upd_same, h2, fun q hq => same_upd ht _ _ (h3 q hq)⟩⟩
/-- the placement after a move -/
def mvd (P : List (Str × Int)) (nm : Str) (r : Int) : List (Str × Int) := P.map fun x => (x.1, if x.1 = nm then r else x.2)
theorem mvd_len (P : List (Str × Int)) (nm : Str) (r : Int) : (mvd P nm r).length = P.length := by unfold mvd; rw [List.length_map]
theorem mvd_names (P : List (Str × Int)) (nm : Str) (r : Int) : (mvd P nm r).map (·.1) = P.map (·.1) := by
  unfold mvd
  rw [List.map_map]
  rfl
theorem mvd_get {P : List (Str × Int)} {nm : Str} {r : Int} {k : Nat} {n' : Str} {r' : Int} (h : P[k]? = some (n', r')) : (mvd P nm r)[k]? = some (n', if n' = nm then r else r') := by
  unfold mvd
  rw [List.getElem?_map, h]
  rfl
theorem Pl.mvd {n : Int} {P : List (Str × Int)} (h : Pl n P) {nm : Str} {r : Int} (h0 : 0 ≤ r) (h1 : r < n) : Pl n (mvd P nm r) := by
  refine ⟨by rw [mvd_names]; exact h.nm, fun x hx => ?_⟩
  obtain ⟨y, hy, rfl⟩ := List.mem_map.mp hx
  show 0 ≤ (if y.1 = nm then r else y.2) ∧ (if y.1 = nm then r else y.2) < n
  split
  · exact ⟨h0, h1⟩
  · exact h.rm y hy
/-- all moves -/
def mvs (n : Int) (D : List (Int × Int)) (P : List (Str × Int)) (X : List (Str × Int)) : List (Str × Int) := X.flatMap fun x => ((nb n D x.2).filter fun t => decide (t ∈ P.map (·.2))).map fun t => (x.1, t)
theorem str_dec (a b : Str) : decide (V.str a = V.str b) = decide (a = b) := by
  rw [Bool.eq_iff_iff, decide_eq_true_eq, decide_eq_true_eq]
  exact ⟨V.str.inj, fun e => by rw [e]⟩
theorem k_ii' : kitB "int" "int" = some true := by decide +kernel
theorem k_ib' : kitB "int" "bool" = some false := by decide +kernel
section
variable {P : Program} {w : World} {K : PySem.W.Frag} {mg : Str → Option Value} {base : Heap}
def spLMoved : Sp := fun vs H Q _ => ∃ (p : Addr) (P : List (Str × Int)) (nm : Str) (r : Int), vs = [.ref p, .str nm, .int r] ∧ PlAt H p P ∧ P.length ≤ 100 ∧ ∀ H' u, Same H H' → PlD H' u (mvd P nm r) → Q (.ref u) H'
abbrev nLMoved : List Str := ["_law_placement_here", "_law_name", "_law_room", "_law_one", "_law_here"]
theorem scLMoved : FnScope nLMoved ["_law_placement_here", "_law_name", "_law_room"] (defScope sLMoved) := ⟨rfl, rfl, rfl, by decide +kernel, rfl, by decide +kernel, by decide +kernel⟩
theorem ok_lmoved {f : Addr} {fd : FuncData} {k : Nat} (F : Fun K "_law_moved" "_law_moved" sLMoved f fd) (T : Nm mg) : FnOk P w K mg base CX0 (k + 1) f fd pLMoved spLMoved := by
  refine F.ok scLMoved (fun vs H Q E h => ?_) (fun cdv A outer s H vs Q E hr h => ?_)
  · obtain ⟨p, P, nm, r, rfl, _⟩ := h
    rfl
  · obtain ⟨p, P, nm, r, rfl, hP, hl, q⟩ := h
    refine ⟨_, (pss_one (ps_ret (pe_callTy (call_tupleF K rfl) (by rfl) T.tuple (by decide +kernel) (pa_cons (pe_lc (own := [("_law_one", 3), ("_law_here", 4)]) (g := gTup K 2 (gCons (gName 3) (gCons (gName 4) gNil))) (by rfl) scLMoved.nd (pi_tup (pv 0))
 (blkOk_by (own := [("_law_one", 3), ("_law_here", 4)]) (N := nLMoved) (sc := defScope sLMoved) (by decide +kernel))
 (fun _ _ _ _ _ => (pg_tup (by rfl) (pgs_cons (pg_name (i := 3) scLMoved.nd rfl (.inl rfl)) (pgs_cons (pg_name (i := 4) scLMoved.nd rfl (.inl rfl)) pgs_nil)))) (fun _ _ _ _ _ => pts_nil) (fun _ _ _ _ _ => (pe_tup (pa_cons (pv 3) (pa_cons (pe_ix (ix_listK K rfl) (pe_lst (pa_cons (pv 4) (pa_cons (pv 2) pa_nil))) (pe_callTy call_int1 (by rfl) T.int (by decide +kernel) (pa_cons (pe_cmpR op_eq (pv 3) (pv 1) (nomark _)) pa_nil)) (fun _ _ => rfl)) pa_nil))))) pa_nil)))), ?_⟩
    refine ⟨_, rfl, p, rfl, hP.sq, fun L hL => lc_pl hP (fun i H1 => Same H H1 ∧ LsAt H1 L ((mvd P nm r).take i)) ⟨same_upd hL, .nil upd_same⟩ (fun _ _ h => Tk.of h.1) ?_ ?_⟩
    · rintro k n' r' H1 hk ⟨s1, e1⟩
      refine ⟨rfl, ?_⟩
      unfold tYes
      refine iteT ⟨_, rfl, _, rfl, _, rfl, by show 2 ≤ sizeLine; decide, fun a ha => ⟨_, rfl, _, rfl, rfl, .inr ⟨_, rfl, ?_⟩⟩⟩
      rw [str_dec]
      have ix : atI [V.int r', V.int r] (if decide (n' = nm) = true then 1 else 0) = some (.int (if n' = nm then r else r')) := by
        by_cases c : n' = nm
        · rw [if_pos (decide_eq_true c), if_pos c]
          exact atI1
        · rw [if_neg (by simpa using c), if_neg c]
          exact atI0
      refine ⟨a, _, _, _, rfl, rfl, SqL.of upd_same, ix, by show 2 ≤ sizeLine; decide, fun t ht => ?_⟩
      have sm := (same_upd (o := .lst [V.int r', V.int r]) ha).trans (same_upd (o := .tup [V.str n', V.int (if n' = nm then r else r')]) ht)
      obtain ⟨acc, e2, l2, e3⟩ := (e1.same sm).snoc (t := t) upd_same
      refine ⟨acc, e2, ?_, same_put (s1.trans sm) hL, ?_⟩
      · rw [l2, List.length_take, mvd_len]
        exact small1000 (by omega)
      · rw [take_snoc (mvd_get hk)]
        exact e3
    · rintro H1 ⟨s1, e1⟩
      rw [← mvd_len P nm r, List.take_length] at e1
      obtain ⟨xs, e2, e3⟩ := e1.tup
      exact ⟨L, _, rfl, SqL.of e2, fun t ob ht od => q _ t (s1.trans (same_upd ht)) (e3 t ob ht od)⟩
def spIsIntI : Sp := fun vs H Q _ => ∃ (i : Int), vs = [.int i] ∧ Q (.bl true) H
abbrev nIsInt : List Str := ["value"]
theorem scIsInt : FnScope nIsInt ["value"] (defScope sIsInt) := ⟨rfl, rfl, rfl, by decide +kernel, rfl, by decide +kernel, by decide +kernel⟩
theorem ok_isint {f : Addr} {fd : FuncData} {k : Nat} (F : Fun K "is_integer" "is_integer" sIsInt f fd) (T : Nm mg) : FnOk P w K mg base CX0 (k + 1) f fd pIsInt spIsIntI := by
  refine F.ok scIsInt (fun vs H Q E h => ?_) (fun cdv A outer s H vs Q E hr h => ?_)
  · obtain ⟨i, rfl, _⟩ := h
    rfl
  · obtain ⟨i, rfl, q⟩ := h
    refine ⟨_, (pss_one (ps_ret (pe_and (pe_callB call_isi (by rfl) T.isinstance (by decide +kernel) (pa_cons (pv 0) (pa_cons (pe_bltn (v := .ty "int") (by rfl) T.int (by decide +kernel) rfl) pa_nil))) (pe_one (pe_not (pe_callB call_isi (by rfl) T.isinstance (by decide +kernel) (pa_cons (pv 0) (pa_cons (pe_bltn (v := .ty "bool") (by rfl) T.bool (by decide +kernel) rfl) pa_nil)))))))), ?_⟩
    exact ⟨_, rfl, _, _, _, _, _, rfl, .ty _, .base (.int _), kit_ty k_ii', _, rfl, iteT ⟨_, rfl, _, _, _, _, _, rfl, .ty _, .base (.int _), kit_ty k_ib', _, rfl, q⟩⟩
def spIsRoom : Sp := fun vs H Q _ => ∃ (h : Addr) (n : Int) (D : List (Int × Int)) (i : Int), vs = [.ref h, .int i] ∧ HouseAt H h n D ∧ Q (.bl (decide (0 ≤ i ∧ i < n))) H
abbrev nIsRoom : List Str := ["house", "value"]
theorem scIsRoom : FnScope nIsRoom ["house", "value"] (defScope sIsRoom) := ⟨rfl, rfl, rfl, by decide +kernel, rfl, by decide +kernel, by decide +kernel⟩
theorem ok_isroom {f : Addr} {fd : FuncData} {k : Nat} (F : Fun K "is_room" "is_room" sIsRoom f fd) (T : Nm mg) (Cis_integer : Cal P w K mg base (k + 1) "is_integer" pIsInt spIsIntI) : FnOk P w K mg base CX0 (k + 2) f fd pIsRoom spIsRoom := by
  refine F.ok scIsRoom (fun vs H Q E h => ?_) (fun cdv A outer s H vs Q E hr h => ?_)
  · obtain ⟨h, n, D, i, rfl, _⟩ := h
    rfl
  · obtain ⟨h, n, D, i, rfl, hH, q⟩ := h
    refine ⟨_, (pss_one (ps_ret (pe_and (pe_cal Cis_integer hr (by rfl) (pa_cons (pv 1) pa_nil)) (pe_one (pe_chain op_le op_lt pe_int (pv 1) (pe_ix (ix_tupK K rfl) (pv 0) pe_int (fun _ _ => rfl))))))), ?_⟩
    obtain ⟨qd, eh⟩ := hH.room0
    refine ⟨_, rfl, i, rfl, _, rfl, iteT ⟨_, rfl, _, _, rfl, rfl, _, rfl, ?_⟩⟩
    refine ite2 (fun c => ?_) (fun c => ?_)
    · refine ⟨_, rfl, h, _, _, _, rfl, rfl, SqT.of eh, atI0, _, _, rfl, rfl, ?_⟩
      have c : 0 ≤ i := of_decide_eq_true c
      rw [show decide (0 ≤ i ∧ i < n) = decide (i < n) by simp [c]] at q
      exact q
    · have c : ¬ 0 ≤ i := fun e => c (decide_eq_true e)
      rw [show decide (0 ≤ i ∧ i < n) = false by simp [c]] at q
      exact q
def spWith : Sp := fun vs H Q _ => ∃ (p : Addr) (P : List (Str × Int)) (nm : Str) (r : Int), vs = [.ref p, .str nm, .int r] ∧ PlAt H p P ∧ P.length ≤ 100 ∧ ∀ H' u, Same H H' → PlD H' u (mvd P nm r) → Q (.ref u) H'
abbrev nWith : List Str := ["placement", "name", "room", "person", "other"]
theorem scWith : FnScope nWith ["placement", "name", "room"] (defScope sWith) := ⟨rfl, rfl, rfl, by decide +kernel, rfl, by decide +kernel, by decide +kernel⟩
theorem ok_with {f : Addr} {fd : FuncData} {k : Nat} (F : Fun K "with_person_in" "with_person_in" sWith f fd) (T : Nm mg) : FnOk P w K mg base CX0 (k + 1) f fd pWith spWith := by
  refine F.ok scWith (fun vs H Q E h => ?_) (fun cdv A outer s H vs Q E hr h => ?_)
  · obtain ⟨p, P, nm, r, rfl, _⟩ := h
    rfl
  · obtain ⟨p, P, nm, r, rfl, hP, lP, q⟩ := h
    refine ⟨_, (pss_one (ps_ret (pe_callTy (call_tupleF K rfl) (by rfl) T.tuple (by decide +kernel) (pa_cons (pe_lc (own := [("person", 3), ("other", 4)]) (g := gTup K 2 (gCons (gName 3) (gCons (gName 4) gNil))) (by rfl) scWith.nd (pi_tup (pv 0))
 (blkOk_by (own := [("person", 3), ("other", 4)]) (N := nWith) (sc := defScope sWith) (by decide +kernel))
 (fun _ _ _ _ _ => (pg_tup (by rfl) (pgs_cons (pg_name (i := 3) scWith.nd rfl (.inl rfl)) (pgs_cons (pg_name (i := 4) scWith.nd rfl (.inl rfl)) pgs_nil)))) (fun _ _ _ _ _ => pts_nil) (fun _ _ _ _ _ => (pe_tup (pa_cons (pv 3) (pa_cons (pe_ifExp (pt_cmpR op_eq (pv 3) (pv 1) (nomark _)) (pv 2) (pv 4)) pa_nil))))) pa_nil)))), ?_⟩
    refine ⟨_, rfl, p, rfl, hP.sq, fun L hL => lc_pl hP (fun i H1 => Same H H1 ∧ LsAt H1 L ((mvd P nm r).take i)) ⟨same_upd hL, .nil upd_same⟩ (fun _ _ h => Tk.of h.1) ?_ ?_⟩
    · rintro k n' r' H3 hk ⟨s3, e3⟩
      refine ⟨rfl, ?_⟩
      unfold tYes
      refine iteT ⟨_, rfl, _, rfl, _, rfl, rfl, _, rfl, ?_⟩
      rw [str_dec]
      have go : ∀ (v : Int), v = (if n' = nm then r else r') → ∀ t, H3 t = none → ∃ acc, (upd H3 t (.tup [.str n', .int v])) L = some (.lst acc) ∧ acc.length < sizeLine ∧ Same H (upd (upd H3 t (.tup [.str n', .int v])) L (.lst (acc ++ [.ref t]))) ∧ LsAt (upd (upd H3 t (.tup [.str n', .int v])) L (.lst (acc ++ [.ref t]))) L ((mvd P nm r).take (k + 1)) := by
        rintro v rfl t ht
        have sm := (same_upd (o := .tup [V.str n', V.int (if n' = nm then r else r')]) ht)
        obtain ⟨acc, e4, l4, e5⟩ := (e3.same sm).snoc (t := t) upd_same
        refine ⟨acc, e4, ?_, same_put (s3.trans sm) hL, ?_⟩
        · rw [l4, List.length_take, mvd_len]
          exact small1000 (by omega)
        · rw [take_snoc (mvd_get hk)]
          exact e5
      refine ite2 (fun c => ?_) (fun c => ?_)
      · have c : n' = nm := of_decide_eq_true c
        exact ⟨_, rfl, by show 2 ≤ sizeLine; decide, fun t ht => go r (by rw [if_pos c]) t ht⟩
      · have c : ¬ n' = nm := fun e => c (decide_eq_true e)
        exact ⟨_, rfl, by show 2 ≤ sizeLine; decide, fun t ht => go r' (by rw [if_neg c]) t ht⟩
    · rintro H3 ⟨s3, e3⟩
      rw [← mvd_len P nm r, List.take_length] at e3
      obtain ⟨xs, e4, e5⟩ := e3.tup
      exact ⟨L, _, rfl, SqL.of e4, fun t ob ht od => q _ t (s3.trans (same_upd ht)) (e5 t ob ht od)⟩
def spMove : Sp := fun vs H Q _ => ∃ (h p : Addr) (n : Int) (D : List (Int × Int)) (P : List (Str × Int)) (nm : Str) (r c : Int), vs = [.ref h, .ref p, .str nm, .int r] ∧ HouseAt H h n D ∧ Forest n D ∧ 0 ≤ n ∧ n ≤ 8 ∧ PlAt H p P ∧ Pl n P ∧ P.length ≤ 100 ∧ (nm, c) ∈ P ∧ r ∈ nb n D c ∧ r ∈ P.map (·.2) ∧
  ∀ H' u, Same H H' → PlD H' u (mvd P nm r) → Q (.ref u) H'
abbrev nMove : List Str := ["house", "placement", "name", "room", "current"]
theorem scMove : FnScope nMove ["house", "placement", "name", "room"] (defScope sMove) := ⟨rfl, rfl, rfl, by decide +kernel, rfl, by decide +kernel, by decide +kernel⟩
theorem ok_move {f : Addr} {fd : FuncData} {k : Nat} (F : Fun K "move_person" "move_person" sMove f fd) (T : Nm mg) (Croom_of : Cal P w K mg base (k + 2) "room_of" pRoomOf spRoomOf) (Cis_room : Cal P w K mg base (k + 2) "is_room" pIsRoom spIsRoom)
    (Cneighbors : Cal P w K mg base (k + 2) "neighbors" ["house", "room"] spNb) (Cpeople_in : Cal P w K mg base (k + 2) "people_in" pPIn spPIn) (Cwith : Cal P w K mg base (k + 2) "with_person_in" pWith spWith) : FnOk P w K mg base CX0 (k + 3) f fd pMove spMove := by
  refine F.ok scMove (fun vs H Q E h => ?_) (fun cdv A outer s H vs Q E hr h => ?_)
  · obtain ⟨h, p, n, D, P, nm, r, c, rfl, _⟩ := h
    rfl
  · obtain ⟨h, p, n, D, P, nm, r, c, rfl, hH, hF, n0, n1, hP, pl, lP, hm, hr1, hr2, q⟩ := h
    refine ⟨_, (pss_cons (ps_set (i := 4) scMove.nd rfl (.inl rfl) (pe_cal Croom_of hr (by rfl) (pa_cons (pv 1) (pa_cons (pv 2) pa_nil))))
      (pss_cons (ps_if (pt_not (pt_val (pe_cal Cis_room hr (by rfl) (pa_cons (pv 0) (pa_cons (pv 3) pa_nil)))))
      pss_never
      pss_nil)
      (pss_cons (ps_if (pt_cmpR (op_notInK K rfl) (pv 3) (pe_cal Cneighbors hr (by rfl) (pa_cons (pv 0) (pa_cons (pv 4) pa_nil))) (by rfl))
      pss_never
      pss_nil)
      (pss_cons (ps_if (pt_not (pt_truthK K rfl (pe_cal Cpeople_in hr (by rfl) (pa_cons (pv 1) (pa_cons (pv 3) pa_nil))) (by intro _; rfl)))
      pss_never
      pss_nil)
      (pss_one (ps_ret (pe_cal Cwith hr (by rfl) (pa_cons (pv 1) (pa_cons (pv 2) (pa_cons (pv 3) pa_nil)))))))))), ?_⟩
    obtain ⟨y, hy, ey⟩ := List.mem_map.mp hr2
    have rr : 0 ≤ r ∧ r < n := by rw [← ey]; exact pl.rm y hy
    refine ⟨_, rfl, _, rfl, p, P, nm, c, rfl, hP, hm, pl.nodup, ?_⟩
    refine ⟨_, rfl, _, rfl, h, n, D, r, rfl, hH, _, rfl, ?_⟩
    rw [decide_eq_true rr]
    refine iteF ⟨_, rfl, _, rfl, _, rfl, h, n, D, c, rfl, hH, hF, fun H1 t s1 e1 => ⟨t, _, rfl, .inr (SqT.of e1), rfl, flat_vi _, _, rfl, ?_⟩⟩
    rw [if_pos rfl, inV_vi, decide_eq_true hr1]
    refine iteF ⟨_, rfl, _, rfl, p, P, r, rfl, hP.same s1, lP, fun H2 u s2 e2 => ⟨_, .inr (.inl ⟨_, SqT.of e2, rfl⟩), ?_⟩⟩
    have ne : inside P [r] ≠ [] := fun e => (inside_nil.mp e) y hy (by rw [ey]; exact List.mem_singleton.mpr rfl)
    have ne' : ((inside P [r]).map V.str).isEmpty = false := by
      rw [List.isEmpty_eq_false_iff]
      exact fun e => ne (List.map_eq_nil_iff.mp e)
    rw [ne']
    have s2 := s1.trans s2
    exact iteF ⟨_, rfl, _, rfl, _, rfl, p, P, nm, r, rfl, hP.same s2, lP, fun H3 u s3 e3 => q _ u (s2.trans s3) e3⟩
end
end Fw
namespace Fw
open PySem PySem.Spec PyProof.Rows L2
theorem mvs_snoc {n : Int} {D : List (Int × Int)} {P X : List (Str × Int)} {k : Nat} {nm : Str} {r : Int} (h : X[k]? = some (nm, r)) : mvs n D P (X.take (k + 1)) = mvs n D P (X.take k) ++ ((nb n D r).filter fun t => decide (t ∈ P.map (·.2))).map fun t => (nm, t) := by
  unfold mvs
  rw [take_snoc h, List.flatMap_append]
  congr 1
  show List.flatMap _ [(nm, r)] = _
  rw [List.flatMap_cons, List.flatMap_nil, List.append_nil]
theorem mvs_len (n : Int) (D : List (Int × Int)) (P X : List (Str × Int)) (n1 : n ≤ 8) : (mvs n D P X).length ≤ 8 * X.length := by
  unfold mvs
  induction X with
  | nil => exact Nat.le_refl _
  | cons x X ih =>
    rw [List.flatMap_cons, List.length_append, List.length_map, List.length_cons]
    have h1 := List.length_filter_le (fun t => decide (t ∈ P.map (·.2))) (nb n D x.2)
    have h2 := nb_len n D x.2
    omega
theorem LsAt.app {H : Hp} {l m : Addr} {X Y : List (Str × Int)} (x : LsAt H l X) (y : LsAt H m Y) : ∃ xs ys, H l = some (.lst xs) ∧ H m = some (.lst ys) ∧ xs.length = X.length ∧ ys.length = Y.length ∧ LsAt (upd H l (.lst (xs ++ ys))) l (X ++ Y) := by
  obtain ⟨ps, h1, h2, h3⟩ := x
  obtain ⟨qs, g1, g2, g3⟩ := y
  refine ⟨_, _, h1, g1, by rw [h2, List.length_map, List.length_map], by rw [g2, List.length_map, List.length_map], ps ++ qs, ?_, by rw [h2, g2, List.map_append], fun q hq => ?_⟩
  · rw [upd_same, List.map_append]
  · have : H q.1 = some (.tup [.str q.2.1, .int q.2.2]) := by
      rcases List.mem_append.mp hq with hq | hq
      · exact h3 q hq
      · exact g3 q hq
    rw [upd_ne (ne_of this h1 (by intro z; cases z))]
    exact this
theorem rooms_snoc {P : List (Str × Int)} {k : Nat} {nm : Str} {r : Int} (h : P[k]? = some (nm, r)) : (P.take (k + 1)).map (·.2) = (P.take k).map (·.2) ++ [r] := by
  rw [take_snoc h, List.map_append]
  rfl
theorem mvs_mem {n : Int} {D : List (Int × Int)} {P X : List (Str × Int)} {nm : Str} {t : Int} (h : (nm, t) ∈ mvs n D P X) : ∃ c, (nm, c) ∈ X ∧ t ∈ nb n D c ∧ t ∈ P.map (·.2) := by
  unfold mvs at h
  obtain ⟨x, hx, h⟩ := List.mem_flatMap.mp h
  obtain ⟨t', ht, e⟩ := List.mem_map.mp h
  cases e
  obtain ⟨h1, h2⟩ := List.mem_filter.mp ht
  exact ⟨x.2, hx, h1, of_decide_eq_true h2⟩
/-- a loop over a list of pairs -/
theorem for_ls {K : PySem.W.Frag} {l : Addr} {X : List (Str × Int)} {i j : Nat} {tb : TS} {D : Ends} {σ : L2.St} {H0 H : Hp} (x : LsAt H0 l X) (Pv : Nat → L2.St → Hp → Prop) (h0 : Pv 0 σ H) (hl : ∀ k σ H, Pv k σ H → Same H0 H)
    (hs : ∀ k nm r σ H, X[k]? = some (nm, r) → Pv k σ H → tb { D with nx := Pv (k + 1), ct := Pv (k + 1), bk := D.nx } ((σ.set i (some (.str nm))).set j (some (.int r))) H) (hd : ∀ σ H, Pv X.length σ H → D.nx σ H) :
    ∃ W : Nat → Nat → L2.St → Hp → Prop, (∃ m, W 0 m σ H) ∧ ∀ k m σ H, W k m σ H →
      ((Itl K l).stop k H ∧ D.nx σ H) ∨ ((Itl K l).go k H ∧ ∃ N : L2.St → Hp → Prop, (∀ σ' H', N σ' H' → ∃ m', m' < m ∧ W (k + 1) m' σ' H') ∧ ∀ x H', (Itl K l).yld k H x H' → gTup K 2 (gCons (gName i) (gCons (gName j) gNil)) x σ H' fun σ2 H2 => tb { D with nx := N, ct := N, bk := D.nx } σ2 H2) := by
  obtain ⟨ps, h1, rfl, h3⟩ := x
  refine for_list (K := K) (a := l) (xs := ps.map fun q => V.ref q.1) Pv h0 (fun i σ H _ hp => SqL.of (hl i σ H hp _ _ h1)) (fun k x σ H hx hp => ?_) (fun σ H hp => hd σ H (by rw [List.length_map] at hp ⊢; exact hp))
  obtain ⟨q, hq, rfl⟩ := get_pl hx
  refine ⟨q.1, _, rfl, SqT.of (hl k σ H hp _ _ (h3 q (List.mem_of_getElem? hq))), rfl, _, _, rfl, _, _, rfl, rfl, ?_⟩
  exact hs k q.2.1 q.2.2 σ H (by rw [List.getElem?_map, hq]; rfl) hp
theorem LsAt.sq {K : PySem.W.Frag} {H : Hp} {l : Addr} {X : List (Str × Int)} (x : LsAt H l X) : ∃ xs, SqL K H l xs ∧ xs.length = X.length := by
  obtain ⟨ps, h1, h2, _⟩ := x
  exact ⟨_, SqL.of h1, by rw [h2, List.length_map, List.length_map]⟩
theorem LsAt.at {K : PySem.W.Frag} {H : Hp} {l : Addr} {X : List (Str × Int)} (x : LsAt H l X) {r : Int} (h0 : 0 ≤ r) (h1 : r < (X.length : Nat)) : ∃ xs t nm v, SqL K H l xs ∧ atI xs r = some (.ref t) ∧ H t = some (.tup [.str nm, .int v]) ∧ (nm, v) ∈ X := by
  obtain ⟨ps, e1, e2, e3⟩ := x
  have hj : r.toNat < ps.length := by rw [e2, List.length_map] at h1; omega
  have hm := List.getElem_mem hj
  refine ⟨_, ps[r.toNat].1, ps[r.toNat].2.1, ps[r.toNat].2.2, SqL.of e1, ?_, e3 _ hm, by rw [e2]; exact List.mem_map_of_mem (f := (·.2)) hm⟩
  have := atI_nat (xs := ps.map fun q => V.ref q.1) (j := r.toNat) (v := V.ref ps[r.toNat].1) (by rw [List.getElem?_map, List.getElem?_eq_getElem hj]; rfl)
  rw [show ((r.toNat : Nat) : Int) = r by omega] at this
  exact this
end Fw
namespace Fw
open PySem PySem.Spec PyProof.Rows L2
section
variable {P : Program} {w : World} {K : PySem.W.Frag} {mg : Str → Option Value} {base : Heap}
def spLMoves : Sp := fun vs H Q _ => ∃ (h p : Addr) (n : Int) (D : List (Int × Int)) (P : List (Str × Int)), vs = [.ref h, .ref p] ∧ HouseAt H h n D ∧ Forest n D ∧ n ≤ 8 ∧ PlAt H p P ∧ P.length ≤ 100 ∧
  ∀ H' l, Same H H' → H l = none → LsAt H' l (mvs n D P P) → Q (.ref l) H'
abbrev nLMoves : List Str := ["_law_house_here", "_law_placement_here", "_law_held", "_law_name", "_law_room", "_law_found", "_law_here", "_law_there"]
theorem scLMoves : FnScope nLMoves ["_law_house_here", "_law_placement_here"] (defScope sLMoves) := ⟨rfl, rfl, rfl, by decide +kernel, rfl, by decide +kernel, by decide +kernel⟩
theorem ok_lmoves {f : Addr} {fd : FuncData} {k : Nat} (F : Fun K "_law_moves" "_law_moves" sLMoves f fd) (T : Nm mg) (C_law_neighbors : Cal P w K mg base (k + 1) "_law_neighbors" pLNb spLNb) : FnOk P w K mg base CX0 (k + 2) f fd pLMoves spLMoves := by
  refine F.ok scLMoves (fun vs H Q E h => ?_) (fun cdv A outer s H vs Q E hr h => ?_)
  · obtain ⟨h, p, n, D, P, rfl, _⟩ := h
    rfl
  · obtain ⟨h, p, n, D, P, rfl, hH, hF, n1, hP, lP, q⟩ := h
    refine ⟨_, (pss_cons (ps_set (i := 2) scLMoves.nd rfl (.inr rfl) (pe_lc (own := [("_law_name", 3), ("_law_room", 4)]) (g := gTup K 2 (gCons (gName 3) (gCons (gName 4) gNil))) (by rfl) scLMoves.nd (pi_tup (pv 1))
 (blkOk_by (own := [("_law_name", 3), ("_law_room", 4)]) (N := nLMoves) (sc := defScope sLMoves) (by decide +kernel))
 (fun _ _ _ _ _ => (pg_tup (by rfl) (pgs_cons (pg_name (i := 3) scLMoves.nd rfl (.inl rfl)) (pgs_cons (pg_name (i := 4) scLMoves.nd rfl (.inl rfl)) pgs_nil)))) (fun _ _ _ _ _ => pts_nil) (fun _ _ _ _ _ => (pv 4))))
      (pss_cons (ps_set (i := 5) scLMoves.nd rfl (.inl rfl) (pe_lst pa_nil))
      (pss_cons (ps_for PassesOwn.never rfl (pi_tup (pv 1)) (pg_tup (by rfl) (pgs_cons (pg_name (i := 3) scLMoves.nd rfl (.inr rfl)) (pgs_cons (pg_name (i := 6) scLMoves.nd rfl (.inl rfl)) pgs_nil)))
      (pss_one (ps_expr (pe_bm PySem.F.plainAttrs_list PySem.F.slot_list_extend PySem.F.type_list_extend mt_extend (pv 5) (pa_cons (pe_lc (own := [("_law_there", 7)]) (g := gName 7) (by rfl) scLMoves.nd (pi_list (pe_cal C_law_neighbors hr (by rfl) (pa_cons (pv 0) (pa_cons (pv 6) pa_nil))))
 (blkOk_by (own := [("_law_there", 7)]) (N := nLMoves) (sc := defScope sLMoves) (by decide +kernel))
 (fun _ _ _ _ _ => (pg_name (i := 7) scLMoves.nd rfl (.inl rfl))) (fun _ _ _ _ _ => pts_one (pt_cmpR (op_inK K rfl) (pv 7) (pv 2) (by rfl))) (fun _ _ _ _ _ => (pe_tup (pa_cons (pv 3) (pa_cons (pv 7) pa_nil))))) pa_nil)))))
      (pss_one (ps_ret (pv 5)))))), ?_⟩
    refine ⟨_, rfl, p, rfl, hP.sq, fun L hL => lc_pl hP (fun i H1 => Same H H1 ∧ H1 L = some (.lst (vi ((P.take i).map (·.2))))) ⟨same_upd hL, upd_same⟩ (fun _ _ h => Tk.of h.1) ?_ ?_⟩
    · rintro k nm r H1 hk ⟨s1, e1⟩
      refine ⟨rfl, ?_⟩
      unfold tYes
      refine iteT ⟨_, rfl, _, e1, ?_, same_put s1 hL, ?_⟩
      · rw [List.length_map, List.length_map, List.length_take]
        exact small1000 (by omega)
      · rw [upd_same, rooms_snoc hk, vi_app]
        rfl
    rintro H1 ⟨s1, e1⟩
    rw [List.take_length] at e1
    refine ⟨Nat.zero_le _, fun R hR => ?_⟩
    have nLR : L ≠ R := ne_of_none e1 hR
    have gR := s1.free hR
    have sm := same_upd (o := .lst []) hR
    refine ⟨_, rfl, p, rfl, ((hP.same s1).same sm).sq, for_pl hP (fun i σ' H' => ∃ y3 y4 y6 y7, σ' = [some (.ref h), some (.ref p), some (.ref L), y3, y4, some (.ref R), y6, y7] ∧ Same H H' ∧ H' L = some (.lst (vi (P.map (·.2)))) ∧ LsAt H' R (mvs n D P (P.take i)))
      ⟨_, _, _, _, rfl, s1.trans sm, sm _ _ e1, .nil upd_same⟩ ?_ ?_ ?_⟩
    · rintro k σ' H' ⟨_, _, _, _, _, s', _⟩
      exact Tk.of s'
    · rintro k nm r σ' H2 hk ⟨y3, y4, y6, y7, rfl, s2, e2, x2⟩
      obtain ⟨xs2, er2, _⟩ := x2.tup
      refine ⟨_, rfl, .inl ⟨rfl, _, SqL.of er2⟩, _, rfl, _, rfl, h, n, D, r, rfl, hH.same s2, hF, fun H3 l s3 hl e3 => ?_⟩
      refine ⟨l, rfl, ⟨_, SqL.of e3⟩, fun M hM => lc_list (K := K) (a := l) (xs := vi (nb n D r)) (fun i H' => Same H3 H' ∧ LsAt H' M ((((nb n D r).take i).filter fun t => decide (t ∈ P.map (·.2))).map fun t => (nm, t)))
        ⟨same_upd hM, .nil upd_same⟩ (fun i H' _ hh => SqL.of (hh.1 _ _ e3)) ?_ ?_⟩
      · rintro i x H4 hx ⟨s4, x4⟩
        obtain ⟨t, ht, rfl⟩ := get_vi hx
        have e4 := (s3.trans s4) _ _ e2
        refine ⟨rfl, _, rfl, _, rfl, L, _, rfl, .inl (SqL.of e4), rfl, flat_vi _, _, rfl, ?_⟩
        have ef : (((nb n D r).take (i + 1)).filter fun t => decide (t ∈ P.map (·.2))).map (fun t => (nm, t)) = (((nb n D r).take i).filter fun t => decide (t ∈ P.map (·.2))).map (fun t => (nm, t)) ++ if t ∈ P.map (·.2) then [(nm, t)] else [] := by
          rw [take_snoc ht, filter_snoc, List.map_append]
          congr 1
          by_cases c : t ∈ P.map (·.2)
          · rw [if_pos c, if_pos (decide_eq_true c)]
            rfl
          · rw [if_neg c, if_neg (by simpa using c)]
            rfl
        rw [if_neg (by decide), inV_vi]
        refine ite2 (fun c => ?_) (fun c => ?_)
        · rw [if_pos (of_decide_eq_true c)] at ef
          refine ⟨_, rfl, _, rfl, by show 2 ≤ sizeLine; decide, fun u hu => ?_⟩
          have sm := same_upd (o := .tup [.str nm, .int t]) hu
          obtain ⟨acc, a1, a2, a3⟩ := (x4.same sm).snoc (t := u) upd_same
          refine ⟨acc, a1, ?_, same_put (s4.trans sm) hM, by rw [ef]; exact a3⟩
          rw [a2, List.length_map]
          have h1 := List.length_filter_le (fun t => decide (t ∈ P.map (·.2))) ((nb n D r).take i)
          have h2 := nb_len n D r
          rw [List.length_take] at h1
          exact small1000 (by omega)
        · rw [if_neg (fun z => c (decide_eq_true z)), List.append_nil] at ef
          rw [ef]
          exact ⟨s4, x4⟩
      · rintro H4 ⟨s4, x4⟩
        rw [List.length_map, List.take_length] at x4
        have s34 := s3.trans s4
        obtain ⟨xs, ys, a1, a2, a3, a4, a5⟩ := (x2.same s34).app x4
        refine ⟨R, M, _, _, rfl, rfl, a1, a2, ?_, ?_⟩
        · rw [a3, a4, List.length_map]
          have h1 := List.length_filter_le (fun t => decide (t ∈ P.map (·.2))) (nb n D r)
          have h2 := nb_len n D r
          have h3 := mvs_len n D P (P.take k) n1
          rw [List.length_take] at h3
          exact Nat.le_of_lt (small1000 (by omega))
        · refine ⟨_, _, _, _, rfl, same_put (s2.trans s34) gR, ?_, ?_⟩
          · rw [upd_ne nLR]
            exact s34 _ _ e2
          · rw [mvs_snoc hk]
            exact a5
    · rintro σ' H2 ⟨y3, y4, y6, y7, rfl, s2, e2, x2⟩
      rw [List.take_length] at x2
      exact ⟨_, rfl, q _ R s2 gR x2⟩
end
end Fw
namespace Fw
open PySem PySem.Spec PyProof.Rows L2
open RZ
/-- the same value, to a depth -/
inductive Eqs (H : Hp) : Nat → V → V → Prop
  | non (k : Nat) : Eqs H k .non .non
  | int (k : Nat) (i : Int) : Eqs H k (.int i) (.int i)
  | bl (k : Nat) (b : Bool) : Eqs H k (.bl b) (.bl b)
  | str (k : Nat) (z : Str) : Eqs H k (.str z) (.str z)
  | tup {k : Nat} {a b : Addr} {xs ys : List V} : TpAt H a xs → TpAt H b ys → xs.length = ys.length → xs.length ≤ 500 → (∀ (i : Nat) x y, xs[i]? = some x → ys[i]? = some y → Eqs H k x y) → Eqs H (k + 1) (.ref a) (.ref b)
theorem Eqs.same {H H' : Hp} {k : Nat} {x y : V} (h : Eqs H k x y) (e : Same H H') : Eqs H' k x y := by
  induction h with
  | non k => exact .non k
  | int k i => exact .int k i
  | bl k i => exact .bl k i
  | str k i => exact .str k i
  | tup h1 h2 h3 h4 _ ih => exact .tup (h1.same e) (h2.same e) h3 h4 ih
theorem Eqs.ints {H : Hp} {k : Nat} {a b : Addr} {ns : List Int} (h1 : H a = some (.tup (vi ns))) (h2 : H b = some (.tup (vi ns))) (hl : ns.length ≤ 500) : Eqs H (k + 1) (.ref a) (.ref b) :=
  .tup (.inl h1) (.inl h2) rfl (by rw [List.length_map]; exact hl) fun i x y hx hy => by
    obtain ⟨v, _, rfl⟩ := get_vi hx
    rw [hx] at hy
    cases hy
    exact .int _ v
theorem Eqs.strs {H : Hp} {k : Nat} {a b : Addr} {ns : List Str} (h1 : H a = some (.tup (ns.map V.str))) (h2 : H b = some (.tup (ns.map V.str))) (hl : ns.length ≤ 500) : Eqs H (k + 1) (.ref a) (.ref b) :=
  .tup (.inl h1) (.inl h2) rfl (by rw [List.length_map]; exact hl) fun i x y hx hy => by
    obtain ⟨v, _, rfl⟩ := get_vs hx
    rw [hx] at hy
    cases hy
    exact .str _ v
theorem Eqs.pl {H : Hp} {k : Nat} {a b : Addr} {P : List (Str × Int)} (h1 : PlAt H a P) (h2 : PlAt H b P) (hl : P.length ≤ 500) : Eqs H (k + 2) (.ref a) (.ref b) := by
  obtain ⟨ps, e1, e2, e3⟩ := h1
  obtain ⟨qs, f1, f2, f3⟩ := h2
  have el : ps.length = qs.length := by
    have := congrArg List.length (e2.symm.trans f2)
    rw [List.length_map, List.length_map] at this
    exact this
  refine .tup e1 f1 (by rw [List.length_map, List.length_map, el]) (by rw [List.length_map]; rw [e2, List.length_map] at hl; exact hl) fun i x y hx hy => ?_
  rw [List.getElem?_map] at hx hy
  cases u : ps[i]? with
  | none => rw [u] at hx; cases hx
  | some p =>
    cases v : qs[i]? with
    | none => rw [v] at hy; cases hy
    | some q =>
      rw [u] at hx
      rw [v] at hy
      cases hx
      cases hy
      have e : p.2 = q.2 := by
        have h1 : P[i]? = some p.2 := by rw [e2, List.getElem?_map, u]; rfl
        have h2 : P[i]? = some q.2 := by rw [f2, List.getElem?_map, v]; rfl
        rw [h1] at h2
        exact Option.some.inj h2
      have g1 := e3 p (List.mem_of_getElem? u)
      have g2 := f3 q (List.mem_of_getElem? v)
      rw [← e] at g2
      refine .tup (.inl g1) (.inl g2) rfl (by show 2 ≤ 500; decide) fun j x y hx hy => ?_
      rw [hx] at hy
      cases hy
      match j, hx with
      | 0, hx => cases hx; exact .str _ _
      | 1, hx => cases hx; exact .int _ _
/-- how a zip of two tuples of one length walks -/
theorem both_walk {K : PySem.W.Frag} {a b : Addr} {xs ys : List V} (same : ys.length = xs.length) : Walk (ItzT K a b) xs.length (fun H => SqT K H a xs ∧ SqT K H b ys) (YPair (fun i => xs[i]?) fun i => ys[i]?) where
  goes i H lt q := ⟨_, _, _, _, q.1, q.2, List.getElem?_eq_getElem lt, List.getElem?_eq_getElem (same ▸ lt)⟩
  stops H q := ⟨_, _, q.1, q.2, .inl (Nat.le_refl _)⟩
  yields i H v H' _ q y := by
    obtain ⟨t, x, z, e1, e2, e3, e4, e5⟩ := y
    exact ⟨t, x, z, e1, e2, e3, e4 _ q.1, e5 _ q.2⟩

section
variable {P : Program} {w : World} {K : PySem.W.Frag} {mg : Str → Option Value} {base : Heap}
theorem tp_tyS {K : PySem.W.Frag} {H : Hp} {p : Addr} {xs : List V} (h : TpAt H p xs) : TyX K H (.ref p) (.type "tuple") := h.elim (fun h => .base (.tup h)) fun ⟨_, _, h⟩ => .fTuple h
theorem k_it : kitB "int" "tuple" = some false := by decide +kernel
theorem k_ib : kitB "int" "bool" = some false := by decide +kernel
theorem k_ii : kitB "int" "int" = some true := by decide +kernel
theorem k_nt : kitB "NoneType" "tuple" = some false := by decide +kernel
theorem k_tt : kitB "tuple" "tuple" = some true := by decide +kernel
theorem k_bt : kitB "bool" "tuple" = some false := by decide +kernel
theorem k_bb : kitB "bool" "bool" = some true := by decide +kernel
theorem k_st : kitB "str" "tuple" = some false := by decide +kernel
theorem k_sb : kitB "str" "bool" = some false := by decide +kernel
theorem k_si : kitB "str" "int" = some false := by decide +kernel
theorem k_ss2 : kitB "str" "str" = some true := by decide +kernel
end
end Fw
namespace Fw
open PySem PySem.Spec PyProof.Rows L2
/-- data that can be shown -/
structure Sw (b : Nat) (d : PyData) : Prop where
  s : d.showable = true
  n : d.hasDict = false
  p : d.depth ≤ 10
  l : d.leavesShort 13 = true
  k : d.bulk ≤ b
theorem Sw.shows {b : Nat} {d : PyData} (h : Sw b d) (hb : b ≤ 2 ^ 20) : Shows d := ⟨h.s, h.n, Nat.le_trans h.p (by decide), PyData.shown_fits_bulk (B := 13) (by decide) (by decide) h.l (Nat.le_trans h.k hb)⟩
def pp (x : Str × Int) : PyData := .tuple [.str x.1, .int x.2]
def pld (P : List (Str × Int)) : PyData := .tuple (P.map pp)
theorem pps_all {P : List (Str × Int)} (h : ∀ x ∈ P, Nam x.1 ∧ 0 ≤ x.2 ∧ x.2 ≤ 100) : PyData.showableAll (P.map pp) = true ∧ PyData.hasDictAll (P.map pp) = false ∧ PyData.depthAll (P.map pp) ≤ 1 ∧ PyData.leavesShortAll 13 (P.map pp) = true ∧ PyData.bulkAll (P.map pp) ≤ 20 * P.length := by
  induction P with
  | nil => simp [PyData.showableAll, PyData.hasDictAll, PyData.depthAll, PyData.leavesShortAll, PyData.bulkAll]
  | cons x P ih =>
    obtain ⟨i1, i2, i3, i4, i5⟩ := ih fun y hy => h y (List.mem_cons_of_mem _ hy)
    obtain ⟨hn, a0, a1⟩ := h x (List.mem_cons_self ..)
    have s1 := PyData.shown_int_le2 (i := x.2) (by omega) (by omega)
    have sz : x.1.cps.size ≤ 8 := hn.2.1
    have al : (x.1.cps.toList.all fun c => decide (c < 16 ^ 8)) = true := by
      rw [List.all_eq_true]
      intro c hc
      have := hn.2.2 c hc
      exact decide_eq_true (by omega)
    rw [List.map_cons]
    refine ⟨?_, ?_, ?_, ?_, ?_⟩
    · simp only [pp, PyData.showableAll, PyData.showable, i1, Bool.and_true]
      rw [decide_eq_true (log_small a0 a1)]
      rfl
    · simp only [pp, PyData.hasDictAll, PyData.hasDict, i2, Bool.or_false]
    · simp only [pp, PyData.depthAll, PyData.depth]
      omega
    · simp only [pp, PyData.leavesShortAll, PyData.leavesShort, i4, Bool.and_true]
      rw [decide_eq_true s1, al]
      rfl
    · simp only [pp, PyData.bulkAll, PyData.bulk, List.length_cons]
      omega
theorem pld_sw {P : List (Str × Int)} (h : ∀ x ∈ P, Nam x.1 ∧ 0 ≤ x.2 ∧ x.2 ≤ 100) : Sw (20 * P.length) (pld P) := by
  obtain ⟨i1, i2, i3, i4, i5⟩ := pps_all h
  exact ⟨by simp only [pld, PyData.showable, i1], by simp only [pld, PyData.hasDict, i2], by simp only [pld, PyData.depth]; omega, by simp only [pld, PyData.leavesShort, i4], by simp only [pld, PyData.bulk]; exact i5⟩
theorem Pl.sw {n : Int} {P : List (Str × Int)} (h : Pl n P) (hn : n ≤ 8) (lP : P.length ≤ 100) : Sw 2000 (pld P) := by
  have := pld_sw (P := P) fun x hx => ⟨h.nm.nam _ (List.mem_map_of_mem (f := (·.1)) hx), (h.rm x hx).1, by have := (h.rm x hx).2; omega⟩
  exact ⟨this.s, this.n, this.p, this.l, Nat.le_trans this.k (by omega)⟩
theorem hd_sw {n : Int} {D : List (Int × Int)} (f : Forest n D) (n0 : 0 ≤ n) (n1 : n ≤ 8) : Sw 100 (hd n D) := by
  have h : ∀ d ∈ D, 0 ≤ d.1 ∧ d.1 ≤ 100 ∧ 0 ≤ d.2 ∧ d.2 ≤ 100 := fun d hd => by
    have := f.ends (a := d.1) (b := d.2) hd
    omega
  have hl : D.length ≤ 8 := f.len
  obtain ⟨i1, i2⟩ := pds_show h
  have s1 := PyData.shown_int_le2 (i := n) (by omega) (by omega)
  have dp := pd_deep D
  refine ⟨?_, ?_, ?_, ?_, ?_⟩
  · simp only [hd, PyData.showable, PyData.showableAll, Bool.and_true, i1]
    rw [decide_eq_true (log_small n0 (by omega))]
  · simp only [hd, PyData.hasDict, PyData.hasDictAll, Bool.or_false, Bool.false_or]
    exact pds_nodict D
  · simp only [hd, PyData.depth, PyData.depthAll]
    omega
  · simp only [hd, PyData.leavesShort, PyData.leavesShortAll, Bool.and_true, i2]
    rw [decide_eq_true s1]
  · simp only [hd, PyData.bulk, PyData.bulkAll, pds_bulk]
    omega
theorem sw2 {b c : Nat} {d e : PyData} (x : Sw b d) (y : Sw c e) (h1 : d.depth ≤ 8) (h2 : e.depth ≤ 8) : Sw (b + c + 2) (.list [d, e]) := by
  refine ⟨?_, ?_, ?_, ?_, ?_⟩
  · simp only [PyData.showable, PyData.showableAll, x.s, y.s, Bool.and_true]
  · simp only [PyData.hasDict, PyData.hasDictAll, x.n, y.n, Bool.or_false]
  · simp only [PyData.depth, PyData.depthAll]
    omega
  · simp only [PyData.leavesShort, PyData.leavesShortAll, x.l, y.l, Bool.and_true]
  · simp only [PyData.bulk, PyData.bulkAll]
    have := x.k
    have := y.k
    omega
theorem sw3 {a b c : Nat} {d e f : PyData} (x : Sw a d) (y : Sw b e) (z : Sw c f) (h1 : d.depth ≤ 8) (h2 : e.depth ≤ 8) (h3 : f.depth ≤ 8) : Sw (a + b + c + 3) (.list [d, e, f]) := by
  refine ⟨?_, ?_, ?_, ?_, ?_⟩
  · simp only [PyData.showable, PyData.showableAll, x.s, y.s, z.s, Bool.and_true]
  · simp only [PyData.hasDict, PyData.hasDictAll, x.n, y.n, z.n, Bool.or_false]
  · simp only [PyData.depth, PyData.depthAll]
    omega
  · simp only [PyData.leavesShort, PyData.leavesShortAll, x.l, y.l, z.l, Bool.and_true]
  · simp only [PyData.bulk, PyData.bulkAll]
    have := x.k
    have := y.k
    have := z.k
    omega
theorem hd_deep (n : Int) (D : List (Int × Int)) : (hd n D).depth ≤ 8 := by
  have dp := pd_deep D
  simp only [hd, PyData.depth, PyData.depthAll]
  omega
theorem pps_deep (P : List (Str × Int)) : PyData.depthAll (P.map pp) ≤ 1 := by
  induction P with
  | nil => simp [PyData.depthAll]
  | cons x P ih =>
    rw [List.map_cons]
    simp only [pp, PyData.depthAll, PyData.depth]
    omega
theorem pld_deep (P : List (Str × Int)) : (pld P).depth ≤ 8 := by
  have := pps_deep P
  simp only [pld, PyData.depth]
  omega
theorem dp_pps {K : PySem.W.Frag} {H : Hp} : ∀ {ps : List (Addr × Str × Int)}, (∀ p ∈ ps, H p.1 = some (.tup [.str p.2.1, .int p.2.2])) → DpAll K H (ps.map fun p => V.ref p.1) ((ps.map (·.2)).map pp)
  | [], _ => .nil
  | p :: ps, h => .cons (.tup (SqT.of (h p (List.mem_cons_self ..))) (.cons (.str _) (.cons (.int _) .nil))) (dp_pps fun q hq => h q (List.mem_cons_of_mem _ hq))
theorem PlAt.dp {K : PySem.W.Frag} {H : Hp} {p : Addr} {P : List (Str × Int)} (x : PlAt H p P) : Dp K H (.ref p) (pld P) := by
  obtain ⟨ps, h1, h2, h3⟩ := x
  rw [h2]
  exact .tup h1.sq (dp_pps h3)
theorem sw2T {b c : Nat} {d e : PyData} (x : Sw b d) (y : Sw c e) (h1 : d.depth ≤ 8) (h2 : e.depth ≤ 8) : Sw (b + c + 2) (.tuple [d, e]) := by
  refine ⟨?_, ?_, ?_, ?_, ?_⟩
  · simp only [PyData.showable, PyData.showableAll, x.s, y.s, Bool.and_true]
  · simp only [PyData.hasDict, PyData.hasDictAll, x.n, y.n, Bool.or_false]
  · simp only [PyData.depth, PyData.depthAll]
    omega
  · simp only [PyData.leavesShort, PyData.leavesShortAll, x.l, y.l, Bool.and_true]
  · simp only [PyData.bulk, PyData.bulkAll]
    have := x.k
    have := y.k
    omega
/-- (house, placement) -/
def hpT (n : Int) (D : List (Int × Int)) (P : List (Str × Int)) : PyData := .tuple [hd n D, pld P]
theorem hpT_shows {n : Int} {D : List (Int × Int)} {P : List (Str × Int)} (f : Forest n D) (n0 : 0 ≤ n) (n1 : n ≤ 8) (h : Pl n P) (lP : P.length ≤ 100) : Shows (hpT n D P) :=
  (sw2T (hd_sw f n0 n1) (h.sw n1 lP) (hd_deep _ _) (pld_deep _)).shows (by decide)
theorem hpT_dp {K : PySem.W.Frag} {H : Hp} {l h p : Addr} {n : Int} {D : List (Int × Int)} {P : List (Str × Int)} (e : H l = some (.tup [.ref h, .ref p])) (x : HouseAt H h n D) (y : PlAt H p P) : Dp K H (.ref l) (hpT n D P) :=
  .tup (SqT.of e) (.cons x.dp (.cons y.dp .nil))
/-- [house, placement] -/
def hpd (n : Int) (D : List (Int × Int)) (P : List (Str × Int)) : PyData := .list [hd n D, pld P]
theorem hp_shows {n : Int} {D : List (Int × Int)} {P : List (Str × Int)} (f : Forest n D) (n0 : 0 ≤ n) (n1 : n ≤ 8) (h : Pl n P) (lP : P.length ≤ 100) : Shows (hpd n D P) :=
  (sw2 (hd_sw f n0 n1) (h.sw n1 lP) (hd_deep _ _) (pld_deep _)).shows (by decide)
theorem hp_dp {K : PySem.W.Frag} {H : Hp} {l h p : Addr} {n : Int} {D : List (Int × Int)} {P : List (Str × Int)} (e : H l = some (.lst [.ref h, .ref p])) (x : HouseAt H h n D) (y : PlAt H p P) : Dp K H (.ref l) (hpd n D P) :=
  .lst (SqL.of e) (.cons x.dp (.cons y.dp .nil))
theorem pps_lay : ∀ {X : List (Str × Int)}, (∀ x ∈ X, Nam x.1) → PyData.canLayAll0 (X.map pp) = true
  | [], _ => by simp [PyData.canLayAll0]
  | x :: X, h => by
    rw [List.map_cons, PyData.canLayAll0, pps_lay fun y hy => h y (List.mem_cons_of_mem _ hy)]
    simp [pp, PyData.canLay0, PyData.canLayAll0, nam_ok (h x (List.mem_cons_self ..))]
theorem pps_shapedL {X : List (Str × Int)} (h : ∀ x ∈ X, Nam x.1) : SeqAt.shaped (.list (X.map pp)) = true := by
  unfold SeqAt.shaped
  rw [PyData.canLay0, pps_lay h, PyData.depth]
  have := pps_deep X
  simp
  omega
theorem pld_shaped {X : List (Str × Int)} (h : ∀ x ∈ X, Nam x.1) : SeqAt.shaped (pld X) = true := by
  unfold SeqAt.shaped pld
  rw [PyData.canLay0, pps_lay h, PyData.depth]
  have := pps_deep X
  simp
  omega
theorem Pl.nams {n : Int} {P : List (Str × Int)} (h : Pl n P) : ∀ x ∈ P, Nam x.1 := fun x hx => h.nm.nam _ (List.mem_map_of_mem (f := (·.1)) hx)
theorem eqv_nilP (X : List (Str × Int)) : PyData.eqv (.list (X.map pp)) (.list []) = X.isEmpty := by
  rw [PyData.eqv]
  cases X with
  | nil => rw [List.map_nil, PyData.eqvAll]; rfl
  | cons n ns => rw [List.map_cons, PyData.eqvAll]; rfl
/-- [house, placement, target] -/
def hptd (n : Int) (D : List (Int × Int)) (P G : List (Str × Int)) : PyData := .list [hd n D, pld P, pld G]
theorem hpt_shows {n : Int} {D : List (Int × Int)} {P G : List (Str × Int)} (f : Forest n D) (n0 : 0 ≤ n) (n1 : n ≤ 8) (h : Pl n P) (lP : P.length ≤ 100) (k : Pl n G) (lG : G.length ≤ 100) : Shows (hptd n D P G) :=
  (sw3 (hd_sw f n0 n1) (h.sw n1 lP) (k.sw n1 lG) (hd_deep _ _) (pld_deep _) (pld_deep _)).shows (by decide)
theorem hpt_dp {K : PySem.W.Frag} {H : Hp} {l h p g : Addr} {n : Int} {D : List (Int × Int)} {P G : List (Str × Int)} (e : H l = some (.lst [.ref h, .ref p, .ref g])) (x : HouseAt H h n D) (y : PlAt H p P) (z : PlAt H g G) : Dp K H (.ref l) (hptd n D P G) :=
  .lst (SqL.of e) (.cons x.dp (.cons y.dp (.cons z.dp .nil)))
end Fw
namespace Fw
open PySem PySem.Spec PyProof.Rows L2
/-! ### dicts by names -/
def dk (F : List (Str × V)) : List (Key × V) := F.map fun x => (Sum.inr x.1, x.2)
theorem valV_none {F : List (Str × V)} {nm : Str} (h : nm ∉ F.map (·.1)) : valV (dk F) (Sum.inr nm) = none := by
  induction F with
  | nil => rfl
  | cons x F ih =>
    rw [List.map_cons, List.mem_cons, not_or] at h
    show valV ((Sum.inr x.1, x.2) :: dk F) _ = none
    rw [valV_neg (fun e => h.1 (Sum.inr.inj e).symm)]
    exact ih h.2
theorem valV_dk {F : List (Str × V)} (nd : (F.map (·.1)).Nodup) {nm : Str} {v : V} (h : (nm, v) ∈ F) : valV (dk F) (Sum.inr nm) = some v := by
  induction F with
  | nil => cases h
  | cons x F ih =>
    rw [List.map_cons, List.nodup_cons] at nd
    rcases List.mem_cons.mp h with e | m
    · subst e
      exact valV_pos rfl
    · show valV ((Sum.inr x.1, x.2) :: dk F) _ = _
      rw [valV_neg (fun e => nd.1 (by rw [Sum.inr.inj e]; exact List.mem_map_of_mem (f := (·.1)) m))]
      exact ih nd.2 m
theorem merge_app : ∀ {F G : List (Str × V)}, ((F ++ G).map (·.1)).Nodup → mergeK (dk F) (dk G) = dk (F ++ G)
  | F, [], _ => by rw [List.append_nil]; rfl
  | F, x :: G, nd => by
    have n1 : x.1 ∉ F.map (·.1) := fun m => by
      rw [List.map_append, List.map_cons, List.nodup_append] at nd
      exact nd.2.2 x.1 m x.1 (List.mem_cons_self ..) rfl
    show mergeK (putK (dk F) (Sum.inr x.1) x.2) (dk G) = _
    rw [putK_new _ (valV_none n1)]
    have e : dk F ++ [(Sum.inr x.1, x.2)] = dk (F ++ [x]) := by unfold dk; rw [List.map_append]; rfl
    rw [e, merge_app (by rw [List.append_assoc]; exact nd), List.append_assoc]
    rfl
theorem merge_dk {F : List (Str × V)} (nd : (F.map (·.1)).Nodup) : mergeK [] (dk F) = dk F := merge_app (F := []) nd
theorem dk_keys (F : List (Str × V)) : (dk F).map (·.1) = (F.map (·.1)).map Sum.inr := by
  unfold dk
  rw [List.map_map, List.map_map]
  rfl
theorem dk_len (F : List (Str × V)) : (dk F).length = F.length := by unfold dk; rw [List.length_map]
/-- dict(list of pairs) -/
theorem call_dictK {X : Cx} (K : PySem.W.Frag) (h : X.K = K) (hc : X.calm = true) : CallR X (.type "dict") (fun xs H Q => ∃ (a : Addr) (ps : List Addr) (kvs : List (Key × V)), xs = [.ref a] ∧ SqL K H a (ps.map V.ref) ∧ Paired (fun p kv => SqT K H p [kV kv.1, kv.2]) ps kvs ∧
    ∀ p, H p = none → Q (.ref p) (upd H p (.dK (mergeK [] kvs)))) := by subst h; exact call_dictP hc
theorem paired_of {K : PySem.W.Frag} {H : Hp} : ∀ {ps : List (Addr × Str × V)}, (∀ q ∈ ps, H q.1 = some (.tup [.str q.2.1, q.2.2])) → Paired (fun p kv => SqT K H p [kV kv.1, kv.2]) (ps.map (·.1)) (dk (ps.map (·.2)))
  | [], _ => .nil
  | p :: ps, h => .cons (SqT.of (h p (List.mem_cons_self ..))) (paired_of fun q hq => h q (List.mem_cons_of_mem _ hq))
theorem eqv_nilT (X : List (Str × Int)) : PyData.eqv (pld X) (.tuple []) = X.isEmpty := by
  unfold pld
  rw [PyData.eqv]
  cases X with
  | nil => rw [List.map_nil, PyData.eqvAll]; rfl
  | cons n ns => rw [List.map_cons, PyData.eqvAll]; rfl
theorem PlAt.at {K : PySem.W.Frag} {H : Hp} {l : Addr} {X : List (Str × Int)} (x : PlAt H l X) {r : Int} (h0 : 0 ≤ r) (h1 : r < (X.length : Nat)) : ∃ xs t nm v, SqT K H l xs ∧ atI xs r = some (.ref t) ∧ H t = some (.tup [.str nm, .int v]) ∧ (nm, v) ∈ X := by
  obtain ⟨ps, e1, e2, e3⟩ := x
  have hj : r.toNat < ps.length := by rw [e2, List.length_map] at h1; omega
  have hm := List.getElem_mem hj
  refine ⟨_, ps[r.toNat].1, ps[r.toNat].2.1, ps[r.toNat].2.2, e1.sq, ?_, e3 _ hm, by rw [e2]; exact List.mem_map_of_mem (f := (·.2)) hm⟩
  have := atI_nat (xs := ps.map fun q => V.ref q.1) (j := r.toNat) (v := V.ref ps[r.toNat].1) (by rw [List.getElem?_map, List.getElem?_eq_getElem hj]; rfl)
  rw [show ((r.toNat : Nat) : Int) = r by omega] at this
  exact this
theorem PlAt.sq' {K : PySem.W.Frag} {H : Hp} {l : Addr} {X : List (Str × Int)} (x : PlAt H l X) : ∃ xs, SqT K H l xs ∧ xs.length = X.length := by
  obtain ⟨ps, h1, h2, _⟩ := x
  exact ⟨_, h1.sq, by rw [h2, List.length_map, List.length_map]⟩
/-! ### dict(placement) -/
def dkI (P : List (Str × Int)) : List (Key × V) := dk (P.map fun x => (x.1, V.int x.2))
theorem dkI_keys (P : List (Str × Int)) : (P.map fun x => (x.1, V.int x.2)).map (·.1) = P.map (·.1) := by
  rw [List.map_map]
  rfl
theorem valV_dkI {P : List (Str × Int)} (nd : (P.map (·.1)).Nodup) {nm : Str} {r : Int} (h : (nm, r) ∈ P) : valV (dkI P) (Sum.inr nm) = some (.int r) :=
  valV_dk (by rw [dkI_keys]; exact nd) (List.mem_map.mpr ⟨(nm, r), h, rfl⟩)
theorem valV_dkI_none {P : List (Str × Int)} {nm : Str} (h : nm ∉ P.map (·.1)) : valV (dkI P) (Sum.inr nm) = none := valV_none (by rw [dkI_keys]; exact h)
theorem pairs_in {X : Cx} {pins : List (Addr × Obj)} {σ : L2.St} {H : Hp} {s : Shared} (I : Inv X pins σ H s) : ∀ {ps : List (Addr × Str × Int)}, (∀ q ∈ ps, H q.1 = some (.tup [.str q.2.1, .int q.2.2])) →
    ∃ (vs : List (Value × Value)) (kv : List (Key × Value)), vs.length = ps.length ∧ KV (dkI (ps.map (·.2))) kv ∧ kv.length = ps.length ∧
      ∀ (j : Nat) (u v : Value), vs[j]? = some (u, v) → ∃ q k, ps[j]? = some q ∧ PairAt s.heap q.1 u v ∧ kv[j]? = some (k, v) ∧ (mixKind X.prog X.w).is k u = true
  | [], _ => ⟨[], [], rfl, .nil, rfl, fun j u v e => by cases e⟩
  | p :: ps, h => by
    obtain ⟨vs, kv, l1, rel, l2, f⟩ := pairs_in I fun q hq => h q (List.mem_cons_of_mem _ hq)
    obtain ⟨its, rv, ht, _⟩ := I.tuple (SqT.of (h p (List.mem_cons_self ..)))
    obtain ⟨u, y, ei, ru, ry⟩ := vals2 rv
    subst ei
    refine ⟨(u, y) :: vs, (Sum.inr p.2.1, y) :: kv, by rw [List.length_cons, List.length_cons, l1], .cons ⟨rfl, ry⟩ rel, by rw [List.length_cons, List.length_cons, l2], fun j u' v' e => ?_⟩
    cases j with
    | zero =>
      cases e
      exact ⟨p, _, rfl, .inl ht, rfl, kV_is (P := X.prog) (w := X.w) (k := Sum.inr p.2.1) ru⟩
    | succ j => exact f j u' v' (by simpa using e)
theorem call_dictT {X : Cx} (hcalm : X.calm = true) : CallR X (.type "dict") (fun xs H Q => ∃ (a : Addr) (P : List (Str × Int)), xs = [.ref a] ∧ PlD H a P ∧ (P.map (·.1)).Nodup ∧ P.length ≤ 1000 ∧ ∀ p, H p = none → Q (.ref p) (upd H p (.dK (dkI P)))) := by
  intro pins s σ H xs us Q I r q
  obtain ⟨a, P, rfl, ⟨ps, ob, od, hp, eP, hps⟩, nd, lP, q⟩ := q
  obtain ⟨u, rfl, ru⟩ := vals1 r
  obtain rfl : u = Value.ref a := ru
  obtain ⟨ho, hz, its, rel, ⟨o2, ho2, hc2, n2, hd2⟩⟩ := (show ObjOk X.prog X.w H s.heap a (.frz ob (.tup (ps.map fun q => V.ref q.1))) from I.hok a _ hp)
  have e2 : o2 = ob := by
    rw [ho] at ho2
    exact (Option.some.inj ho2).symm
  subst e2
  have ei : its = (ps.map (·.1)).map Value.ref := refs_at (by rw [List.map_map]; exact rel)
  obtain ⟨vs, kv, l1, rk, l2, f⟩ := pairs_in I hps
  have lp : ps.length = P.length := by rw [eP, List.length_map]
  have hlen : (dkI P).length ≤ sizeLine := by
    unfold dkI
    rw [dk_len, List.length_map]
    exact Nat.le_of_lt (small1000 lP)
  have hsz : vs.length ≤ sizeLine := by
    rw [l1, lp]
    exact Nat.le_of_lt (small1000 lP)
  refine PySem.call_dict_pairs (knd := mixKind X.prog X.w) (kvs := kv) (PairArg.tuple a its.toArray (fun j => (ps.map (·.1)).getD j 0) vs) (I.ok.hd hcalm) ⟨⟨o2, n2, ho, hc2, od, hd2⟩, ?_, fun j k v e => ?_⟩ ⟨by rw [l2, l1], fun j key v e => ?_⟩ hsz fun h' tk hd' k => ?_
  · rw [ei, List.size_toArray, List.length_map, List.length_map, l1]
  · obtain ⟨q', k', hq, hpa, _, _⟩ := f j k v e
    have hg : (ps.map (·.1))[j]? = some q'.1 := by rw [List.getElem?_map, hq]; rfl
    have hT : (ps.map (·.1)).getD j 0 = q'.1 := by rw [List.getD_eq_getElem?_getD, hg]; rfl
    show its.toArray[j]? = some (Value.ref ((ps.map (·.1)).getD j 0)) ∧ PairAt s.heap ((ps.map (·.1)).getD j 0) k v
    rw [hT]
    refine ⟨?_, hpa⟩
    rw [ei, List.getElem?_toArray, List.getElem?_map, hg]
    rfl
  · obtain ⟨q', k', _, _, hk, hi⟩ := f j key v e
    exact ⟨k', hk, hi⟩
  · have hm : (s.heap.objs.size == sysModules) = false := beq_eq_false_iff_ne.mpr (Nat.ne_of_gt I.big)
    have em : mergeK [] (dkI P) = dkI P := merge_dk (by rw [dkI_keys]; exact nd)
    have rk' : KV (dkI P) (merged [] kv) := by
      have := KV.merge (kvs := []) (vs := []) rk .nil
      rw [← eP, em] at this
      exact this
    exact ⟨.ref s.heap.objs.size, upd H s.heap.objs.size (.dK (dkI P)), I.laid (t' := tk) (fun b o e => k b o List.not_mem_nil e) (Nat.le_refl _) (show ObjOk X.prog X.w _ _ _ (.dK (dkI P)) from ⟨hlen, hm, merged [] kv, rk', hd'⟩), rfl, q _ (I.hok.fresh (Nat.le_refl _))⟩
end Fw
namespace Fw
open PySem PySem.Spec PyProof.Rows L2

/-- possible moves, one after another -/
inductive Wlk (n : Int) (D : List (Int × Int)) (P : List (Str × Int)) : List (Str × Int) → List (Str × Int) → Prop
  | nil : Wlk n D P [] P
  | snoc {ms P1 : List (Str × Int)} {nm : Str} {t : Int} : Wlk n D P ms P1 → (nm, t) ∈ mvs n D P1 P1 → Wlk n D P (ms ++ [(nm, t)]) (mvd P1 nm t)
theorem Wlk.keep {n : Int} {D : List (Int × Int)} {P ms P' : List (Str × Int)} (w : Wlk n D P ms P') (pl : Pl n P) : Pl n P' ∧ P'.length = P.length ∧ P'.map (·.1) = P.map (·.1) ∧ (∀ r, r ∈ P'.map (·.2) → r ∈ P.map (·.2)) ∧ ∀ x ∈ ms, Nam x.1 ∧ 0 ≤ x.2 ∧ x.2 < n := by
  induction w with
  | nil => exact ⟨pl, rfl, rfl, fun r hr => hr, fun x hx => absurd hx List.not_mem_nil⟩
  | @snoc ms P1 nm t w hm ih =>
    obtain ⟨i1, i2, i3, i4, i5⟩ := ih
    obtain ⟨c, hc, hr1, hr2⟩ := mvs_mem hm
    obtain ⟨y, hy, ey⟩ := List.mem_map.mp hr2
    have rr : 0 ≤ t ∧ t < n := by rw [← ey]; exact i1.rm y hy
    have nn : Nam nm := i1.nm.nam nm (List.mem_map.mpr ⟨(nm, c), hc, rfl⟩)
    refine ⟨i1.mvd rr.1 rr.2, by rw [mvd_len]; exact i2, by rw [mvd_names]; exact i3, fun r hr => i4 r ?_, fun x hx => ?_⟩
    · obtain ⟨z, hz, rfl⟩ := List.mem_map.mp hr
      obtain ⟨z', hz', rfl⟩ := List.mem_map.mp hz
      show (if z'.1 = nm then t else z'.2) ∈ _
      split
      · exact hr2
      · exact List.mem_map_of_mem (f := (·.2)) hz'
    · rcases List.mem_append.mp hx with hx | hx
      · exact i5 x hx
      · rw [List.mem_singleton.mp hx]
        exact ⟨nn, rr⟩
theorem LsAt.dp {K : PySem.W.Frag} {H : Hp} {l : Addr} {X : List (Str × Int)} (x : LsAt H l X) : Dp K H (.ref l) (.list (X.map pp)) := by
  obtain ⟨ps, h1, h2, h3⟩ := x
  rw [h2]
  exact .lst (SqL.of h1) (dp_pps h3)
theorem mvs_nams {n : Int} {D : List (Int × Int)} {P : List (Str × Int)} (pl : Pl n P) : ∀ x ∈ mvs n D P P, Nam x.1 := fun x hx => by
  obtain ⟨c, hc, _⟩ := mvs_mem (nm := x.1) (t := x.2) hx
  exact pl.nams (x.1, c) hc
section
variable {P : Program} {w : World} {K : PySem.W.Frag} {mg : Str → Option Value} {base : Heap}

def spLWalk : Sp := fun vs H Q _ => ∃ (s A B h p : Addr) (c : Nat) (n : Int) (D : List (Int × Int)) (P : List (Str × Int)) (m : Int), vs = [.ref s, .ref h, .ref p, .int m] ∧ StreamAt H s A B c ∧ c < 2 ^ 30 ∧ HouseAt H h n D ∧ Forest n D ∧ n ≤ 8 ∧ PlD H p P ∧ Pl n P ∧ P.length ≤ 12 ∧ 0 ≤ m ∧ m ≤ 50 ∧
  ∀ H' l t p' ms P', StreamAt H' s A B (c + m.toNat) → Fr s A H H' → H' l = some (.lst [.ref t, .ref p']) → PlD H' t ms → PlD H' p' P' → Wlk n D P ms P' → ms.length ≤ m.toNat → Q (.ref l) H'
abbrev nLWalk : List Str := ["_law_stream_here", "_law_house_here", "_law_placement_here", "_law_many", "_law_done", "_law_k", "_law_some"]
theorem scLWalk : FnScope nLWalk ["_law_stream_here", "_law_house_here", "_law_placement_here", "_law_many"] (defScope sLWalk) := ⟨rfl, rfl, rfl, by decide +kernel, rfl, by decide +kernel, by decide +kernel⟩
theorem ok_lwalk {f : Addr} {fd : FuncData} (F : Fun K "_law_random_walk" "_law_random_walk" sLWalk f fd) (T : Nm mg) (C_law_draw : Cal P w K mg base 2 "_law_draw" pDraw spDraw) (C_law_moves : Cal P w K mg base 2 "_law_moves" pLMoves spLMoves) (C_law_moved : Cal P w K mg base 2 "_law_moved" pLMoved spLMoved) : FnOk P w K mg base CX0 3 f fd pLWalk spLWalk := by
  refine F.ok scLWalk (fun vs H Q E h => ?_) (fun cdv A outer s H vs Q E hr h => ?_)
  · obtain ⟨s, A, B, h, p, c, n, D, P, m, rfl, _⟩ := h
    rfl
  · obtain ⟨s, A, B, h, p, c, n, D, P, m, rfl, hS, hc, hH, hF, n1, hP, pl, lP, m0, m1, q⟩ := h
    refine ⟨_, (pss_cons (ps_set (i := 4) scLWalk.nd rfl (.inl rfl) (pe_lst pa_nil))
      (pss_cons (ps_for PassesOwn.never rfl (pi_range1 (by rfl) T.range (pa_cons (pv 3) pa_nil)) (pg_name (i := 5) scLWalk.nd rfl (.inl rfl))
      (pss_cons (ps_set (i := 6) scLWalk.nd rfl (.inl rfl) (pe_cal C_law_moves hr (by rfl) (pa_cons (pv 1) (pa_cons (pv 2) pa_nil))))
       (pss_one (ps_if (pt_cmpR (op_neDK K rfl hr.units) (pv 6) (pe_lst pa_nil) (nomark _))
       (pss_cons (ps_expr (pe_bm PySem.F.plainAttrs_list PySem.F.slot_list_append PySem.F.type_list_append mt_append (pv 4) (pa_cons (pe_ix (ix_listK K rfl) (pv 6) (pe_cal C_law_draw hr (by rfl) (pa_cons (pv 0) (pa_cons (pe_callB (call_lenK K rfl) (by rfl) T.len (by decide +kernel) (pa_cons (pv 6) pa_nil)) pa_nil))) (fun _ _ => rfl)) pa_nil)))
        (pss_one (ps_set (i := 2) scLWalk.nd rfl (.inl rfl) (pe_cal C_law_moved hr (by rfl) (pa_cons (pv 2) (pa_cons (pe_ix (ix_tupK K rfl) (pe_ix (ix_listK K rfl) (pv 4) (pe_un un_neg pe_int) (fun _ _ => rfl)) pe_int (fun _ _ => rfl)) (pa_cons (pe_ix (ix_tupK K rfl) (pe_ix (ix_listK K rfl) (pv 4) (pe_un un_neg pe_int) (fun _ _ => rfl)) pe_int (fun _ _ => rfl)) pa_nil)))))))
       pss_nil))))
      (pss_one (ps_ret (pe_lst (pa_cons (pe_callTy (call_tupleF K rfl) (by rfl) T.tuple (by decide +kernel) (pa_cons (pv 4) pa_nil)) (pa_cons (pv 2) pa_nil))))))), ?_⟩
    refine ⟨Nat.zero_le _, fun R hR => ?_⟩
    have zR := hS.ne hR
    have sm := same_upd (o := .lst []) hR
    refine ⟨_, rfl, m, rfl, by omega, by omega, for_range (lo := 0) (n := m.toNat) (fun i σ' H' => ∃ (y5 y6 : Option V) (p' : Addr) (ms P' : List (Str × Int)), σ' = [some (.ref s), some (.ref h), some (.ref p'), some (.int m), some (.ref R), y5, y6] ∧ StreamAt H' s A B (c + i) ∧ Fr s A H H' ∧ HouseAt H' h n D ∧ LsAt H' R ms ∧ PlD H' p' P' ∧ Wlk n D P ms P' ∧ ms.length ≤ i)
      ⟨_, _, p, [], P, rfl, hS.same sm, Fr.of sm, hH.same sm, .nil upd_same, hP.same sm, .nil, Nat.le_refl _⟩ ?_ ?_⟩
    · rintro i σ' H1 hi ⟨y5, y6, p', ms, P', rfl, hS1, fr1, hH1, x1, hP1, wl, lm⟩
      obtain ⟨pl', lP', _, _, _⟩ := wl.keep pl
      refine ⟨_, rfl, _, rfl, h, p', n, D, P', rfl, hH1, hF, n1, hP1.pl, by omega, fun H2 l s2 hl x2 => ?_⟩
      have zl := hS1.ne hl
      refine ⟨_, rfl, Nat.zero_le _, fun e he => ?_⟩
      have s3 := s2.trans (same_upd (o := .lst []) he)
      have x3 := x2.same (same_upd (o := .lst []) he)
      refine ⟨.list ((mvs n D P' P').map pp), .list [], x3.dp, .lst (SqL.of upd_same) .nil, pps_shapedL (mvs_nams pl'), shaped_list [], _, rfl, ?_⟩
      rw [eqv_nilP]
      have hS3 := hS1.same s3
      have hH3 := hH1.same s3
      have hP3 := hP1.same s3
      have xR3 := x1.same s3
      have fr3 := fr1.trans (Fr.of s3)
      generalize upd H2 e (.lst []) = H3 at *
      have lmv := mvs_len n D P' P' n1
      by_cases em : (mvs n D P' P').isEmpty = true
      · rw [em]
        refine iteF ?_
        exact ⟨_, _, p', ms, P', rfl, hS3.mono (by omega), fr3, hH3, xR3, hP3, wl, by omega⟩
      · rw [Bool.eq_false_iff.mpr em]
        have l0 : 0 < (mvs n D P' P').length := by
          rw [List.length_pos_iff]
          exact fun e => em (by rw [e]; rfl)
        obtain ⟨xs, sq, lx⟩ := x3.sq (K := K)
        obtain ⟨rs, sqR, _⟩ := xR3.sq (K := K)
        refine iteT ⟨_, rfl, .inl ⟨rfl, _, sqR⟩, _, rfl, _, rfl, _, rfl, l, _, rfl, .inl sq, s, A, B, c + i, _, rfl, hS3, by omega, ?_, ?_, fun H4 v hS4 fr4 v0 v1 => ?_⟩
        · rw [lx]; omega
        · rw [lx]; omega
        rw [lx] at v1
        have x4 := x3.fr hS3 fr4 zl
        obtain ⟨xs', t, nm, r, sq', at', et, mem⟩ := x4.at (K := K) v0 v1
        obtain ⟨acc, a1, a2, a3⟩ := (xR3.fr hS3 fr4 zR).snoc (t := t) et
        refine ⟨l, _, _, _, rfl, rfl, sq', at', R, _, _, rfl, rfl, a1, ?_, ?_⟩
        · rw [a2]
          exact small1000 (by omega)
        have hS5 := hS4.put (o := .lst (acc ++ [.ref t])) zR
        have fr5 := (fr3.trans fr4).put (o := .lst (acc ++ [.ref t])) hR
        have tk5 : Tk H3 (upd H4 R (.lst (acc ++ [.ref t]))) := (Tk.fr fr4 hS3).put a1
        have et5 : (upd H4 R (.lst (acc ++ [.ref t]))) t = some (.tup [.str nm, .int r]) := by
          rw [upd_ne (ne_of et a1 (by intro z; cases z))]
          exact et
        have eR5 : (upd H4 R (.lst (acc ++ [.ref t]))) R = some (.lst (acc ++ [.ref t])) := upd_same
        generalize upd H4 R (.lst (acc ++ [.ref t])) = H5 at *
        refine ⟨_, rfl, _, rfl, _, rfl, R, _, _, _, rfl, rfl, SqL.of eR5, atI_last _ _, t, _, _, _, rfl, rfl, SqT.of et5, atI0, _, rfl, _, rfl, R, _, _, _, rfl, rfl, SqL.of eR5, atI_last _ _, t, _, _, _, rfl, rfl, SqT.of et5, atI1, ?_⟩
        refine ⟨p', P', nm, r, rfl, (hP3.tk tk5).pl, by omega, fun H6 u s6 pu => ?_⟩
        exact ⟨_, _, u, ms ++ [(nm, r)], _, rfl, hS5.same s6, fr5.trans (Fr.of s6), (hH3.tk tk5).same s6, a3.same s6, pu, wl.snoc mem, by rw [List.length_append, List.length_singleton]; omega⟩
    · rintro σ' H1 ⟨y5, y6, p', ms, P', rfl, hS1, fr1, hH1, x1, hP1, wl, lm⟩
      obtain ⟨xs, e1, e2⟩ := x1.tup
      refine ⟨_, rfl, R, _, rfl, SqL.of e1, fun t ob ht od => ⟨_, rfl, by show 2 ≤ sizeLine; decide, fun l hl => ?_⟩⟩
      have s2 := same_upd (o := .frz ob (.tup xs)) ht
      have s3 := same_upd (o := .lst [.ref t, .ref p']) hl
      exact q _ l t p' ms P' (hS1.same (s2.trans s3)) (fr1.trans (Fr.of (s2.trans s3))) upd_same ((e2 t ob ht od).same s3) (hP1.same (s2.trans s3)) wl lm
end
end Fw
set_option maxHeartbeats 2000000
namespace Fw
open PySem PySem.Spec PyProof.Rows L2
/-- what the written part says of one of the error classes -/
structure EC (K : PySem.W.Frag) (C : Addr) : Prop where
  o : OexC K C
  x : XfC K C
  cl : (PySem.W.clsIn K C).isSome = true
  ofc : PySem.W.findIn K (.ref C) "__class__" = some (some (.builtin "object.__class__"))
  sp : PySem.W.specialIn K (.builtin "object.__class__") "__get__" = some (some (.builtin "getset_descriptor.__get__"))
  tk : PySem.W.takesIn K (.builtin "object.__class__") = some true
  mo : PySem.W.mroIn K C (.type "object") = some true
/-- C(e, ..) as a value: the exception stays tracked -/
def tMkV (C : Addr) (sp : Sp) (ta : TA) : TE := fun σ H Q => ta σ H fun vs H1 => vs.length ≤ 1000 ∧ ∀ a, H1 a = none → sp (.ref a :: vs) (upd H1 a (exo a C none)) (fun v H2 => v = .non ∧ Q (.ref a) H2) E0
section
variable {X : Cx} {e : Expr} {es : List Expr} {ta : TA} {p pos : Pos}
theorem run_oex {C fI : Addr} {k : Nat} {fd : FuncData} {ps : List Str} {sp : Sp} {pins : List (Addr × Obj)} {σ : L2.St} {H1 : Hp} {z : Shared} {us : List Value} {vs : List V} {Q : VK} (T : OexC X.K C) (iC : PySem.W.findIn X.K (.ref C) "__init__" = some (some (.ref fI))) (tI : PySem.W.typeIn X.K (.ref fI) = some (.type "function"))
    (F1 : FnOk X.prog X.w X.K X.mg X.base CX0 k fI fd ps sp) (hr : Room (k + 1) X.A) (hb : Binds X.K fd ps []) (I1 : Inv X pins σ H1 z) (r1 : Vals vs us) (hz : vs.length ≤ 1000)
    (qi : ∀ a, H1 a = none → sp (.ref a :: vs) (upd H1 a (exo a C none)) (fun v H2 => v = .non ∧ Q (.ref a) H2) E0) : wpAny (model X.prog X.w) X.A (call (.ref C) us) (EP X pins σ Q) X.xe z := by
  obtain ⟨_, _, _, _, bm, _, _, _, _, _, _, _, _, _, _, hC, hbm⟩ := T.cls
  obtain ⟨hp, g, dr, tk, os⟩ := z
  have le : hp.objs.size ≤ hp.objs.size + 1 := Nat.le_succ _
  have hq := qi (hp.objs.size + 1) (I1.hok.fresh le)
  have at2 : ((hp.push (PySem.W.kdv_tup us)).push (PySem.HandSPX.excO C hp.objs.size)).get? (hp.objs.size + 1) = some (PySem.HandSPX.excO C hp.objs.size) := by heap_get
  have Jn : Inv X pins σ (upd H1 (hp.objs.size + 1) (exo (hp.objs.size + 1) C none)) ⟨(hp.push (PySem.W.kdv_tup us)).push (PySem.HandSPX.excO C hp.objs.size), g, dr, tk, os⟩ :=
    I1.laid (t' := tk) (fun b o e => Heap.get?_push_of_some _ (Heap.get?_push_of_some _ e)) le (exo_ok at2)
  have rs : Vals (V.ref (hp.objs.size + 1) :: vs) (Value.ref (hp.objs.size + 1) :: us) := .cons rfl r1
  have ln : (Value.ref (hp.objs.size + 1) :: us ++ []).length = ps.length := by
    rw [List.append_nil, ← rs.length]
    exact F1.len _ _ _ _ hq
  have few : us.length ≤ sizeLine := by
    rw [← r1.length, sizeLine_eq]
    omega
  have bi := hb _ (Value.ref (hp.objs.size + 1) :: us) Jn.kIn ln
  rw [List.append_nil] at bi
  refine wpAny_call (PySem.HandSPX.call_own F.excBase_ValueError (fun Y => PySem.HandSPX.refsVE_contains Y bm hbm) (I1.kIn _ _ hC) (PySem.W.looks_findIn I1.kIn iC) (fun self => PySem.W.bind_fn I1.kIn self tI) few
    (codeAny_mono (F1.run _ X.stack _ _ ⟨Value.ref (hp.objs.size + 1) :: us, []⟩ (Value.ref (hp.objs.size + 1) :: us) _ _ E0 (hr.make C us []) (Jn.env0.make C us []) bi rs hq) ?_))
  intro r z' e
  match r, e with
  | .error _, e => exact e.elim
  | .ok .next, e => exact e.elim
  | .ok .brk, e => exact e.elim
  | .ok .cont, e => exact e.elim
  | .ok (.ret u), e =>
    obtain ⟨v, H2, J, rv, ev, qv⟩ := Jn.after e
    subst ev
    exact ⟨rv, .ref (hp.objs.size + 1), H2, J, rfl, qv⟩
theorem pe_oex {x : Str} {C fI : Addr} {k : Nat} {fd : FuncData} {ps : List Str} {sp : Sp} (T : OexC X.K C) (iC : PySem.W.findIn X.K (.ref C) "__init__" = some (some (.ref fI))) (tI : PySem.W.typeIn X.K (.ref fI) = some (.type "function"))
    (F1 : FnOk X.prog X.w X.K X.mg X.base CX0 k fI fd ps sp) (hr : Room (k + 1) X.A) (hb : Binds X.K fd ps []) (hg : Gl X x) (hm : X.mg x = some (.ref C)) (ha : PA X (e :: es) ta)
    (hdb : (x == ("__debug__" : Str)) = false := by decide) (h1 : starEach (e :: es) X.env = (false, eval e X.env) :: starEach es X.env := by rfl) (h2 : (backTo pos (starEach es X.env)).any (·.1) = false := by rfl) :
    PE X (.Call (.Name x p) (e :: es) [] pos) (tMkV C sp ta) := by
  constructor
  intro pins z σ H Q I h
  refine wpAny_Call_Name_kw (ld_glob I hg hm (PySem.W.callWith_K (h₀ := X.base) I.ok.mod.kin T.kC (thn (ha.run pos pins z σ H _ I h) ?_) h1 h2) hdb)
  rintro us z1 ⟨vs, H1, I1, r1, hz, q1⟩
  exact ⟨I1.kIn, run_oex T iC tI F1 hr hb I1 r1 hz q1⟩
theorem pe_oex0 {x : Str} {C fI : Addr} {k : Nat} {fd : FuncData} {ps : List Str} {sp : Sp} (T : OexC X.K C) (iC : PySem.W.findIn X.K (.ref C) "__init__" = some (some (.ref fI))) (tI : PySem.W.typeIn X.K (.ref fI) = some (.type "function"))
    (F1 : FnOk X.prog X.w X.K X.mg X.base CX0 k fI fd ps sp) (hr : Room (k + 1) X.A) (hb : Binds X.K fd ps []) (hg : Gl X x) (hm : X.mg x = some (.ref C)) (hdb : (x == ("__debug__" : Str)) = false := by decide) : PE X (.Call (.Name x p) [] [] pos) (tMkV C sp tNil) := by
  constructor
  intro pins z σ H Q I h
  obtain ⟨hz, q1⟩ := h
  exact wpAny_Call_Name_kw (ld_glob I hg hm (PySem.W.callWith_K0 I.kIn T.kC (run_oex T iC tI F1 hr hb I .nil hz q1)) hdb)
/-- e.f of such an exception -/
def tEf (K : PySem.W.Frag) (f : Str) (te : TE) : TE := fun σ H Q => te σ H fun x H1 => ∃ (a C dx : Addr) (fs : List (Str × V)) (v : V), x = .ref a ∧ XfC K C ∧ PySem.W.findIn K (.ref C) f = some none ∧ H1 a = some (exo a C (some dx)) ∧ H1 dx = some (exd dx fs) ∧ fs.lookup f = some v ∧ Q v H1
theorem pe_ef {te : TE} {f : Str} (he : PE X e te) (hb : attributeBase e f X.env (eval e X.env) = eval e X.env := by rfl) : PE X (.Attribute e f pos) (tEf X.K f te) := by
  constructor
  intro pins z σ H Q I h
  refine attr_of hb (thn (he.run pins z σ H _ I h) ?_)
  rintro u z1 ⟨x, H1, I1, rx, a, C, dx, fs, v, rfl, T, no, ea, ed, l, q⟩
  obtain rfl : u = Value.ref a := rx
  obtain ⟨t1, ho⟩ := exo_at I1.hok ea
  obtain ⟨mA, ns, hr⟩ := exd_at I1.hok ed
  obtain ⟨od, hod, hl⟩ := lookIn_ns ns
  obtain ⟨u, hu, ru⟩ := RelO.some_of (v := v) (o := mA f) (by rw [← l]; exact hr f)
  have J : PySem.W.InstAt z1.heap a _ C (some od) := ⟨ho, rfl, rfl, hod⟩
  exact HandSPX.exc_get I1.kIn J T.ga T.gg T.exC (PySem.W.findObj_own T.hdC no rfl (by rw [hl, hu])) (handed_of ru) ⟨v, H1, I1.tok _, ru, q⟩
/-- isinstance(e, c) of such an exception -/
def rIsX (K : PySem.W.Frag) : List V → Hp → VK → Prop := fun xs H Q => ∃ (a D : Addr) (c : V) (cv : Value) (d : Option Addr) (b : Bool), xs = [.ref a, c] ∧ ClsV c cv ∧ EC K D ∧ H a = some (exo a D d) ∧ (∀ dx, d = some dx → ∃ fs, H dx = some (exd dx fs)) ∧ PySem.W.kitOne K (.ref D) cv = some b ∧ Q (.bl b) H
theorem call_isX : CallR X (.builtin "isinstance") (rIsX X.K) := by
  intro pn sh σ H xs us Q J rr hx
  obtain ⟨a, D, c, cv, d, b, rfl, k, T, ea, hd, e, q⟩ := hx
  obtain ⟨ua, ub, rfl, ra, rb⟩ := vals2 rr
  have e2 := k.eq rb
  subst e2
  cases (show ua = Value.ref a from ra)
  obtain ⟨t1, ho⟩ := exo_at J.hok ea
  have M : ∃ od, PySem.W.InstAt sh.heap a { cls := .ref D, dict := d, data := .fields #[.ref t1, .none, .none, .none, .bool false, .none] } D od := by
    cases d with
    | none => exact ⟨none, ho, rfl, rfl, trivial⟩
    | some dx =>
      obtain ⟨fs, ed⟩ := hd dx rfl
      obtain ⟨mA, ns, _⟩ := exd_at J.hok ed
      obtain ⟨od, hod, _⟩ := lookIn_ns ns
      exact ⟨some od, ho, rfl, rfl, hod⟩
  obtain ⟨od, M⟩ := M
  exact PySem.W.kia_one (PySem.W.kitx_exc T.cl T.x.ga T.x.gg T.x.exC T.ofc T.sp T.tk T.mo) J.kIn M e (fun z => nomatch z) fun tk => ⟨.bl b, H, J.tok tk, rfl, q⟩
/-- l.count(True), l a list of bools -/
def rCntB (K : PySem.W.Frag) : V → List V → Hp → VK → Prop := fun x xs H Q => ∃ (p : Addr) (bs : List Bool), x = .ref p ∧ xs = [.bl true] ∧ SqL K H p (bs.map V.bl) ∧ Q (.int ((bs.count true : Nat) : Int)) H
def isT : Value → Bool
  | .bool b => b
  | _ => false
theorem mt_countB : MtR X "list.count" (rCntB X.K) := by
  intro pn s σ H x xs v us Q I rx rys hx
  obtain ⟨p, bs, rfl, rfl, hs, q⟩ := hx
  cases rx
  obtain ⟨ut, rfl, rt⟩ := rys.one
  cases (show ut = Value.bool true from rt)
  obtain ⟨its, rv, ⟨⟨oc, dd, od, sl⟩, n, ho, hc, _, hd⟩, _⟩ := I.list hs
  simp only at hc hd
  subst hc hd
  have all : ∀ {bs : List Bool} {us : List Value}, Vals (bs.map V.bl) us → (∀ y ∈ us, ∃ b, y = Value.bool b) ∧ us.countP isT = bs.count true := by
    intro bs
    induction bs with
    | nil => intro us r; cases r; exact ⟨fun y hy => (by cases hy), rfl⟩
    | cons b bs ih =>
      intro us r
      cases r with
      | cons r rr =>
        obtain ⟨h1, h2⟩ := ih rr
        have e := (show _ = Value.bool b from r)
        subst e
        refine ⟨fun y hy => ?_, ?_⟩
        · rcases List.mem_cons.mp hy with e | e
          · exact ⟨b, e⟩
          · exact h1 y e
        · rw [List.countP_cons, List.count_cons, h2]
          cases b <;> rfl
  obtain ⟨h1, h2⟩ := all rv
  refine call_meets PySem.F.slot_list_count ⟨_, ho, rfl⟩ PySem.F.entry_list_count (PySem.F.args_list_count_2 _ _) (SeqAt.list_countAt p its.toArray n dd sl (.bool true) isT) ⟨ho, fun y hy => ?_, ?_⟩
  · obtain ⟨b, rfl⟩ := h1 y (by simpa using hy)
    have := SeqAt.EqAt.bool_bool (A := X.A.in1) (s := s) b true
    rw [show (b == true) = isT (.bool b) by cases b <;> rfl] at this
    exact this
  · refine ⟨.int ((bs.count true : Nat) : Int), H, I.tok _, ⟨s.toks, ?_⟩, q⟩
    show Value.int ((its.toArray.toList.countP isT : Nat) : Int) s.toks = _
    rw [← h2]
end
end Fw
set_option maxHeartbeats 2000000
namespace Fw
open PySem PySem.Spec PyProof.Rows L2
/-- the classes above an error class, without itself -/
abbrev above (E : Addr) : List Value := [.ref E, .type "ValueError", .type "Exception", .type "BaseException", .type "object"]
/-- an error class by its place, with its __init__ -/
structure CF (K : PySem.W.Frag) (mg : Str → Option Value) (x : Str) (q : Str) (st : Stmt) (ps : List Str) (E C : Addr) (f : Addr) (fd : FuncData) : Prop where
  e : EC K C
  g : mg x = some (.ref C)
  mro : ∃ cd, PySem.W.clsIn K C = some cd ∧ cd.mro = .ref C :: above E
  i : PySem.W.findIn K (.ref C) "__init__" = some (some (.ref f))
  t : PySem.W.typeIn K (.ref f) = some (.type "function")
  F : Fun K "__init__" q st f fd
  b : Binds K fd ps []
theorem cf_mk {K : PySem.W.Frag} {h : Heap} {mg : Str → Option Value} {x q : Str} {st : Stmt} {ps : List Str} {E C f : Addr}
    {nm qn : Str} {N : Addr} {bs : List Value} {sn : List Str} {sub : List Value} {ab : Bool} {col : Option Bool} {dd : Option Addr} {m0 m1 m2 m3 m5 : Option Value}
    {od an : Option Addr} {sl : Array (Option Value)} {oc kV dc pm cd ct : Value} (X : K.In h) (G : h.Ns mainGlobals mg)
    (hb : ∀ fd, Fun K "__init__" q st f fd → Binds K fd ps [])
    (aC : PySem.W.nsIn K mainGlobals x = some (some (.ref C)))
    (xL : K.lookup C = some (excClassObj nm qn C N bs (above E) true sn sub ab col dd m0 m1 m2 m3 m5 "ValueError.__new__"))
    (sa : PySem.W.findIn K (.ref C) "__setattr__" = some (some (.builtin "object.__setattr__"))) (ga : PySem.W.findIn K (.ref C) "__getattribute__" = some (some (.builtin "BaseException.__getattribute__"))) (gg : PySem.W.findIn K (.ref C) "__getattr__" = some none)
    (a1 : PySem.W.findIn K (.ref C) "__init__" = some (some (.ref f))) (t1 : PySem.W.typeIn K (.ref f) = some (.type "function"))
    (l1 : K.lookup f = some ⟨oc, od, .func (PySem.W.fnOf "__init__" q (defArgs st) (defBody st) (defScope st) .none kV dc pm an cd ct), sl⟩) (c1 : PySem.W.codeIn K cd q = true) (k1 : PySem.W.keepIn K (.ref f) = true)
    (kC : PySem.W.keepIn K (.ref C) = true) (tC : PySem.W.typeIn K (.ref C) = some (.type "type")) (hC : PySem.W.hasDictIn K C = true)
    (ca : PySem.W.findIn K (.ref C) "__class__" = some (some (.builtin "object.__class__")))
    (sp : PySem.W.specialIn K (.builtin "object.__class__") "__get__" = some (some (.builtin "getset_descriptor.__get__"))) (tk : PySem.W.takesIn K (.builtin "object.__class__") = some true) :
    ∃ fd, CF K mg x q st ps E C f fd := by
  have cl : PySem.W.clsIn K C = some { name := nm, bases := bs, mro := .ref C :: above E, ns := N, qualname := qn, hasDict := true, slotNames := sn, subclasses := sub, abstract := ab, collection := col, hasDel := false } := by
    unfold PySem.W.clsIn
    rw [xL]
  have mr : ∀ v, PySem.W.mroIn K C v = some ((Value.ref C :: above E).contains v) := fun v => by
    unfold PySem.W.mroIn
    rw [cl]
    rfl
  have exC : PySem.W.subIn K (.ref C) (.type "BaseException") = some true := (mr _).trans rfl
  have F1 := fun_mk (st := st) l1 c1 k1
  refine ⟨_, ⟨⟨⟨nm, qn, N, bs, _, sn, sub, ab, col, dd, m0, m1, m2, m3, m5, xL, rfl⟩, sa, exC, tC, kC⟩, ⟨ga, gg, exC, hC⟩, by rw [cl]; rfl, ca, sp, tk, (mr _).trans rfl⟩, PySem.W.mg_of X G aC, ⟨_, cl, rfl⟩, a1, t1, F1, hb _ F1⟩
end Fw
set_option maxHeartbeats 2000000
namespace Fw
open PySem PySem.Spec PyProof.Rows L2
/-- what the __init__ of an error with a field does -/
def spIniF (f : Str) (C : Addr) : Sp := fun vs H Q _ => ∃ (a : Addr) (v : V), vs = [.ref a, v] ∧ H a = some (exo a C none) ∧ ∀ dx, H dx = none → dx ≠ a → Q .non (upd (upd H dx (exd dx [(f, v)])) a (exo a C (some dx)))
/-- an error class of the text with one field -/
def CE (K : PySem.W.Frag) (mg : Str → Option Value) (x q fld : Str) (st : Stmt) : Prop := ∃ E C f fd, CF K mg x q st ["self", fld] E C f fd ∧ PySem.W.findIn K (.ref C) fld = some none
/-- an error class that can be raised, by its name -/
structure ErR (P : Program) (w : World) (K : PySem.W.Frag) (mg : Str → Option Value) (base : Heap) (x fld : Str) (E C : Addr) : Prop where
  e : EC K C
  g : mg x = some (.ref C)
  mro : ∃ cd, PySem.W.clsIn K C = some cd ∧ cd.mro = .ref C :: above E
  no : PySem.W.findIn K (.ref C) fld = some none
  i : ∃ f fd, PySem.W.findIn K (.ref C) "__init__" = some (some (.ref f)) ∧ PySem.W.typeIn K (.ref f) = some (.type "function") ∧ Binds K fd ["self", fld] [] ∧ FnOk P w K mg base CX0 1 f fd ["self", fld] (spIniF fld C)
section
variable {P : Program} {w : World} {K : PySem.W.Frag} {mg : Str → Option Value} {base : Heap}
theorem er_NotAdjacent (c : CE K mg "NotAdjacent" "NotAdjacent.__init__" "room" iNotAdjacent) : ∃ E C, ErR P w K mg base "NotAdjacent" "room" E C := by
  obtain ⟨E, C, f, fd, c, no⟩ := c
  refine ⟨E, C, c.e, c.g, c.mro, no, f, fd, c.i, c.t, c.b, ?_⟩
  refine Fun.ok c.F (N := ["self", "room"]) ⟨rfl, rfl, rfl, by decide +kernel, rfl, by decide +kernel, by decide +kernel⟩ (fun vs H Q E h => ?_) (fun cdv A outer s H vs Q E hr h => ?_)
  · obtain ⟨a, v, rfl, _⟩ := h
    rfl
  · obtain ⟨a, v, rfl, ea, q⟩ := h
    exact ⟨_, pss_one (ps_ost (pv 0) (pv 1)), _, rfl, _, rfl, a, C, rfl, c.e.o, no, .inl ⟨ea, q⟩⟩
theorem er_EmptyRoom (c : CE K mg "EmptyRoom" "EmptyRoom.__init__" "room" iEmptyRoom) : ∃ E C, ErR P w K mg base "EmptyRoom" "room" E C := by
  obtain ⟨E, C, f, fd, c, no⟩ := c
  refine ⟨E, C, c.e, c.g, c.mro, no, f, fd, c.i, c.t, c.b, ?_⟩
  refine Fun.ok c.F (N := ["self", "room"]) ⟨rfl, rfl, rfl, by decide +kernel, rfl, by decide +kernel, by decide +kernel⟩ (fun vs H Q E h => ?_) (fun cdv A outer s H vs Q E hr h => ?_)
  · obtain ⟨a, v, rfl, _⟩ := h
    rfl
  · obtain ⟨a, v, rfl, ea, q⟩ := h
    exact ⟨_, pss_one (ps_ost (pv 0) (pv 1)), _, rfl, _, rfl, a, C, rfl, c.e.o, no, .inl ⟨ea, q⟩⟩
end
/-! ### except among the errors -/
theorem exm_ref {K : PySem.W.Frag} {D E C : Addr} (hm : ∃ cd, PySem.W.clsIn K D = some cd ∧ cd.mro = .ref D :: above E) (e : EC K C) : PySem.W.exmOne K (.ref D) (.ref C) = some (decide (C = D ∨ C = E)) := by
  obtain ⟨cd, h1, h2⟩ := hm
  unfold PySem.W.exmOne
  rw [if_pos (by rw [e.o.exC]; rfl)]
  unfold PySem.W.kitCls
  simp only [e.cl, e.o.tyC]
  rw [if_pos (by rfl)]
  show PySem.W.mroIn K D (.ref C) = _
  unfold PySem.W.mroIn
  rw [h1]
  show (if cd.mro.isEmpty then none else some (cd.mro.contains (.ref C))) = _
  rw [h2]
  show some ((Value.ref D :: above E).contains (.ref C)) = _
  by_cases e1 : C = D <;> by_cases e2 : C = E <;> simp [e1, e2]
theorem exm_two {K : PySem.W.Frag} {D E C1 C2 : Addr} (hm : ∃ cd, PySem.W.clsIn K D = some cd ∧ cd.mro = .ref D :: above E) (e1 : EC K C1) (e2 : EC K C2) (h : C1 = D ∨ C2 = D) : PySem.W.exmAny K (.ref D) [.ref C1, .ref C2] = some true := by
  unfold PySem.W.exmAny PySem.W.exmAny PySem.W.exmAny
  rw [exm_ref hm e1, exm_ref hm e2]
  show some _ = some true
  congr 1
  rcases h with h | h <;> simp [h]
/-! ### raise -/
theorem raise_end {fld : Str} {C : Addr} {v : V} {H1 : Hp} {Q : XK} (q : ∀ d H', Same H1 H' → H' d = some (.xd [(fld, v)]) → Q (.ref C) (some d) H') : ([v] : List V).length ≤ 1000 ∧ ∀ a, H1 a = none → spIniF fld C (.ref a :: ([v] ++ [])) (upd H1 a (exo a C none))
    (fun v H2 => v = .non ∧ ∃ (d : Addr) (fs : List (Str × V)), H2 a = some (exo a C (some d)) ∧ H2 d = some (exd d fs) ∧ H1 d = none ∧ Q (.ref C) (some d) (upd (del H2 a) d (.xd fs))) (fun _ _ _ => False) := by
  refine ⟨by show 1 ≤ 1000; decide, fun a ha => ⟨a, v, rfl, upd_same, fun dx h1 h2 => ?_⟩⟩
  have hd : H1 dx = none := by rw [← h1, upd_ne h2]
  refine ⟨rfl, dx, _, upd_same, (upd_ne h2).trans upd_same, hd, q _ _ (fun b o e => ?_) upd_same⟩
  have n1 : b ≠ a := ne_of_none e ha
  have n2 : b ≠ dx := ne_of_none e hd
  rw [upd_ne n2, del_ne n1, upd_ne n1, upd_ne n2, upd_ne n1]
  exact e
theorem pmk_er {X : Cx} {x fld : Str} {E C : Addr} {k : Nat} {p pos : Pos} {e : Expr} {te : TE} (R : ErR X.prog X.w X.K X.mg X.base x fld E C) (hr : Room (k + 2) X.A) (hg : Gl X x) (he : PE X e te) (hdb : (x == ("__debug__" : Str)) = false := by decide)
    (h1 : starEach [e] X.env = (false, eval e X.env) :: starEach [] X.env := by rfl) (h2 : (backTo pos (starEach [] X.env)).any (·.1) = false := by rfl) : PMk X (.Call (.Name x p) [e] [] pos) (tMkO C (spIniF fld C) [] (tCons te tNil)) := by
  obtain ⟨f, fd, a, b, c, d⟩ := R.i
  exact pmk_oex R.e.o a b (d.mono (Nat.le_add_left 1 k)) hr c .nil pass0 hg R.g (pa_cons he pa_nil (hs := h1)) hdb h1 h2
/-! ### a def that may raise, by its name -/
def CalX (P : Program) (w : World) (K : PySem.W.Frag) (mg : Str → Option Value) (base : Heap) (k : Nat) (x : Str) (ps : List Str) (sp : Sp) : Prop :=
  ∃ f fd, mg x = some (.ref f) ∧ PySem.W.keepIn K (.ref f) = true ∧ Binds K fd ps [] ∧ FnOk P w K mg base (L2.CX P w) k f fd ps sp
theorem DefE.calX {P : Program} {w : World} {K : PySem.W.Frag} {mg : Str → Option Value} {base : Heap} {x : Str} {st : Stmt} {ps : List Str} {k : Nat} {sp : Sp} (D : DefE K mg x st ps) (h : ∀ f fd, Def K mg x st f fd ps → FnOk P w K mg base (L2.CX P w) k f fd ps sp) : CalX P w K mg base k x ps sp := by
  obtain ⟨f, fd, d⟩ := D
  exact ⟨f, fd, d.g, d.F.kp, d.b, h f fd d⟩
theorem pe_calX {X : Cx} {W : WX} {k : Nat} {ps : List Str} {sp : Sp} {x : Str} {p pos : Pos} {e : Expr} {es : List Expr} {t : TA} (C : CalX X.prog X.w X.K X.mg X.base k x ps sp) (tk : Takes X W) (hr : Room k X.A) (hg : Gl X x) (ha : PA X (e :: es) t) (hdb : (x == ("__debug__" : Str)) = false := by decide)
    (h1 : starEach (e :: es) X.env = (false, eval e X.env) :: starEach es X.env := by rfl) (h2 : (backTo pos (starEach es X.env)).any (·.1) = false := by rfl) : PE X (.Call (.Name x p) (e :: es) [] pos) (tCallS sp (WE W) t) := by
  obtain ⟨f, fd, a, b, c, d⟩ := C
  exact pe_callS d hr hg a b c (fun σ => passAt tk σ) ha hdb h1 h2
/-! ### an exception that has landed, and the state around it -/
structure Air (X : Cx) (pins : List (Addr × Obj)) (B : Heap) (a : Addr) (cls : Value) (d : Option Addr) (σ : L2.St) (H : Hp) (z : Shared) : Prop where
  ex : ∃ g : Shared, Inv X pins σ H g ∧ (∀ b o, g.heap.get? b = some o → b ∉ frs X.stack → B.get? b = some o) ∧ g.heap.UpToSlots z.heap ∧ z.os = g.os
  fly : HandSPX.FlyingZ B (X.env :: X.outer) a (Zc cls d) z.heap
  free : H a = none
  bare : AllBare z.gens
section
variable {X : Cx} {pins : List (Addr × Obj)} {B : Heap} {a : Addr} {cls : Value} {d : Option Addr} {σ : L2.St} {H : Hp} {z : Shared}
theorem Air.inv (x : Air X pins B a cls d σ H z) : Inv X pins σ H z := by
  obtain ⟨g, i, k, u, o⟩ := x.ex
  exact i.landed k x.fly.1 u o x.bare
theorem Air.step {h' : Heap} (x : Air X pins B a cls d σ H z) (f : HandSPX.FlyingZ B (X.env :: X.outer) a (Zc cls d) h') (u : z.heap.UpToSlots h') : Air X pins B a cls d σ H { z with heap := h' } := by
  obtain ⟨g, i, k, u0, o⟩ := x.ex
  exact ⟨⟨g, i, k, u0.trans u, o⟩, f, x.free, x.bare⟩
theorem Air.push (x : Air X pins B a cls d σ H z) (o : Obj) : Air X pins B a cls d σ H { z with heap := z.heap.push o } := by
  have up : ∀ b q, z.heap.get? b = some q → (z.heap.push o).get? b = some q := fun b q e => Heap.get?_push_of_some _ e
  obtain ⟨c1, c2, c3, ob, fs, tb, ot, us, g1, g2, g3, g4, g5, g6, g7, g8, g9⟩ := x.fly
  exact x.step ⟨fun b q e => up b q (c1 b q e), c2, c3.of_keeps fun b q e _ => ⟨q, up b q e, rfl⟩, ob, fs, tb, ot, us, up _ _ g1, g2, g3, g4, g5, g6, up _ _ g7, g8, g9⟩ (Heap.UpToSlots.of_keeps up)
theorem Air.hold (x : Air X pins B a cls d σ H z) (fr : X.env.frame = some X.env.locals) : ∃ oe, z.heap.get? a = some oe ∧ Zc cls d oe ∧ (∃ vs, oe.data = .fields vs) ∧ Inv (X.suite a ((a, oe) :: (X.pn ++ pins))) [] σ H z := by
  obtain ⟨oe, fs, at0, zc, fd⟩ := x.fly.there
  have off : ∀ v : Env, v ∈ X.env :: X.outer → v.frame ≠ some a := by
    intro v mv ev
    obtain ⟨_, ob, at1, plain⟩ := x.fly.2.2.1.mem (List.mem_filterMap.2 ⟨v, mv, ev⟩)
    cases Option.some.inj (at0.symm.trans at1)
    exact plain fs fd
  refine ⟨oe, at0, zc, ⟨fs, fd⟩, x.inv.suite at0 fd x.free ?_ ?_⟩
  · intro same
    exact off X.env (.head _) (by rw [fr, same])
  · intro inFs
    obtain ⟨v, mv, ev⟩ := List.mem_filterMap.1 inFs
    exact off v (.tail _ mv) ev
/-- what comes of a suite, and of a try's body, told outside of it -/
theorem sp_suite {q : Addr × Obj} {D : Ends} {f : Flow} (ok : X.Ok) (h : L2.SP (X.suite a (q :: (X.pn ++ pins))) [] D f z) : L2.SP X pins D f z :=
  match f, h with
  | .next, ⟨t, G, J, w⟩ | .brk, ⟨t, G, J, w⟩ | .cont, ⟨t, G, J, w⟩ => ⟨t, G, J.unsuite ok, w⟩
  | .ret _, ⟨v, t, G, J, r, w⟩ => ⟨v, t, G, J.unsuite ok, r, w⟩
theorem sp_body {xe : Value → Shared → Prop} {D : Ends} {f : Flow} (ok : X.Ok) (h : L2.SP (X.tr (X.pn ++ pins) xe) [] D f z) : L2.SP X pins D f z :=
  match f, h with
  | .next, ⟨t, G, J, w⟩ | .brk, ⟨t, G, J, w⟩ | .cont, ⟨t, G, J, w⟩ => ⟨t, G, J.ofTry ok, w⟩
  | .ret _, ⟨v, t, G, J, r, w⟩ => ⟨v, t, G, J.ofTry ok, r, w⟩
/-- it lands -/
theorem air_of {W : WX} {xe : Value → Shared → Prop} {u : Value} {Q : Unit → Shared → Prop} {E : Value → Shared → Prop} (st : X.stack = X.env :: X.outer) (fr : X.env.frame = some X.env.locals) (ok : X.Ok) (x : XE (X.tr (X.pn ++ pins) xe) W u z)
    (k : ∀ B a cls d σ H z', u = .ref a → Air X pins B a cls d σ H z' → W cls d σ H → Q () z') :
    wpAny (model X.prog X.w) X.A (noteFrame u X.env) (fun _ y => wpAny (model X.prog X.w) X.A (setFlight u none) Q E y) E z := by
  obtain ⟨a, B, g, _, σ, H, cls, d, rfl, i, gr, us, sky, free, eo, bare, w⟩ := x
  refine Sky.land Zc.steady (ok.frames.trans (congrArg some st)) fr (st ▸ sky) fun h' fl us' => ?_
  exact k B a cls d σ H _ rfl ⟨⟨g, i.ofTry ok, gr, us.trans us', eo⟩, fl, free, bare⟩ w
/-- a class of the text, or a builtin one, by its name in a clause -/
theorem Air.name {x : Str} {c : Value} {p : Pos} {Q : Value → Shared → Prop} {E : Value → Shared → Prop} (y : Air X pins B a cls d σ H z) (fr : X.env.frame = some X.env.locals) (nm : L2.Names X x c) (h : Q c z) : wpAny (model X.prog X.w) (X.A.mark (some (.ref a))) (eval (.Name x p) X.env) Q E z := by
  obtain ⟨oe, _, _, _, J⟩ := y.hold fr
  obtain ⟨gl, nd, own | ⟨out, blt, nn⟩⟩ := nm
  · exact ld_glob J gl own h nd
  · exact ld_blt J gl out blt h nn nd
end
/-! ### try: .. except (A, B): .. , where it surely is one of the two -/
theorem ps_try_two {X : Cx} {body : List Stmt} {x1 x2 : Str} {c1 c2 : Value} {b₀ : Stmt} {suite : List Stmt} {p1 p2 tpos pos' pos : Pos} {kk : Nat} {tb : WX → TS} {ts : TS} (st : X.stack = X.env :: X.outer) (fr : X.env.frame = some X.env.locals) (n1 : L2.Names X x1 c1) (n2 : L2.Names X x2 c2)
    (hb : ∀ (W : WX) (pn : List (Addr × Obj)) (xe : Value → Shared → Prop), Takes (X.tr pn xe) W → PassesOwn (model X.prog X.w) X.A X.env xe → PSs (X.tr pn xe) body (tb W))
    (hsu : ∀ (a : Addr) (oe : Obj) (pn : List (Addr × Obj)), PSs (X.suite a ((a, oe) :: pn)) (b₀ :: suite) ts) :
    PS X (.Try body [.ExceptHandler (some (.Tuple [.Name x1 p1, .Name x2 p2] kk tpos)) none (b₀ :: suite) pos'] [] [] pos) (fun D σ H => tb (fun cls _ σ' H' => PySem.W.exmAny X.K cls [c1, c2] = some true ∧ ts D σ' H') D σ H) := by
  constructor
  intro pins z σ H D I rd
  have ok := I.ok
  have caught : ∀ (xe : Value → Shared → Prop) (u : Value) (y : Shared), XE (X.tr (X.pn ++ pins) xe) (fun cls _ σ' H' => PySem.W.exmAny X.K cls [c1, c2] = some true ∧ ts D σ' H') u y →
      wpAny (model X.prog X.w) X.A (noteFrame u X.env) (fun _ y1 => wpAny (model X.prog X.w) X.A (setFlight u none) (fun _ y2 =>
        wpAny (model X.prog X.w) X.A (handleBy u X.env [.ExceptHandler (some (.Tuple [.Name x1 p1, .Name x2 p2] kk tpos)) none (b₀ :: suite) pos']) (L2.SP X pins D) X.xe y2) X.xe y1) X.xe y := by
    intro xe u y air
    refine air_of st fr ok air fun B a cls d σ1 H1 y1 eu y1a yes => ?_
    subst eu
    refine wpAny_handleBy_cons (codeAny_handlers_test (wpAny_Tuple (wpAny_items_cons (y1a.name fr n1 (wpAny_items_cons (y1a.name fr n2 (wpAny_items_nil ⟨?_, ?_⟩))))))) fun e => nomatch e
    · show 2 ≤ sizeLine
      decide
    have y2a := y1a.push { cls := .type "tuple", data := .seq [c1, c2].toArray }
    obtain ⟨oe, at2, zc, _, _⟩ := y2a.hold fr
    have kind : PySem.W.Looks (model X.prog X.w) (y1.heap.push { cls := .type "tuple", data := .seq [c1, c2].toArray }) (typeOf (.ref a)) cls := fun _ _ _ _ keep w => wpAny_typeOf_ref (keep _ _ at2) (zc.1.symm ▸ w)
    refine (PySem.W.exm_tup2 y2a.inv.kIn kind (Heap.get?_push_size _ rfl) yes.1).here (codeAny_handlers_suite (HandSPX.lands_againZ y2a.fly fun h3 f3 u3 => ?_))
    obtain ⟨oe3, _, _, _, J3⟩ := (y2a.step f3 u3).hold fr
    exact wpAny_mono ((hsu a oe3 (X.pn ++ pins)).run [] _ _ H1 _ J3 yes.2) (fun _ _ r => sp_suite ok r) fun _ _ no => no.elim
  refine wpAny_Try_except (wpAny_mono ((hb _ (X.pn ++ pins) _ (fun u y air => caught _ u y air) PassesOwn.looking).run [] z σ H D (I.toTry _) rd) (fun f y r => ?_) fun _ _ r => r)
  have r := sp_body ok r
  match f, r with
  | .next, r => exact wpAny_execs_nil r
  | .brk, r | .cont, r | .ret _, r => exact r
end Fw
set_option maxHeartbeats 2000000
namespace Fw
open PySem PySem.Spec PyProof.Rows L2
/-- the class above all errors -/
structure HE (K : PySem.W.Frag) (mg : Str → Option Value) (E : Addr) : Prop where
  g : mg "HouseError" = some (.ref E)
  ex : PySem.W.subIn K (.ref E) (.type "BaseException") = some true
  cl : (PySem.W.clsIn K E).isSome = true
  ty : PySem.W.typeIn K (.ref E) = some (.type "type")
  m : (PySem.W.clsIn K E).map (·.mro) = some (above E)
/-- an error class of the text with one field, below E -/
def CEE (K : PySem.W.Frag) (mg : Str → Option Value) (E : Addr) (x q fld : Str) (st : Stmt) : Prop := ∃ C f fd, CF K mg x q st ["self", fld] E C f fd ∧ PySem.W.findIn K (.ref C) fld = some none
abbrev Mro (K : PySem.W.Frag) (E D : Addr) : Prop := ∃ cd, PySem.W.clsIn K D = some cd ∧ cd.mro = .ref D :: above E
theorem he_mk {K : PySem.W.Frag} {h : Heap} {mg : Str → Option Value} {E : Addr} {nm qn : Str} {N : Addr} {bs : List Value} {sn : List Str} {sub : List Value} {ab : Bool} {col : Option Bool} {dd : Option Addr} {m0 m1 m2 m3 m5 : Option Value} (X : K.In h) (G : h.Ns mainGlobals mg)
    (aE : PySem.W.nsIn K mainGlobals "HouseError" = some (some (.ref E))) (ex : PySem.W.subIn K (.ref E) (.type "BaseException") = some true)
    (xL : K.lookup E = some (excClassObj nm qn E N bs [.type "ValueError", .type "Exception", .type "BaseException", .type "object"] true sn sub ab col dd m0 m1 m2 m3 m5 "ValueError.__new__")) (ty : PySem.W.typeIn K (.ref E) = some (.type "type")) : HE K mg E := by
  have cl : ∃ cd, PySem.W.clsIn K E = some cd ∧ cd.mro = above E := by
    unfold PySem.W.clsIn
    rw [xL]
    exact ⟨_, rfl, rfl⟩
  obtain ⟨cd, h1, h2⟩ := cl
  exact ⟨PySem.W.mg_of X G aE, ex, by rw [h1]; rfl, ty, by rw [h1, ← h2]; rfl⟩
theorem HE.ne {K : PySem.W.Frag} {mg : Str → Option Value} {E C : Addr} (h : HE K mg E) (c : Mro K E C) : C ≠ E := fun e => by
  obtain ⟨cd, h1, h2⟩ := c
  have := h.m
  rw [← e, h1] at this
  simp only [Option.map_some, Option.some.injEq] at this
  rw [h2] at this
  have := congrArg List.length this
  cases this
theorem exm_he {K : PySem.W.Frag} {mg : Str → Option Value} {D E : Addr} (hm : Mro K E D) (h : HE K mg E) : PySem.W.exmOne K (.ref D) (.ref E) = some true := by
  obtain ⟨cd, h1, h2⟩ := hm
  unfold PySem.W.exmOne
  rw [if_pos (by rw [h.ex]; rfl)]
  unfold PySem.W.kitCls
  simp only [h.cl, h.ty]
  rw [if_pos (by rfl)]
  show PySem.W.mroIn K D (.ref E) = _
  unfold PySem.W.mroIn
  rw [h1]
  show (if cd.mro.isEmpty then none else some (cd.mro.contains (.ref E))) = _
  rw [h2]
  simp
theorem kitR {K : PySem.W.Frag} {D E C : Addr} (hm : Mro K E D) (hC : (PySem.W.clsIn K C).isSome = true) (tC : PySem.W.typeIn K (.ref C) = some (.type "type")) : PySem.W.kitOne K (.ref D) (.ref C) = some (decide (C = D ∨ C = E)) := by
  obtain ⟨cd, h1, h2⟩ := hm
  unfold PySem.W.kitOne
  by_cases e : D = C
  · rw [if_pos (by rw [e]; exact beq_self_eq_true _)]
    simp [e]
  · rw [if_neg (by simpa using e)]
    unfold PySem.W.kitCls
    simp only [hC, tC]
    rw [if_pos (by rfl)]
    show PySem.W.mroIn K D (.ref C) = _
    unfold PySem.W.mroIn
    rw [h1]
    show (if cd.mro.isEmpty then none else some (cd.mro.contains (.ref C))) = _
    rw [h2]
    show some ((Value.ref D :: above E).contains (.ref C)) = _
    have e' : C ≠ D := fun z => e z.symm
    by_cases e2 : C = E <;> simp [e', e2]
theorem kitVE {K : PySem.W.Frag} {D E : Addr} (hm : Mro K E D) : PySem.W.kitOne K (.ref D) (.type "ValueError") = some true := by
  obtain ⟨cd, h1, h2⟩ := hm
  unfold PySem.W.kitOne
  rw [if_neg (by simp)]
  unfold PySem.W.kitCls
  simp only []
  rw [if_pos (by decide +kernel)]
  show PySem.W.mroIn K D (.type "ValueError") = _
  unfold PySem.W.mroIn
  rw [h1]
  show (if cd.mro.isEmpty then none else some (cd.mro.contains _)) = _
  rw [h2]
  show some ((Value.ref D :: above E).contains _) = _
  simp
/-- none of them -/
theorem kit_none {K : PySem.W.Frag} {t : Value} : ∀ {cs : List Value}, (∀ c ∈ cs, PySem.W.kitOne K t c = some false) → PySem.W.kitAny K t cs = some false
  | [], _ => rfl
  | c :: cs, h => by
    unfold PySem.W.kitAny
    rw [h c (List.mem_cons_self ..)]
    exact kit_none fun x hx => h x (List.mem_cons_of_mem _ hx)
/-- isinstance of the exception that a suite holds -/
structure HeldX (K : PySem.W.Frag) (cls : Value) (d : Option Addr) (D : Addr) (H : Hp) : Prop where
  c : cls = .ref D
  e : EC K D
  x : ∀ dx, d = some dx → ∃ fs, H dx = some (.xd fs)
def rIsC (K : PySem.W.Frag) (a : Addr) (cls : Value) (d : Option Addr) : List V → Hp → VK → Prop := fun xs H Q => ∃ (D : Addr) (c : V) (cv : Value) (b : Bool), xs = [.ref a, c] ∧ HeldX K cls d D H ∧ ClsV c cv ∧ PySem.W.kitOne K (.ref D) cv = some b ∧ Q (.bl b) H
def rIsT (K : PySem.W.Frag) (a : Addr) (cls : Value) (d : Option Addr) : List V → Hp → VK → Prop := fun xs H Q => ∃ (D t : Addr) (cs : List V) (cvs : List Value) (b : Bool), xs = [.ref a, .ref t] ∧ HeldX K cls d D H ∧ SqT K H t cs ∧ (∀ us, Vals cs us → us = cvs) ∧ PySem.W.kitAny K (.ref D) cvs = some b ∧ Q (.bl b) H
section
variable {X : Cx} {a : Addr} {oe : Obj} {pn : List (Addr × Obj)} {cls : Value} {d : Option Addr}
theorem held_inst {pins : List (Addr × Obj)} {σ : L2.St} {H : Hp} {s : Shared} {D : Addr} (I : Inv (X.suite a ((a, oe) :: pn)) pins σ H s) (hz : Zc cls d oe) (hf : ∃ vs, oe.data = .fields vs) (h : HeldX X.K cls d D H) : ∃ od, PySem.W.InstAt s.heap a oe D od := by
  obtain ⟨here, _⟩ := I.pin (a, oe) (List.mem_append_left _ (List.mem_cons_self ..))
  obtain ⟨vs, hv⟩ := hf
  have nc : PySem.W.notCls oe := by unfold PySem.W.notCls; rw [hv]
  cases d with
  | none => exact ⟨none, here, hz.1.trans h.c, nc, by rw [hz.2]; trivial⟩
  | some dx =>
    obtain ⟨fs, e⟩ := h.x dx rfl
    obtain ⟨mA, ns, _⟩ := (show ObjOk X.prog X.w H s.heap dx (.xd fs) from I.hok dx _ e)
    obtain ⟨od, ho, _⟩ := lookIn_ns ns
    exact ⟨some od, here, hz.1.trans h.c, nc, by rw [hz.2]; exact ho⟩
theorem call_isC (hz : Zc cls d oe) (hf : ∃ vs, oe.data = .fields vs) : CallR (X.suite a ((a, oe) :: pn)) (.builtin "isinstance") (rIsC X.K a cls d) := by
  rintro pins s σ H _ us Q I r ⟨D, c, cv, b, rfl, h, k, e, q⟩
  obtain ⟨ua, ub, rfl, ra, rb⟩ := vals2 r
  cases k.eq rb
  cases (show ua = Value.ref a from ra)
  obtain ⟨od, M⟩ := held_inst I hz hf h
  exact PySem.W.kia_one (PySem.W.kitx_exc h.e.cl h.e.x.ga h.e.x.gg h.e.x.exC h.e.ofc h.e.sp h.e.tk h.e.mo) I.kIn M e (fun z => nomatch z) fun tk => ⟨.bl b, H, I.tok tk, rfl, q⟩
theorem call_isT (hz : Zc cls d oe) (hf : ∃ vs, oe.data = .fields vs) : CallR (X.suite a ((a, oe) :: pn)) (.builtin "isinstance") (rIsT X.K a cls d) := by
  rintro pins s σ H _ us Q I r ⟨D, t, cs, cvs, b, rfl, h, ht, all, e, q⟩
  obtain ⟨ua, ub, rfl, ra, rb⟩ := vals2 r
  cases (show ua = Value.ref a from ra)
  cases (show ub = Value.ref t from rb)
  obtain ⟨od, M⟩ := held_inst I hz hf h
  obtain ⟨its, rv, ⟨⟨tc, dd, da, ss⟩, at0, c0, n, d0⟩, _⟩ := I.tuple ht
  cases c0
  cases d0
  cases all its rv
  exact PySem.W.kia_tup (PySem.W.kitx_exc h.e.cl h.e.x.ga h.e.x.gg h.e.x.exC h.e.ofc h.e.sp h.e.tk h.e.mo) I.kIn M at0 e (fun z => nomatch z) fun tk => ⟨.bl b, H, I.tok tk, rfl, q⟩
end
/-- two classes of unlike names are not one -/
theorem CF.ne {K : PySem.W.Frag} {mg : Str → Option Value} {x y q1 q2 : Str} {s1 s2 : Stmt} {p1 p2 : List Str} {E C1 C2 f1 f2 : Addr} {d1 d2 : FuncData} (a : CF K mg x q1 s1 p1 E C1 f1 d1) (b : CF K mg y q2 s2 p2 E C2 f2 d2) (n : q1 ≠ q2) : C1 ≠ C2 := fun e => by
  subst e
  have ef : f1 = f2 := by
    have := a.i.symm.trans b.i
    cases this
    rfl
  subst ef
  obtain ⟨oc, od, kV, doc, pm, an, c, ct, osl, rfl, l1, _⟩ := a.F.ex
  obtain ⟨oc', od', kV', doc', pm', an', c', ct', osl', rfl, l2, _⟩ := b.F.ex
  rw [l1] at l2
  simp only [Option.some.injEq, Obj.mk.injEq, Data.func.injEq] at l2
  exact n (by have := congrArg (·.qualname) l2.2.2.1; exact this)
end Fw
set_option maxHeartbeats 2000000
namespace Fw
open PySem PySem.Spec PyProof.Rows L2
/-- an error class that can be raised, with all that is told of it -/
structure Er1 (P : Program) (w : World) (K : PySem.W.Frag) (mg : Str → Option Value) (base : Heap) (x q fld : Str) (E C : Addr) : Prop where
  r : ErR P w K mg base x fld E C
  c : ∃ st f fd, CF K mg x q st ["self", fld] E C f fd
theorem Er1.ne {P : Program} {w : World} {K : PySem.W.Frag} {mg : Str → Option Value} {base : Heap} {x y q1 q2 f1 f2 : Str} {E C1 C2 : Addr} (a : Er1 P w K mg base x q1 f1 E C1) (b : Er1 P w K mg base y q2 f2 E C2) (n : q1 ≠ q2) : C1 ≠ C2 := by
  obtain ⟨_, _, _, a⟩ := a.c
  obtain ⟨_, _, _, b⟩ := b.c
  exact a.ne b n
/-- e of class C is no D -/
theorem Er1.isnt {P : Program} {w : World} {K : PySem.W.Frag} {mg : Str → Option Value} {base : Heap} {x y q1 q2 f1 f2 : Str} {E C1 C2 : Addr} (a : Er1 P w K mg base x q1 f1 E C1) (b : Er1 P w K mg base y q2 f2 E C2) (h : HE K mg E) (n : q1 ≠ q2) : PySem.W.kitOne K (.ref C1) (.ref C2) = some false := by
  rw [kitR a.r.mro b.r.e.cl b.r.e.o.tyC, decide_eq_false]
  rintro (e | e)
  · exact a.ne b n e.symm
  · exact h.ne b.r.mro e
theorem Er1.is {P : Program} {w : World} {K : PySem.W.Frag} {mg : Str → Option Value} {base : Heap} {x q1 f1 : Str} {E C1 : Addr} (a : Er1 P w K mg base x q1 f1 E C1) : PySem.W.kitOne K (.ref C1) (.ref C1) = some true := by
  rw [kitR a.r.mro a.r.e.cl a.r.e.o.tyC, decide_eq_true (.inl rfl)]
section
variable {P : Program} {w : World} {K : PySem.W.Frag} {mg : Str → Option Value} {base : Heap} {E : Addr}
theorem HE.names {X : Cx} {E : Addr} (h : HE X.K X.mg E) (g : Gl X "HouseError") : L2.Names X "HouseError" (.ref E) := ⟨g, by decide, .inl h.g⟩
theorem er1_UnknownPerson (c : CEE K mg E "UnknownPerson" "UnknownPerson.__init__" "name" iUnknownPerson) : ∃ C, Er1 P w K mg base "UnknownPerson" "UnknownPerson.__init__" "name" E C := by
  obtain ⟨C, f, fd, c, no⟩ := c
  refine ⟨C, ⟨c.e, c.g, c.mro, no, f, fd, c.i, c.t, c.b, ?_⟩, _, _, _, c⟩
  refine Fun.ok c.F (N := ["self", "name"]) ⟨rfl, rfl, rfl, by decide +kernel, rfl, by decide +kernel, by decide +kernel⟩ (fun vs H Q E h => ?_) (fun cdv A outer s H vs Q E hr h => ?_)
  · obtain ⟨a, v, rfl, _⟩ := h
    rfl
  · obtain ⟨a, v, rfl, ea, q⟩ := h
    exact ⟨_, pss_one (ps_ost (pv 0) (pv 1)), _, rfl, _, rfl, a, C, rfl, c.e.o, no, .inl ⟨ea, q⟩⟩
theorem er1_InvalidRoom (c : CEE K mg E "InvalidRoom" "InvalidRoom.__init__" "room" iInvalidRoom) : ∃ C, Er1 P w K mg base "InvalidRoom" "InvalidRoom.__init__" "room" E C := by
  obtain ⟨C, f, fd, c, no⟩ := c
  refine ⟨C, ⟨c.e, c.g, c.mro, no, f, fd, c.i, c.t, c.b, ?_⟩, _, _, _, c⟩
  refine Fun.ok c.F (N := ["self", "room"]) ⟨rfl, rfl, rfl, by decide +kernel, rfl, by decide +kernel, by decide +kernel⟩ (fun vs H Q E h => ?_) (fun cdv A outer s H vs Q E hr h => ?_)
  · obtain ⟨a, v, rfl, _⟩ := h
    rfl
  · obtain ⟨a, v, rfl, ea, q⟩ := h
    exact ⟨_, pss_one (ps_ost (pv 0) (pv 1)), _, rfl, _, rfl, a, C, rfl, c.e.o, no, .inl ⟨ea, q⟩⟩
theorem er1_NotAdjacent (c : CEE K mg E "NotAdjacent" "NotAdjacent.__init__" "room" iNotAdjacent) : ∃ C, Er1 P w K mg base "NotAdjacent" "NotAdjacent.__init__" "room" E C := by
  obtain ⟨C, f, fd, c, no⟩ := c
  refine ⟨C, ⟨c.e, c.g, c.mro, no, f, fd, c.i, c.t, c.b, ?_⟩, _, _, _, c⟩
  refine Fun.ok c.F (N := ["self", "room"]) ⟨rfl, rfl, rfl, by decide +kernel, rfl, by decide +kernel, by decide +kernel⟩ (fun vs H Q E h => ?_) (fun cdv A outer s H vs Q E hr h => ?_)
  · obtain ⟨a, v, rfl, _⟩ := h
    rfl
  · obtain ⟨a, v, rfl, ea, q⟩ := h
    exact ⟨_, pss_one (ps_ost (pv 0) (pv 1)), _, rfl, _, rfl, a, C, rfl, c.e.o, no, .inl ⟨ea, q⟩⟩
theorem er1_EmptyRoom (c : CEE K mg E "EmptyRoom" "EmptyRoom.__init__" "room" iEmptyRoom) : ∃ C, Er1 P w K mg base "EmptyRoom" "EmptyRoom.__init__" "room" E C := by
  obtain ⟨C, f, fd, c, no⟩ := c
  refine ⟨C, ⟨c.e, c.g, c.mro, no, f, fd, c.i, c.t, c.b, ?_⟩, _, _, _, c⟩
  refine Fun.ok c.F (N := ["self", "room"]) ⟨rfl, rfl, rfl, by decide +kernel, rfl, by decide +kernel, by decide +kernel⟩ (fun vs H Q E h => ?_) (fun cdv A outer s H vs Q E hr h => ?_)
  · obtain ⟨a, v, rfl, _⟩ := h
    rfl
  · obtain ⟨a, v, rfl, ea, q⟩ := h
    exact ⟨_, pss_one (ps_ost (pv 0) (pv 1)), _, rfl, _, rfl, a, C, rfl, c.e.o, no, .inl ⟨ea, q⟩⟩
end
end Fw
namespace Fw
open PySem PySem.Spec PyProof.Rows L2
/-- a statement that raises nothing, in a def that may raise -/
theorem ps_calm {X : Cx} {st : Stmt} {t : TS} (h : PS X.nox st t) : PS X st t := by
  constructor
  intro pins z σ H D I rd
  exact wpAny_mono (h.run pins z σ H D (I.wish _) rd) (fun _ _ => L2.SP.unwish) fun _ _ no => no.elim
section
variable {P : Program} {w : World} {K : PySem.W.Frag} {mg : Str → Option Value} {base : Heap}
end
end Fw
namespace Fw
open PySem PySem.Spec PyProof.Rows L2
theorem in_emp (P : List (Str × Int)) (r : Int) : ((inside P [r]).map V.str).isEmpty = !decide (r ∈ P.map (·.2)) := by
  rw [Bool.eq_iff_iff, List.isEmpty_iff, List.map_eq_nil_iff, inside_nil, Bool.not_eq_true', decide_eq_false_iff_not]
  constructor
  · intro h m
    obtain ⟨y, hy, e⟩ := List.mem_map.mp m
    exact h y hy (List.mem_singleton.mpr e)
  · intro h x hx m
    rw [List.mem_singleton] at m
    exact h (m ▸ List.mem_map_of_mem (f := (·.2)) hx)
section
variable {P : Program} {w : World} {K : PySem.W.Frag} {mg : Str → Option Value} {base : Heap}
def spLegal : Sp := fun vs H Q _ => ∃ (h p : Addr) (n : Int) (D : List (Int × Int)) (P : List (Str × Int)), vs = [.ref h, .ref p] ∧ HouseAt H h n D ∧ Forest n D ∧ 0 ≤ n ∧ n ≤ 8 ∧ PlAt H p P ∧ P.length ≤ 100 ∧ ∀ H' t, Same H H' → PlD H' t (mvs n D P P) → Q (.ref t) H'
abbrev nLegal : List Str := ["house", "placement", "found", "name", "current", "room"]
theorem scLegal : FnScope nLegal ["house", "placement"] (defScope sLegal) := ⟨rfl, rfl, rfl, by decide +kernel, rfl, by decide +kernel, by decide +kernel⟩
theorem ok_legal {f : Addr} {fd : FuncData} {k : Nat} (F : Fun K "legal_moves" "legal_moves" sLegal f fd) (T : Nm mg) (Cneighbors : Cal P w K mg base (k + 2) "neighbors" ["house", "room"] spNb) (Cpeople_in : Cal P w K mg base (k + 2) "people_in" pPIn spPIn) : FnOk P w K mg base CX0 (k + 3) f fd pHP spLegal := by
  refine F.ok scLegal (fun vs H Q E h => ?_) (fun cdv A outer s H vs Q E hr h => ?_)
  · obtain ⟨h, p, n, D, P, rfl, _⟩ := h
    rfl
  · obtain ⟨h, p, n, D, P, rfl, hH, hF, n0, n1, hP, lP, q⟩ := h
    refine ⟨_, (pss_cons (ps_set (i := 2) scLegal.nd rfl (.inl rfl) (pe_lst pa_nil))
      (pss_cons (ps_for PassesOwn.never rfl (pi_tup (pv 1)) (pg_tup (by rfl) (pgs_cons (pg_name (i := 3) scLegal.nd rfl (.inl rfl)) (pgs_cons (pg_name (i := 4) scLegal.nd rfl (.inl rfl)) pgs_nil)))
      (pss_one (ps_for PassesOwn.never rfl (pi_tup (pe_cal Cneighbors hr (by rfl) (pa_cons (pv 0) (pa_cons (pv 4) pa_nil)))) (pg_name (i := 5) scLegal.nd rfl (.inl rfl))
       (pss_one (ps_if (pt_truthK K rfl (pe_cal Cpeople_in hr (by rfl) (pa_cons (pv 1) (pa_cons (pv 5) pa_nil))) (by intro _; rfl))
        (pss_one (ps_expr (pe_bm PySem.F.plainAttrs_list PySem.F.slot_list_append PySem.F.type_list_append mt_append (pv 2) (pa_cons (pe_tup (pa_cons (pv 3) (pa_cons (pv 5) pa_nil))) pa_nil))))
        pss_nil)))))
      (pss_one (ps_ret (pe_callTy (call_tupleF K rfl) (by rfl) T.tuple (by decide +kernel) (pa_cons (pv 2) pa_nil)))))), ?_⟩
    refine ⟨Nat.zero_le _, fun R hR => ?_⟩
    have sm := same_upd (o := .lst []) hR
    refine ⟨_, rfl, p, rfl, (hP.same sm).sq, for_pl hP (fun i σ' H' => ∃ y3 y4 y5, σ' = [some (.ref h), some (.ref p), some (.ref R), y3, y4, y5] ∧ Same H H' ∧ LsAt H' R (mvs n D P (P.take i)))
      ⟨_, _, _, rfl, sm, .nil upd_same⟩ ?_ ?_ ?_⟩
    · rintro k σ' H' ⟨_, _, _, _, s', _⟩
      exact Tk.of s'
    · rintro k nm r σ' H2 hk ⟨y3, y4, y5, rfl, s2, x2⟩
      refine ⟨_, rfl, _, rfl, h, n, D, r, rfl, hH.same s2, hF, fun H3 u s3 e3 => ?_⟩
      refine ⟨u, rfl, ⟨_, SqT.of e3⟩, for_tup (K := K) (a := u) (xs := vi (nb n D r)) (fun j σ' H' => ∃ y5, σ' = [some (.ref h), some (.ref p), some (.ref R), some (.str nm), some (.int r), y5] ∧ Same H H' ∧ H' u = some (.tup (vi (nb n D r))) ∧ LsAt H' R (mvs n D P (P.take k) ++ (((nb n D r).take j).filter fun t => decide (t ∈ P.map (·.2))).map fun t => (nm, t)))
        ⟨_, rfl, s2.trans s3, e3, by rw [List.take_zero, List.filter_nil, List.map_nil, List.append_nil]; exact x2.same s3⟩ ?_ ?_ ?_⟩
      · rintro j σ' H' _ ⟨_, _, _, e', _⟩
        exact SqT.of e'
      · rintro j x σ' H4 hx ⟨z5, rfl, s4, e4, x4⟩
        obtain ⟨t, ht, rfl⟩ := get_vi hx
        have ef : (((nb n D r).take (j + 1)).filter fun t => decide (t ∈ P.map (·.2))).map (fun t => (nm, t)) = (((nb n D r).take j).filter fun t => decide (t ∈ P.map (·.2))).map (fun t => (nm, t)) ++ if t ∈ P.map (·.2) then [(nm, t)] else [] := by
          rw [take_snoc ht, filter_snoc, List.map_append]
          congr 1
          by_cases c : t ∈ P.map (·.2)
          · rw [if_pos c, if_pos (decide_eq_true c)]
            rfl
          · rw [if_neg c, if_neg (by simpa using c)]
            rfl
        refine ⟨_, rfl, _, rfl, p, P, t, rfl, hP.same s4, lP, fun H5 v s5 e5 => ⟨_, .inr (.inl ⟨_, SqT.of e5, rfl⟩), ?_⟩⟩
        rw [in_emp, Bool.not_not]
        refine ite2 (fun c => ?_) (fun c => ?_)
        · rw [if_pos (of_decide_eq_true c)] at ef
          obtain ⟨xs5, er5, _⟩ := (x4.same s5).tup
          refine ⟨_, rfl, .inl ⟨rfl, _, SqL.of er5⟩, _, rfl, _, rfl, by show 2 ≤ sizeLine; decide, fun a ha => ?_⟩
          have s6 := same_upd (o := .tup [.str nm, .int t]) ha
          obtain ⟨acc, a1, a2, a3⟩ := ((x4.same s5).same s6).snoc (t := a) upd_same
          refine ⟨R, _, _, rfl, rfl, a1, ?_, _, rfl, same_put (s4.trans (s5.trans s6)) hR, ?_, ?_⟩
          · rw [a2, List.length_append, List.length_map]
            have h1 := List.length_filter_le (fun t => decide (t ∈ P.map (·.2))) ((nb n D r).take j)
            have h2 := nb_len n D r
            rw [List.length_take] at h1
            have h3 := mvs_len n D P (P.take k) n1
            rw [List.length_take] at h3
            exact small1000 (by omega)
          · have e6 := s6 _ _ (s5 _ _ e4)
            rw [upd_ne (ne_of e6 a1 (by intro z; cases z))]
            exact e6
          · rw [ef, ← List.append_assoc]
            exact a3
        · rw [if_neg (fun z => c (decide_eq_true z)), List.append_nil] at ef
          refine ⟨_, rfl, s4.trans s5, s5 _ _ e4, ?_⟩
          rw [ef]
          exact x4.same s5
      · rintro σ' H4 ⟨z5, rfl, s4, e4, x4⟩
        rw [List.length_map, List.take_length] at x4
        refine ⟨_, _, _, rfl, s4, ?_⟩
        rw [mvs_snoc hk]
        exact x4
    · rintro σ' H2 ⟨y3, y4, y5, rfl, s2, x2⟩
      rw [List.take_length] at x2
      obtain ⟨xs, e2, e3⟩ := x2.tup
      exact ⟨_, rfl, R, _, rfl, SqL.of e2, fun t ob ht od => q _ t (s2.trans (same_upd ht)) (e3 t ob ht od)⟩
end
end Fw
namespace Fw
open PySem PySem.Spec PyProof.Rows L2
section
variable {P : Program} {w : World} {K : PySem.W.Frag} {mg : Str → Option Value} {base : Heap}
/-- move_person of a known person to a room of the house: the two errors, or the move -/
def spMoveX (C1 C2 : Addr) : Sp := fun vs H Q E => ∃ (h p : Addr) (n : Int) (D : List (Int × Int)) (P : List (Str × Int)) (nm : Str) (r c : Int), vs = [.ref h, .ref p, .str nm, .int r] ∧ HouseAt H h n D ∧ Forest n D ∧ 0 ≤ n ∧ n ≤ 8 ∧ PlAt H p P ∧ Pl n P ∧ P.length ≤ 100 ∧ (nm, c) ∈ P ∧ 0 ≤ r ∧ r < n ∧
  (r ∈ nb n D c → r ∈ P.map (·.2) → ∀ H' u, Same H H' → PlD H' u (mvd P nm r) → Q (.ref u) H') ∧
  (r ∉ nb n D c → ∀ d H', Same H H' → H' d = some (.xd [("room", .int r)]) → E (.ref C1) (some d) H') ∧
  (r ∈ nb n D c → r ∉ P.map (·.2) → ∀ d H', Same H H' → H' d = some (.xd [("room", .int r)]) → E (.ref C2) (some d) H')
theorem ok_moveX {f : Addr} {fd : FuncData} {k : Nat} {E1 C1 E2 C2 : Addr} (F : Fun K "move_person" "move_person" sMove f fd) (T : Nm mg) (Croom_of : Cal P w K mg base (k + 2) "room_of" pRoomOf spRoomOf) (Cis_room : Cal P w K mg base (k + 2) "is_room" pIsRoom spIsRoom)
    (Cneighbors : Cal P w K mg base (k + 2) "neighbors" ["house", "room"] spNb) (Cpeople_in : Cal P w K mg base (k + 2) "people_in" pPIn spPIn) (Cwith : Cal P w K mg base (k + 2) "with_person_in" pWith spWith) (RN : ErR P w K mg base "NotAdjacent" "room" E1 C1) (RE : ErR P w K mg base "EmptyRoom" "room" E2 C2) : FnOk P w K mg base (L2.CX P w) (k + 3) f fd pMove (spMoveX C1 C2) := by
  refine F.okX scMove (fun vs H Q E h => ?_) (fun cdv A outer s H vs Q E hr h => ?_)
  · obtain ⟨h, p, n, D, P, nm, r, c, rfl, _⟩ := h
    rfl
  · obtain ⟨h, p, n, D, P, nm, r, c, rfl, hH, hF, n0, n1, hP, pl, lP, hm, r0, r1, q, qN, qE⟩ := h
    refine ⟨_, (pss_cons (ps_set (i := 4) scMove.nd rfl (.inl rfl) (pe_cal Croom_of hr (by rfl) (pa_cons (pv 1) (pa_cons (pv 2) pa_nil))))
      (pss_cons (ps_if (pt_not (pt_val (pe_cal Cis_room hr (by rfl) (pa_cons (pv 0) (pa_cons (pv 3) pa_nil)))))
      pss_never
      pss_nil)
      (pss_cons (ps_if (pt_cmpR (op_notInK K rfl) (pv 3) (pe_cal Cneighbors hr (by rfl) (pa_cons (pv 0) (pa_cons (pv 4) pa_nil))) (by rfl))
      (pss_one (ps_raise rfl (takes_of rfl rfl rfl rfl) (pmk_er RN hr (by rfl) (pv 3))))
      pss_nil)
      (pss_cons (ps_if (pt_not (pt_truthK K rfl (pe_cal Cpeople_in hr (by rfl) (pa_cons (pv 1) (pa_cons (pv 3) pa_nil))) (by intro _; rfl)))
      (pss_one (ps_raise rfl (takes_of rfl rfl rfl rfl) (pmk_er RE hr (by rfl) (pv 3))))
      pss_nil)
      (pss_one (ps_ret (pe_cal Cwith hr (by rfl) (pa_cons (pv 1) (pa_cons (pv 2) (pa_cons (pv 3) pa_nil)))))))))), ?_⟩
    refine ⟨_, rfl, _, rfl, p, P, nm, c, rfl, hP, hm, pl.nodup, ?_⟩
    refine ⟨_, rfl, _, rfl, h, n, D, r, rfl, hH, _, rfl, ?_⟩
    rw [decide_eq_true (show 0 ≤ r ∧ r < n from ⟨r0, r1⟩)]
    refine iteF ⟨_, rfl, _, rfl, _, rfl, h, n, D, c, rfl, hH, hF, fun H1 t s1 e1 => ⟨t, _, rfl, .inr (SqT.of e1), rfl, flat_vi _, _, rfl, ?_⟩⟩
    rw [if_pos rfl, inV_vi]
    by_cases hr1 : ¬ r ∈ nb n D c
    · rw [decide_eq_false hr1]
      exact iteT ⟨_, rfl, raise_end fun d H' s' e' => qN hr1 d H' (s1.trans s') e'⟩
    have hr1 := Decidable.not_not.mp hr1
    rw [decide_eq_true hr1]
    refine iteF ⟨_, rfl, _, rfl, p, P, r, rfl, hP.same s1, lP, fun H2 u s2 e2 => ⟨_, .inr (.inl ⟨_, SqT.of e2, rfl⟩), ?_⟩⟩
    by_cases hr2 : ¬ r ∈ P.map (·.2)
    · have em : inside P [r] = [] := inside_nil.mpr fun y hy e => hr2 (List.mem_map.mpr ⟨y, hy, List.mem_singleton.mp e⟩)
      have em' : ((inside P [r]).map V.str).isEmpty = true := by rw [em]; rfl
      rw [em']
      exact iteT ⟨_, rfl, raise_end fun d H' s' e' => qE hr1 hr2 d H' ((s1.trans s2).trans s') e'⟩
    have hr2 := Decidable.not_not.mp hr2
    have q := q hr1 hr2
    obtain ⟨y, hy, ey⟩ := List.mem_map.mp hr2
    have ne : inside P [r] ≠ [] := fun e => (inside_nil.mp e) y hy (by rw [ey]; exact List.mem_singleton.mpr rfl)
    have ne' : ((inside P [r]).map V.str).isEmpty = false := by
      rw [List.isEmpty_eq_false_iff]
      exact fun e => ne (List.map_eq_nil_iff.mp e)
    rw [ne']
    have s2 := s1.trans s2
    exact iteF ⟨_, rfl, _, rfl, _, rfl, p, P, nm, r, rfl, hP.same s2, lP, fun H3 u s3 e3 => q _ u (s2.trans s3) e3⟩
end
end Fw
set_option maxHeartbeats 2000000
namespace Fw
open PySem PySem.Spec PyProof.Rows L2
/-- l != [], whatever lies in l -/
def rNeL0 (K : PySem.W.Frag) : R2 := fun x y H Q => ∃ (a b : Addr) (xs : List V), x = .ref a ∧ y = .ref b ∧ SqL K H a xs ∧ SqL K H b [] ∧ Q (.bl (!xs.isEmpty)) H
theorem op_neL0 {X : Cx} (hu : X.A.units < cLine) : OpR X (compareOp .NotEq) (rNeL0 X.K) := by
  rintro pn z σ H _ _ v u Q J rx ry ⟨a, b, xs, rfl, rfl, ha, hb, q⟩
  cases (show v = Value.ref a from rx)
  cases (show u = Value.ref b from ry)
  obtain ⟨ia, ra, pa, _⟩ := J.list ha
  obtain ⟨_, rb, pb, _⟩ := J.list hb
  cases rb
  match xs, ra with
  | [], .nil => exact SeqAt.RcNeAt.lists (e := fun _ => true) pa.isList pb.isList rfl hu (fun j h1 _ => absurd h1 (by simp)) X.prog X.w _ _ ⟨.bl false, H, J, rfl, q⟩
  | _ :: _, .cons _ _ => exact SeqAt.RcNeAt.lists_lengths pa.isList pb.isList (by simp) hu X.prog X.w _ _ ⟨.bl true, H, J, rfl, q⟩
/-! ### placements compared -/
theorem eqvAll_pp : ∀ (R G : List (Str × Int)), PyData.eqvAll (R.map pp) (G.map pp) = decide (R = G)
  | [], [] => rfl
  | [], _ :: _ => by rw [List.map_nil, List.map_cons, PyData.eqvAll]; rfl
  | _ :: _, [] => by rw [List.map_nil, List.map_cons, PyData.eqvAll]; rfl
  | x :: R, y :: G => by
    rw [List.map_cons, List.map_cons, PyData.eqvAll, eqvAll_pp R G]
    obtain ⟨x1, x2⟩ := x
    obtain ⟨y1, y2⟩ := y
    simp only [pp, PyData.eqv, PyData.eqvAll, Bool.and_true]
    rw [Bool.eq_iff_iff]
    simp
theorem eqv_pld (R G : List (Str × Int)) : PyData.eqv (pld R) (pld G) = decide (R = G) := by
  unfold pld
  rw [PyData.eqv]
  exact eqvAll_pp R G
end Fw
set_option maxHeartbeats 2000000
namespace Fw
open PySem PySem.Spec PyProof.Rows L2
/-! dicts keyed by placements -/
/-- a placement as a key -/
def pk (P : List (Str × Int)) : NestedKey := .tup (P.map fun x => .tup [.text x.1, .num x.2])
theorem pk_inj : ∀ {P R : List (Str × Int)}, pk P = pk R → P = R := by
  intro P R h
  injection h with h
  induction P generalizing R with
  | nil => cases R with
    | nil => rfl
    | cons y r => cases h
  | cons x P ih => cases R with
    | nil => cases h
    | cons y R =>
      rw [List.map_cons, List.map_cons] at h
      injection h with h1 h2
      injection h1 with h1
      injection h1 with h1 h3
      injection h1 with h1
      injection h3 with h3 h4
      injection h3 with h3
      rw [ih h2, Prod.ext h1 h3]
theorem pk_depth (P : List (Str × Int)) : (pk P).depth ≤ 2 := by
  have : NestedKey.depthAll (P.map fun x => NestedKey.tup [.text x.1, .num x.2]) ≤ 1 := by
    induction P with
    | nil => exact Nat.zero_le _
    | cons x P ih =>
      rw [List.map_cons]
      simp only [NestedKey.depthAll, NestedKey.depth]
      omega
  unfold pk
  simp only [NestedKey.depth]
  omega
/-- what the object of such a dict is -/
def DnO (P : Program) (w : World) (d : Addr) (xs : List (NestedKey × Addr × Value)) : HO :=
  .ext fun h => ∃ o es ep, h.get? d = some o ∧ o.ExactDict ∧ o.data = .dict es ep ∧ es.toList = xs.map (entryOfKey (nestedKind P w)) ∧ (xs.map (·.1)).Nodup
/-- what ties an entry to what is told of it -/
def DnE (H : Hp) (p : List (Str × Int) × V) (q : NestedKey × Addr × Value) : Prop := pk p.1 = q.1 ∧ PlAt H q.2.1 p.1 ∧ RelV p.2 q.2.2
structure DnAt (P : Program) (w : World) (H : Hp) (d : Addr) (ks : List (List (Str × Int) × V)) : Prop where
  ex : ∃ xs, H d = some (DnO P w d xs) ∧ Paired (DnE H) ks xs
  no : d ≠ sysModules
  z : ks.length ≤ sizeLine
theorem paired_right {α β : Type} {F : α → β → Prop} : ∀ {xs : List α} {ys : List β}, Paired F xs ys → ∀ {y : β}, y ∈ ys → ∃ x, F x y
  | _, _, .nil, _, h => nomatch h
  | _, _, .cons h r, y, m => by
    rcases List.mem_cons.mp m with e | m
    · exact e ▸ ⟨_, h⟩
    · exact paired_right r m
section
variable {X : Cx} {pins : List (Addr × Obj)} {σ : L2.St} {H : Hp} {s : Shared}
theorem nested_row (I : Inv X pins σ H s) {a : Addr} {z : Str} {i : Int} (h : H a = some (.tup [.str z, .int i])) : NestedIs s.heap (.tup [.text z, .num i]) (.ref a) := by
  obtain ⟨its, r, pl, _⟩ := I.tuple (SqT.of h)
  obtain ⟨o, ho, hc, n, hd⟩ := pl
  cases r with
  | cons r1 r =>
    cases r with
    | cons r2 r =>
      cases r
      obtain ⟨t1, e1⟩ := r1
      obtain ⟨t2, e2⟩ := r2
      exact .tup ho hc hd (.cons (by rw [e1]; exact .text _ _) (.cons (by rw [e2]; exact .int _ _) .nil))
theorem nested_rows (I : Inv X pins σ H s) : ∀ {ps : List (Addr × Str × Int)} {its : List Value}, (∀ q ∈ ps, H q.1 = some (.tup [.str q.2.1, .int q.2.2])) → Vals (ps.map fun q => V.ref q.1) its → NestedAll s.heap ((ps.map (·.2)).map fun x => NestedKey.tup [.text x.1, .num x.2]) its
  | [], _, _, r => by cases r; exact .nil
  | q :: ps, _, h, r => by
    cases r with
    | cons r1 r2 =>
      cases r1
      exact .cons (nested_row I (h q (List.mem_cons_self ..))) (nested_rows I (fun y hy => h y (List.mem_cons_of_mem _ hy)) r2)
/-- a placement that lies in memory is that key -/
theorem nested_pl (I : Inv X pins σ H s) {a : Addr} {P : List (Str × Int)} (h : PlAt H a P) : (nestedKind X.prog X.w).is s.heap (pk P) a := by
  obtain ⟨ps, h1, rfl, h3⟩ := h
  obtain ⟨its, r, pl, _⟩ := I.tuple (h1.sq (K := X.K))
  obtain ⟨o, ho, hc, n, hd⟩ := pl
  exact ⟨.tup ho hc hd (nested_rows I h3 r), Nat.le_trans (pk_depth _) (by decide)⟩
theorem keys_pk {ks : List (List (Str × Int) × V)} {xs : List (NestedKey × Addr × Value)} (pr : Paired (DnE H) ks xs) : (pairsH xs).map (·.1) = ks.map fun p => pk p.1 := by
  induction pr with
  | nil => rfl
  | cons h _ ih =>
    exact congr (congrArg List.cons h.1.symm) ih
theorem value_pk {ks : List (List (Str × Int) × V)} {xs : List (NestedKey × Addr × Value)} (pr : Paired (DnE H) ks xs) {P : List (Str × Int)} {v : V} (m : (P, v) ∈ ks) : ∃ u, (pk P, u) ∈ pairsH xs ∧ RelV v u := by
  induction pr with
  | nil => cases m
  | cons h _ ih =>
    rcases List.mem_cons.mp m with e | m
    · subst e
      exact ⟨_, by rw [h.1]; exact List.mem_cons_self, h.2.2⟩
    · obtain ⟨u, hu, r⟩ := ih m
      exact ⟨u, List.mem_cons_of_mem _ hu, r⟩
/-- what the rules of such a dict want -/
theorem DnAt.keyed {ks : List (List (Str × Int) × V)} {d : Addr} (I : Inv X pins σ H s) (h : DnAt X.prog X.w H d ks) : ∃ xs, H d = some (DnO X.prog X.w d xs) ∧ Paired (DnE H) ks xs ∧ s.heap.DictOfH (nestedKind X.prog X.w) d xs := by
  obtain ⟨xs, e, pr⟩ := h.ex
  obtain ⟨⟨o, es, ep, ho, he, hd, hl, hn⟩, _, _⟩ := (show ObjOk X.prog X.w H s.heap d (DnO X.prog X.w d xs) from I.hok d _ e)
  refine ⟨xs, e, pr, o, es, ep, ho, he, hd, hl, fun x hx => ?_, hn⟩
  obtain ⟨p, hp⟩ := paired_right pr hx
  rw [← hp.1]
  exact nested_pl I hp.2.1
theorem op_notInP (hu : X.A.units + 64 < cLine) : OpR X (compareOp .NotIn) (fun x y H Q => ∃ (a d : Addr) (P : List (Str × Int)) (ks : List (List (Str × Int) × V)), x = .ref a ∧ y = .ref d ∧ PlAt H a P ∧ DnAt X.prog X.w H d ks ∧ Q (.bl (!decide (∃ p ∈ ks, p.1 = P))) H) := by
  rintro pn s σ H _ _ v u Q I rx ry ⟨a, d, P, ks, rfl, rfl, hp, hd, q⟩
  cases (show v = Value.ref a from rx)
  cases (show u = Value.ref d from ry)
  obtain ⟨xs, e, pr, hm⟩ := hd.keyed I
  refine notIn_keyed (knd := nestedKind X.prog X.w) (A := X.A) (by show X.A.units + 1 + 8 < cLine; omega) (nested_pl I hp) (by simpa using hd.no) ⟨xs, hm, rfl⟩ ?_
  refine ⟨.bl _, H, I.tok _, ?_, q⟩
  show Value.bool _ = Value.bool _
  congr 2
  rw [Bool.eq_iff_iff, valueAt_isSome, keys_pk pr, decide_eq_true_iff]
  constructor
  · intro m
    obtain ⟨p, hp, e⟩ := List.mem_map.mp m
    exact ⟨p, hp, pk_inj e⟩
  · rintro ⟨p, mp, rfl⟩
    exact List.mem_map_of_mem (f := fun p : List (Str × Int) × V => pk p.1) mp
theorem getItem_pk (hu : X.A.units + 64 < cLine) {d b : Addr} {P : List (Str × Int)} {v : V} {ks : List (List (Str × Int) × V)} {Q : Value → Shared → Prop} {E : Value → Shared → Prop} (I : Inv X pins σ H s) (hp : PlAt H b P) (hd : DnAt X.prog X.w H d ks) (m : (P, v) ∈ ks)
    (h : ∀ u s', Inv X pins σ H s' → RelV v u → Q u s') : wpAny (model X.prog X.w) X.A (getItem (.ref d) (.ref b)) Q E s := by
  obtain ⟨xs, e, pr, hm⟩ := hd.keyed I
  obtain ⟨u, hu', r⟩ := value_pk pr m
  have nd : ((pairsH xs).map (·.1)).Nodup := Heap.DictKeyed.nodup ⟨xs, hm, rfl⟩
  exact getItem_keyed (knd := nestedKind X.prog X.w) (A := X.A) (by show X.A.units + 1 + 8 < cLine; omega) (nested_pl I hp) ⟨xs, hm, rfl⟩ (valueAt_of_mem nd hu') (h u _ (I.tok _) r)
theorem paired_map {α β : Type} {F G : α → β → Prop} (i : ∀ x y, F x y → G x y) : ∀ {xs : List α} {ys : List β}, Paired F xs ys → Paired G xs ys
  | _, _, .nil => .nil
  | _, _, .cons h r => .cons (i _ _ h) (paired_map i r)
theorem paired_snoc {α β : Type} {F : α → β → Prop} {x : α} {y : β} (h : F x y) : ∀ {xs : List α} {ys : List β}, Paired F xs ys → Paired F (xs ++ [x]) (ys ++ [y])
  | _, _, .nil => .cons h .nil
  | _, _, .cons h1 r => .cons h1 (paired_snoc h r)
theorem Tk.putE {H H' : Hp} (a : Tk H H') {L : Addr} {φ : Heap → Prop} {o : HO} (h : H' L = some (.ext φ)) : Tk H (upd H' L o) := by
  refine ⟨fun e => ?_, fun e => ?_⟩
  · rw [upd_ne (ne_of (a.t e) h (by intro z; cases z))]
    exact a.t e
  · rw [upd_ne (ne_of (a.f e) h (by intro z; cases z))]
    exact a.f e
/-- such a dict stays while it and the tuples stay -/
theorem DnAt.tk {P : Program} {w : World} {H H' : Hp} {d : Addr} {ks : List (List (Str × Int) × V)} (h : DnAt P w H d ks) (t : Tk H H') (e : H' d = H d) : DnAt P w H' d ks := by
  obtain ⟨⟨xs, h1, h2⟩, h3, h4⟩ := h
  exact ⟨⟨xs, e.trans h1, paired_map (fun _ _ z => ⟨z.1, z.2.1.tk t, z.2.2⟩) h2⟩, h3, h4⟩
theorem DnAt.same {P : Program} {w : World} {H H' : Hp} {d : Addr} {ks : List (List (Str × Int) × V)} (h : DnAt P w H d ks) (s : Same H H') : DnAt P w H' d ks := by
  obtain ⟨xs, h1, _⟩ := h.ex
  exact h.tk (Tk.of s) ((s _ _ h1).trans h1.symm)
/-- d[p] = v, p not there yet -/
theorem setItem_pk (hu : X.A.units + 64 < cLine) {d b : Addr} {P : List (Str × Int)} {v : V} {u : Value} {ks : List (List (Str × Int) × V)} {Q : Unit → Shared → Prop} {E : Value → Shared → Prop} (I : Inv X pins σ H s) (hp : PlAt H b P) (hd : DnAt X.prog X.w H d ks) (nw : ∀ p ∈ ks, p.1 ≠ P) (z : ks.length < sizeLine) (rv : RelV v u)
    (h : ∀ H' s', Inv X pins σ H' s' → (∃ xs, H' = upd H d (DnO X.prog X.w d xs)) → DnAt X.prog X.w H' d (ks ++ [(P, v)]) → Q () s') : wpAny (model X.prog X.w) X.A (setItem (.ref d) (.ref b) u) Q E s := by
  obtain ⟨xs, e, pr, hm⟩ := hd.keyed I
  have lx : xs.length = ks.length := by
    have := congrArg List.length (keys_pk pr)
    rw [List.length_map, List.length_map, pairsH_length] at this
    exact this
  have no : atKey xs (pk P) = none := by
    cases k : atKey xs (pk P) with
    | none => rfl
    | some y =>
      have : (valueAt (pairsH xs) (pk P)).isSome = true := by rw [valueAt_pairsH, k]; rfl
      rw [valueAt_isSome, keys_pk pr] at this
      obtain ⟨p, m, q⟩ := List.mem_map.mp this
      exact absurd (pk_inj q) (nw p m)
  refine wpAny_setItem_heap (knd := nestedKind X.prog X.w) (A := X.A) (hsz := by rw [lx]; exact hd.z) (by show X.A.units + 1 + 8 < cLine; omega) (nested_pl I hp) hm fun h' hm' hs => ?_
  rw [storedH_new no] at hm'
  obtain ⟨o, es, ep, ho, he, hdt, hl, hk, hn⟩ := hm'
  have new : ObjOk X.prog X.w (upd H d (DnO X.prog X.w d (xs ++ [(pk P, b, u)]))) h' d (DnO X.prog X.w d (xs ++ [(pk P, b, u)])) :=
    ⟨⟨o, es, ep, ho, he, hdt, hl, hn⟩, ⟨o, ho⟩, fun h1 h2 ⟨o, es, ep, ho, r⟩ k => ⟨o, es, ep, k o ho, r⟩⟩
  have t : Tk H (upd H d (DnO X.prog X.w d (xs ++ [(pk P, b, u)]))) := Tk.refl.putE e
  refine h _ _ (d_write I (by rw [e]; exact True.intro) hs ⟨o, ho⟩ new) ⟨_, rfl⟩ ⟨⟨_, upd_same, paired_snoc ⟨rfl, hp.tk t, rv⟩ (paired_map (fun _ _ z => ⟨z.1, z.2.1.tk t, z.2.2⟩) pr)⟩, hd.no, ?_⟩
  rw [List.length_append]
  exact z
theorem dn_empty {P : Program} {w : World} {H : Hp} (h : Heap) : ObjOk P w H (h.push { cls := .type "dict", data := .dict #[] }) h.objs.size (DnO P w h.objs.size []) :=
  ⟨⟨_, #[], 0, Heap.get?_push_size _ rfl, ⟨rfl, rfl, rfl⟩, rfl, rfl, List.nodup_nil⟩, ⟨_, Heap.get?_push_size _ rfl⟩, fun h1 h2 ⟨o, es, ep, ho, r⟩ k => ⟨o, es, ep, k o ho, r⟩⟩
/-- {p: v} -/
def tDNewP (P : Program) (w : World) (tk tv : TE) : TE := fun σ H Q => ∀ d, H d = none → d ≠ sysModules → tk σ (upd H d (DnO P w d [])) fun x H1 => tv σ H1 fun y H2 => ∃ b R, x = .ref b ∧ PlAt H2 b R ∧ H2 d = some (DnO P w d []) ∧
  ∀ H3, (∃ xs, H3 = upd H2 d (DnO P w d xs)) → DnAt P w H3 d [(R, y)] → Q (.ref d) H3
theorem pe_dnewP (hu : X.A.units + 64 < cLine) {k v : Expr} {tk tv : TE} {pos : Pos} (hk : PE X k tk) (hv : PE X v tv) : PE X (.Dict [some k] [v] pos) (tDNewP X.prog X.w tk tv) := by
  refine ⟨fun pn z σ H Q I h => ?_⟩
  have I0 := I.laid (a := z.heap.objs.size) (o := DnO X.prog X.w z.heap.objs.size []) (t' := z.toks) (fun _ _ q => Heap.get?_push_of_some _ q) (Nat.le_refl _) (dn_empty z.heap)
  have h0 := h z.heap.objs.size (I.hok.fresh (Nat.le_refl _)) (fun e => Nat.ne_of_lt I.big e.symm)
  have one := dictDisplay_pairs [(eval k X.env, (do let x ← eval v X.env; standAt pos; pure x : Sem Value))] (by simp) (show 1 < 17 by decide)
  rw [arm_eval_Dict]
  refine wpAny_bind (wpAny_standAt ?_)
  refine (congrArg (fun t => wpAny (model X.prog X.w) X.A t (EP X pn σ Q) X.xe z) one).mpr ?_
  refine wpAny_bind (wpAny_subDictH (knd := nestedKind X.prog X.w) (by show X.A.units + 8 < cLine; omega) (show 1 ≤ 15 by decide) (evalPairs_cons (thn (hk.run pn _ σ _ _ I0 h0) fun kv s1 a1 => ?_)))
  obtain ⟨x, H1, I1, rx, q1⟩ := a1
  refine wpAny_bind (thn (hv.run pn s1 σ H1 _ I1 q1) fun vv s2 a2 => ?_)
  obtain ⟨y, H2, I2, ry, b, R, rfl, hp, e2, q2⟩ := a2
  cases (show kv = Value.ref b from rx)
  have now := I2.hok _ _ e2
  obtain ⟨⟨o, es, ep, ho, he, hd, hl, hn⟩, _, _⟩ := (show ObjOk X.prog X.w H2 s2.heap z.heap.objs.size (DnO X.prog X.w z.heap.objs.size []) from now)
  refine wpAny_bind (wpAny_standAt (wpAny_pure (evalPairs_nil ⟨[(pk R, b, vv)], ⟨rfl, rfl, nested_pl I2 hp, True.intro⟩, ⟨o, es, ep, ho, he, hd, hl, (fun x hx => by cases hx), hn⟩, fun h' tk hm' hs => wpAny_pure ?_⟩)))
  rw [show storedAllH [] [(pk R, b, vv)] = [(pk R, b, vv)] from rfl] at hm'
  obtain ⟨o, es, ep, ho, he, hd, hl, hk, hn⟩ := hm'
  have new : ObjOk X.prog X.w (upd H2 z.heap.objs.size (DnO X.prog X.w z.heap.objs.size [(pk R, b, vv)])) h' z.heap.objs.size (DnO X.prog X.w z.heap.objs.size [(pk R, b, vv)]) :=
    ⟨⟨o, es, ep, ho, he, hd, hl, hn⟩, ⟨o, ho⟩, fun h1 h2 ⟨o, es, ep, ho, r⟩ k => ⟨o, es, ep, k o ho, r⟩⟩
  have t : Tk H2 (upd H2 z.heap.objs.size (DnO X.prog X.w z.heap.objs.size [(pk R, b, vv)])) := Tk.refl.putE e2
  exact ⟨.ref z.heap.objs.size, _, d_write I2 (by rw [e2]; exact True.intro) hs ⟨o, ho⟩ new, rfl, q2 _ ⟨_, rfl⟩ ⟨⟨_, upd_same, .cons ⟨rfl, hp.tk t, ry⟩ .nil⟩, fun e => Nat.ne_of_lt I.big e.symm, by show 1 ≤ sizeLine; decide⟩⟩
/-- d[p], p there -/
def tPGet (P : Program) (w : World) (td ty : TE) : TE := fun σ H Q => td σ H fun x H1 => ty σ H1 fun y H2 => ∃ (d b : Addr) (R : List (Str × Int)) (v : V) (ks : List (List (Str × Int) × V)), x = .ref d ∧ y = .ref b ∧ PlAt H2 b R ∧ DnAt P w H2 d ks ∧ (R, v) ∈ ks ∧ Q v H2
theorem pe_pget (hu : X.A.units + 64 < cLine) {o i : Expr} {pos : Pos} {td ty : TE} (ho : PE X o td) (hi : PE X i ty) (hs : NoSl i) : PE X (.Subscript o i pos) (tPGet X.prog X.w td ty) :=
  ⟨fun pn z σ H Q I h => subD_of PySem.F.slot_dict_getitem.lookup hs (thn (ho.run pn z σ H _ I h) fun u z1 a1 => by
    obtain ⟨x, H1, I1, rx, q1⟩ := a1
    refine thn (hi.run pn z1 σ H1 _ I1 q1) fun iv z2 a2 => ?_
    obtain ⟨y, H2, I2, ry, d, b, R, v, ks, rfl, rfl, hp, hd, m, q⟩ := a2
    cases (show u = Value.ref d from rx)
    cases (show iv = Value.ref b from ry)
    obtain ⟨xs, _, _, hm⟩ := hd.keyed I2
    exact ⟨hm.typeIs, getItem_pk hu I2 hp hd m fun w' z3 I3 rw' => ⟨v, H2, I3, rw', q⟩⟩)⟩
/-- d[p] = v, p not there yet -/
def sPPut (P : Program) (w : World) (td ty tv : TE) : TS := fun D σ H => tv σ H fun v H1 => td σ H1 fun x H2 => ty σ H2 fun y H3 => ∃ (d b : Addr) (R : List (Str × Int)) (ks : List (List (Str × Int) × V)), x = .ref d ∧ y = .ref b ∧ PlAt H3 b R ∧ DnAt P w H3 d ks ∧ (∀ p ∈ ks, p.1 ≠ R) ∧ ks.length < sizeLine ∧
  ∀ H4, (∃ xs, H4 = upd H3 d (DnO P w d xs)) → DnAt P w H4 d (ks ++ [(R, v)]) → D.nx σ H4
theorem ps_pput (hu : X.A.units + 64 < cLine) {o i value : Expr} {pos pos' : Pos} {td ty tv : TE} (ho : PE X o td) (hi : PE X i ty) (hv : PE X value tv) (hs : swapsWith value (some (.Subscript o i pos')) pos.line X.env = pure false) :
    PS X (.Assign [.Subscript o i pos'] value pos) (sPPut X.prog X.w td ty tv) := by
  refine ⟨fun pn z σ H D I h => wpAny_Assign_Subscript (thn (hv.run pn z σ H _ I h) fun r z1 a1 => ?_) hs⟩
  obtain ⟨v, H1, I1, rv, q1⟩ := a1
  refine thn (ho.run pn z1 σ H1 _ I1 q1) fun u z2 a2 => ?_
  obtain ⟨x, H2, I2, rx, q2⟩ := a2
  refine thn (hi.run pn z2 σ H2 _ I2 q2) fun iv z3 a3 => ?_
  obtain ⟨y, H3, I3, ry, d, b, R, ks, rfl, rfl, hp, hd, nw, zz, q⟩ := a3
  cases (show u = Value.ref d from rx)
  cases (show iv = Value.ref b from ry)
  exact setItem_pk hu I3 hp hd nw zz rv fun H4 z4 I4 e d4 => ⟨σ, H4, I4, q H4 e d4⟩
end
end Fw
set_option maxHeartbeats 2000000
namespace Fw
open PySem PySem.Spec PyProof.Rows L2
/-! placements that are reached in so many moves, and how many there can be -/
inductive Rb (n : Int) (D : List (Int × Int)) : Nat → List (Str × Int) → List (Str × Int) → Prop
  | zero {P : List (Str × Int)} : Rb n D 0 P P
  | step {k : Nat} {P Q : List (Str × Int)} {a : Str} {r : Int} : Rb n D k P Q → (a, r) ∈ mvs n D Q Q → Rb n D (k + 1) P (mvd Q a r)
section
variable {n : Int} {D : List (Int × Int)} {P Q R : List (Str × Int)} {k : Nat}
theorem Rb.names (h : Rb n D k P R) : R.map (·.1) = P.map (·.1) := by
  induction h with
  | zero => rfl
  | step _ _ ih => rw [mvd_names, ih]
/-- the rooms with somebody in them only become fewer -/
theorem Rb.rooms (h : Rb n D k P R) {r : Int} (m : r ∈ R.map (·.2)) : r ∈ P.map (·.2) := by
  induction h with
  | zero => exact m
  | step _ ma ih =>
    obtain ⟨c, _, _, ht⟩ := mvs_mem ma
    obtain ⟨x, hx, e⟩ := List.mem_map.mp m
    obtain ⟨y, hy, e'⟩ := List.mem_map.mp hx
    subst e'
    dsimp only at e
    split at e
    · exact ih (e ▸ ht)
    · exact ih (e ▸ List.mem_map_of_mem (f := (·.2)) hy)
theorem Rb.pl (h : Rb n D k P R) (pl : Pl n P) : Pl n R := by
  refine ⟨by rw [h.names]; exact pl.nm, fun x hx => ?_⟩
  obtain ⟨y, hy, e⟩ := List.mem_map.mp (h.rooms (List.mem_map_of_mem (f := (·.2)) hx))
  rw [← e]
  exact pl.rm y hy
end
/-- all placements of these people in n rooms -/
def allP (n : Nat) : List Str → List (List (Str × Int))
  | [] => [[]]
  | z :: zs => (List.range n).flatMap fun r : Nat => (allP n zs).map fun R => (z, Int.ofNat r) :: R
theorem sum_const {α : Type} (m : Nat) : ∀ xs : List α, (xs.map fun _ => m).sum = xs.length * m
  | [] => by simp
  | x :: xs => by rw [List.map_cons, List.sum_cons, sum_const m xs, List.length_cons, Nat.succ_mul, Nat.add_comm]
theorem allP_len (n : Nat) : ∀ zs, (allP n zs).length = n ^ zs.length
  | [] => rfl
  | z :: zs => by
    unfold allP
    rw [List.length_flatMap]
    simp only [List.length_map, allP_len n zs]
    rw [sum_const, List.length_range, List.length_cons, Nat.pow_succ, Nat.mul_comm]
theorem allP_mem {n : Int} : ∀ {R : List (Str × Int)}, (∀ x ∈ R, 0 ≤ x.2 ∧ x.2 < n) → R ∈ allP n.toNat (R.map (·.1))
  | [], _ => List.mem_singleton.mpr rfl
  | x :: R, h => by
    have hx := h x (List.mem_cons_self ..)
    have ih := allP_mem fun y hy => h y (List.mem_cons_of_mem _ hy)
    refine List.mem_flatMap.mpr ⟨x.2.toNat, List.mem_range.mpr (by omega), List.mem_map.mpr ⟨R, ih, ?_⟩⟩
    rw [show Int.ofNat x.2.toNat = x.2 from Int.toNat_of_nonneg hx.1]
theorem len_in {α : Type} [DecidableEq α] : ∀ {xs ys : List α}, xs.Nodup → (∀ x ∈ xs, x ∈ ys) → xs.length ≤ ys.length
  | [], _, _, _ => Nat.zero_le _
  | x :: xs, ys, nd, h => by
    have nd := List.nodup_cons.mp nd
    have i := len_in (xs := xs) (ys := ys.erase x) nd.2 fun y hy => (List.mem_erase_of_ne (show y ≠ x from fun e => nd.1 (e ▸ hy))).mpr (h y (List.mem_cons_of_mem _ hy))
    have e := List.length_erase_of_mem (h x (List.mem_cons_self ..))
    have p := List.length_pos_of_mem (h x (List.mem_cons_self ..))
    rw [List.length_cons]
    omega
/-- so many at most -/
theorem reached_few {n : Int} {P : List (Str × Int)} {Rs : List (List (Str × Int))} (nd : Rs.Nodup) (h : ∀ R ∈ Rs, R.map (·.1) = P.map (·.1) ∧ Pl n R) : Rs.length ≤ n.toNat ^ P.length := by
  have := len_in (ys := allP n.toNat (P.map (·.1))) nd fun R hR => by
    have m := allP_mem (h R hR).2.rm
    rwa [(h R hR).1] at m
  rwa [allP_len, List.length_map] at this
/-- the fewest moves -/
def Few (n : Int) (D : List (Int × Int)) (k : Nat) (P R : List (Str × Int)) : Prop := Rb n D k P R ∧ ∀ i, i < k → ¬ Rb n D i P R
section
variable {n : Int} {D : List (Int × Int)} {P R : List (Str × Int)}
theorem few_of : ∀ {k : Nat}, Rb n D k P R → ∃ j, j ≤ k ∧ Few n D j P R := by
  intro k
  induction k using Nat.strongRecOn with
  | ind k ih =>
    intro h
    by_cases z : ∃ i, i < k ∧ Rb n D i P R
    · obtain ⟨i, hi, hr⟩ := z
      obtain ⟨j, hj, f⟩ := ih i hi hr
      exact ⟨j, by omega, f⟩
    · exact ⟨k, Nat.le_refl _, h, fun i hi hr => z ⟨i, hi, hr⟩⟩
theorem few_one {j k : Nat} (h : Few n D j P R) (g : Few n D k P R) : j = k := by
  rcases Nat.lt_trichotomy j k with l | l | l
  · exact absurd h.1 (g.2 j l)
  · exact l
  · exact absurd g.1 (h.2 k l)
/-- the next layer comes from this one -/
theorem few_step {k : Nat} (h : Few n D (k + 1) P R) : ∃ Q a r, Few n D k P Q ∧ (a, r) ∈ mvs n D Q Q ∧ R = mvd Q a r := by
  obtain ⟨h1, h2⟩ := h
  cases h1 with
  | step hq m => exact ⟨_, _, _, ⟨hq, fun i hi hr => h2 (i + 1) (by omega) (hr.step m)⟩, m, rfl⟩
/-- what is one move from this layer is in the next one or was there -/
theorem few_next {k : Nat} {Q : List (Str × Int)} {a : Str} {r : Int} (h : Few n D k P Q) (m : (a, r) ∈ mvs n D Q Q) : Few n D (k + 1) P (mvd Q a r) ∨ ∃ j, j ≤ k ∧ Few n D j P (mvd Q a r) := by
  obtain ⟨j, hj, f⟩ := few_of (h.1.step m)
  by_cases e : j = k + 1
  · exact .inl (e ▸ f)
  · exact .inr ⟨j, by omega, f⟩
/-- an empty layer is the end -/
theorem few_end {k : Nat} (h : ∀ Q, ¬ Few n D k P Q) : ∀ {j : Nat} {R : List (Str × Int)}, Rb n D j P R → ∃ i, i < k ∧ Rb n D i P R := by
  intro j
  induction j with
  | zero =>
    intro R hr
    cases hr
    cases k with
    | zero => exact absurd ⟨.zero, fun i hi => absurd hi (Nat.not_lt_zero _)⟩ (h P)
    | succ k => exact ⟨0, Nat.succ_pos _, .zero⟩
  | succ j ih =>
    intro R hr
    cases hr with
    | step hq m =>
      obtain ⟨i, hi, hr⟩ := ih hq
      by_cases e : i + 1 < k
      · exact ⟨i + 1, e, hr.step m⟩
      · have e : i + 1 = k := by omega
        obtain ⟨j', hj, f⟩ := few_of (hr.step m)
        by_cases z : j' = k
        · exact absurd (z ▸ f) (h _)
        · exact ⟨j', by omega, f.1⟩
end
/-- the search between two rounds: all within r moves are found, the edge is what takes r -/
structure Lay (n : Int) (D : List (Int × Int)) (P : List (Str × Int)) (r : Nat) (ks : List (List (Str × Int) × V)) (E : List (List (Str × Int))) : Prop where
  nd : (ks.map (·.1)).Nodup
  vl : ∀ p ∈ ks, ∃ j : Nat, p.2 = .int j ∧ Few n D j P p.1
  me : ∀ R, R ∈ ks.map (·.1) ↔ ∃ j, j ≤ r ∧ Few n D j P R
  ed : ∀ R, R ∈ E ↔ Few n D r P R
/-- the search within a round: S are the placements that were looked at -/
structure Mdl (n : Int) (D : List (Int × Int)) (P : List (Str × Int)) (r : Nat) (ks : List (List (Str × Int) × V)) (N S : List (List (Str × Int))) : Prop where
  nd : (ks.map (·.1)).Nodup
  vl : ∀ p ∈ ks, ∃ j : Nat, p.2 = .int j ∧ Few n D j P p.1
  ol : ∀ R j, j ≤ r → Few n D j P R → R ∈ ks.map (·.1)
  nw : ∀ R ∈ ks.map (·.1), (∃ j, j ≤ r ∧ Few n D j P R) ∨ R ∈ N
  nn : ∀ R ∈ N, Few n D (r + 1) P R ∧ R ∈ ks.map (·.1)
  se : ∀ T ∈ S, T ∈ ks.map (·.1)
section
variable {n : Int} {D : List (Int × Int)} {P : List (Str × Int)} {r : Nat} {ks : List (List (Str × Int) × V)} {E N S : List (List (Str × Int))}
theorem Lay.start : Lay n D P 0 [(P, .int 0)] [P] := by
  have z : Few n D 0 P P := ⟨.zero, fun i hi => absurd hi (Nat.not_lt_zero _)⟩
  have one : ∀ R, Few n D 0 P R → R = P := fun R h => by
    obtain ⟨h, _⟩ := h
    cases h
    rfl
  refine ⟨by simp, fun p hp => ?_, fun R => ⟨fun m => ?_, fun ⟨j, hj, f⟩ => ?_⟩, fun R => ⟨fun m => ?_, fun f => ?_⟩⟩
  · rw [List.mem_singleton.mp hp]; exact ⟨0, rfl, z⟩
  · rw [List.mem_singleton.mp m]; exact ⟨0, Nat.le_refl _, z⟩
  · obtain rfl : j = 0 := by omega
    exact List.mem_singleton.mpr (one R f)
  · rw [List.mem_singleton.mp m]; exact z
  · exact List.mem_singleton.mpr (one R f)
theorem Lay.mid (h : Lay n D P r ks E) : Mdl n D P r ks [] [] := ⟨h.nd, h.vl, fun R j hj f => (h.me R).mpr ⟨j, hj, f⟩, fun R m => .inl ((h.me R).mp m), fun R m => (nomatch m), fun T m => (nomatch m)⟩
theorem Mdl.skip (h : Mdl n D P r ks N S) {T : List (Str × Int)} (m : T ∈ ks.map (·.1)) : Mdl n D P r ks N (S ++ [T]) :=
  ⟨h.nd, h.vl, h.ol, h.nw, h.nn, fun R hR => (List.mem_append.mp hR).elim (h.se R) fun e => List.mem_singleton.mp e ▸ m⟩
theorem Mdl.add (h : Mdl n D P r ks N S) {Q : List (Str × Int)} {a : Str} {t : Int} (f : Few n D r P Q) (m : (a, t) ∈ mvs n D Q Q) (no : mvd Q a t ∉ ks.map (·.1)) : Mdl n D P r (ks ++ [(mvd Q a t, .int ((r + 1 : Nat) : Int))]) (N ++ [mvd Q a t]) (S ++ [mvd Q a t]) := by
  have g : Few n D (r + 1) P (mvd Q a t) := (few_next f m).elim id fun ⟨j, hj, f'⟩ => absurd (h.ol _ j hj f') no
  have up : ∀ {R : List (Str × Int)}, R ∈ ks.map (·.1) → R ∈ (ks ++ [(mvd Q a t, V.int ((r + 1 : Nat) : Int))]).map (·.1) := fun {R} hR => by rw [List.map_append]; exact List.mem_append_left _ hR
  have self : mvd Q a t ∈ (ks ++ [(mvd Q a t, V.int ((r + 1 : Nat) : Int))]).map (·.1) := by rw [List.map_append]; exact List.mem_append_right _ (List.mem_singleton.mpr rfl)
  refine ⟨?_, fun p hp => ?_, fun R j hj f' => up (h.ol R j hj f'), fun R hR => ?_, fun R hR => ?_, fun T hT => ?_⟩
  · rw [List.map_append, List.nodup_append]
    exact ⟨h.nd, List.pairwise_singleton _ _, fun x hx y hy e => no (by have z : y = mvd Q a t := List.mem_singleton.mp hy; rw [e, z] at hx; exact hx)⟩
  · rcases List.mem_append.mp hp with hp | hp
    · exact h.vl p hp
    · rw [List.mem_singleton.mp hp]; exact ⟨r + 1, rfl, g⟩
  · rw [List.map_append] at hR
    rcases List.mem_append.mp hR with hR | hR
    · exact (h.nw R hR).imp id (List.mem_append_left _)
    · exact .inr (List.mem_append_right _ hR)
  · rcases List.mem_append.mp hR with hR | hR
    · exact ⟨(h.nn R hR).1, up (h.nn R hR).2⟩
    · rw [List.mem_singleton.mp hR]; exact ⟨g, self⟩
  · rcases List.mem_append.mp hT with hT | hT
    · exact up (h.se T hT)
    · rw [List.mem_singleton.mp hT]; exact self
theorem Mdl.lay (h : Mdl n D P r ks N S) (all : ∀ Q a t, Few n D r P Q → (a, t) ∈ mvs n D Q Q → mvd Q a t ∈ S) : Lay n D P (r + 1) ks N := by
  have nx : ∀ R, Few n D (r + 1) P R → R ∈ ks.map (·.1) := fun R f => by
    obtain ⟨Q, a, t, fq, m, rfl⟩ := few_step f
    exact h.se _ (all Q a t fq m)
  refine ⟨h.nd, h.vl, fun R => ⟨fun m => ?_, fun ⟨j, hj, f⟩ => ?_⟩, fun R => ⟨fun m => (h.nn R m).1, fun f => ?_⟩⟩
  · rcases h.nw R m with ⟨j, hj, f⟩ | m
    · exact ⟨j, by omega, f⟩
    · exact ⟨r + 1, Nat.le_refl _, (h.nn R m).1⟩
  · by_cases e : j = r + 1
    · exact nx R (e ▸ f)
    · exact h.ol R j (by omega) f
  · rcases h.nw R (nx R f) with ⟨j, hj, f'⟩ | m
    · exact absurd (few_one f f') (by omega)
    · exact m
/-- the end of the search -/
theorem Lay.done (h : Lay n D P r ks []) {j : Nat} {R : List (Str × Int)} (hr : Rb n D j P R) : R ∈ ks.map (·.1) := by
  obtain ⟨i, hi, g⟩ := few_end (fun Q f => nomatch (h.ed Q).mpr f) hr
  obtain ⟨j', hj, f⟩ := few_of g
  exact (h.me R).mpr ⟨j', by omega, f⟩
end
end Fw
set_option maxHeartbeats 2000000
namespace Fw
open PySem PySem.Spec PyProof.Rows L2
/-! all placements that are reached, as a dict -/
/-- a list of placements -/
def EdAt (H : Hp) (l : Addr) (E : List (List (Str × Int))) : Prop := ∃ es : List (Addr × List (Str × Int)), H l = some (.lst (es.map fun q => V.ref q.1)) ∧ E = es.map (·.2) ∧ ∀ q ∈ es, PlAt H q.1 q.2
theorem EdAt.tk {H H' : Hp} {l : Addr} {E : List (List (Str × Int))} (x : EdAt H l E) (t : Tk H H') (e : H' l = H l) : EdAt H' l E := by
  obtain ⟨es, h1, h2, h3⟩ := x
  exact ⟨es, e.trans h1, h2, fun q hq => (h3 q hq).tk t⟩
theorem EdAt.same {H H' : Hp} {l : Addr} {E : List (List (Str × Int))} (x : EdAt H l E) (s : Same H H') : EdAt H' l E := by
  obtain ⟨es, h1, h2, h3⟩ := x
  exact ⟨es, s _ _ h1, h2, fun q hq => (h3 q hq).tk (Tk.of s)⟩
theorem EdAt.lst {H : Hp} {l : Addr} {E : List (List (Str × Int))} (x : EdAt H l E) : ∃ xs, H l = some (.lst xs) ∧ xs.length = E.length := by
  obtain ⟨es, h1, rfl, h3⟩ := x
  exact ⟨_, h1, by rw [List.length_map, List.length_map]⟩
theorem EdAt.snoc {H : Hp} {l p : Addr} {E : List (List (Str × Int))} {R : List (Str × Int)} (x : EdAt H l E) (hp : PlAt H p R) : ∃ acc, H l = some (.lst acc) ∧ acc.length = E.length ∧ EdAt (upd H l (.lst (acc ++ [.ref p]))) l (E ++ [R]) := by
  obtain ⟨es, h1, rfl, h3⟩ := x
  refine ⟨_, h1, by rw [List.length_map, List.length_map], es ++ [(p, R)], ?_, by rw [List.map_append]; rfl, fun q hq => ?_⟩
  · rw [upd_same, List.map_append]
    rfl
  · have t : Tk H (upd H l (.lst (es.map (fun q => V.ref q.1) ++ [.ref p]))) := Tk.refl.put h1
    rcases List.mem_append.mp hq with hq | hq
    · exact (h3 q hq).tk t
    · rw [List.mem_singleton.mp hq]
      exact hp.tk t
theorem get_ed {es : List (Addr × List (Str × Int))} {i : Nat} {x : V} (h : (es.map fun p => V.ref p.1)[i]? = some x) : ∃ p, es[i]? = some p ∧ x = .ref p.1 := by
  rw [List.getElem?_map] at h
  cases e : es[i]? with
  | none => rw [e] at h; cases h
  | some v => rw [e] at h; exact ⟨v, rfl, (Option.some.inj h).symm⟩
/-- a loop over a list of placements -/
theorem for_ed {K : PySem.W.Frag} {l : Addr} {E : List (List (Str × Int))} {i : Nat} {tb : TS} {D : Ends} {σ : L2.St} {H0 H : Hp} (x : EdAt H0 l E) (Pv : Nat → L2.St → Hp → Prop) (h0 : Pv 0 σ H) (hl : ∀ k σ H, Pv k σ H → Tk H0 H ∧ H l = H0 l)
    (hs : ∀ k a R σ H, E[k]? = some R → PlAt H a R → Pv k σ H → tb { D with nx := Pv (k + 1), ct := Pv (k + 1), bk := D.nx } (σ.set i (some (.ref a))) H) (hd : ∀ σ H, Pv E.length σ H → D.nx σ H) :
    ∃ W : Nat → Nat → L2.St → Hp → Prop, (∃ m, W 0 m σ H) ∧ ∀ k m σ H, W k m σ H →
      ((Itl K l).stop k H ∧ D.nx σ H) ∨ ((Itl K l).go k H ∧ ∃ N : L2.St → Hp → Prop, (∀ σ' H', N σ' H' → ∃ m', m' < m ∧ W (k + 1) m' σ' H') ∧ ∀ x H', (Itl K l).yld k H x H' → gName i x σ H' fun σ2 H2 => tb { D with nx := N, ct := N, bk := D.nx } σ2 H2) := by
  obtain ⟨es, h1, rfl, h3⟩ := x
  refine for_list (K := K) (a := l) (xs := es.map fun q => V.ref q.1) Pv h0 (fun i σ H _ hp => SqL.of ((hl i σ H hp).2.trans h1)) (fun k x σ H hx hp => ?_) (fun σ H hp => hd σ H (by rw [List.length_map] at hp ⊢; exact hp))
  obtain ⟨q, hq, rfl⟩ := get_ed hx
  exact hs k q.1 q.2 σ H (by rw [List.getElem?_map, hq]; rfl) ((h3 q (List.mem_of_getElem? hq)).tk (hl k σ H hp).1) hp
/-- a loop over a list of pairs, when other lists may change -/
theorem for_lsT {K : PySem.W.Frag} {l : Addr} {X : List (Str × Int)} {i j : Nat} {tb : TS} {D : Ends} {σ : L2.St} {H0 H : Hp} (x : LsAt H0 l X) (Pv : Nat → L2.St → Hp → Prop) (h0 : Pv 0 σ H) (hl : ∀ k σ H, Pv k σ H → Tk H0 H ∧ H l = H0 l)
    (hs : ∀ k nm r σ H, X[k]? = some (nm, r) → Pv k σ H → tb { D with nx := Pv (k + 1), ct := Pv (k + 1), bk := D.nx } ((σ.set i (some (.str nm))).set j (some (.int r))) H) (hd : ∀ σ H, Pv X.length σ H → D.nx σ H) :
    ∃ W : Nat → Nat → L2.St → Hp → Prop, (∃ m, W 0 m σ H) ∧ ∀ k m σ H, W k m σ H →
      ((Itl K l).stop k H ∧ D.nx σ H) ∨ ((Itl K l).go k H ∧ ∃ N : L2.St → Hp → Prop, (∀ σ' H', N σ' H' → ∃ m', m' < m ∧ W (k + 1) m' σ' H') ∧ ∀ x H', (Itl K l).yld k H x H' → gTup K 2 (gCons (gName i) (gCons (gName j) gNil)) x σ H' fun σ2 H2 => tb { D with nx := N, ct := N, bk := D.nx } σ2 H2) := by
  obtain ⟨ps, h1, rfl, h3⟩ := x
  refine for_list (K := K) (a := l) (xs := ps.map fun q => V.ref q.1) Pv h0 (fun i σ H _ hp => SqL.of ((hl i σ H hp).2.trans h1)) (fun k x σ H hx hp => ?_) (fun σ H hp => hd σ H (by rw [List.length_map] at hp ⊢; exact hp))
  obtain ⟨q, hq, rfl⟩ := get_pl hx
  refine ⟨q.1, _, rfl, SqT.of ((hl k σ H hp).1.t (h3 q (List.mem_of_getElem? hq))), rfl, _, _, rfl, _, _, rfl, rfl, ?_⟩
  exact hs k q.2.1 q.2.2 σ H (by rw [List.getElem?_map, hq]; rfl) hp
/-- what stands within a round -/
structure Rnd (Pg : Program) (w : World) (n : Int) (D : List (Int × Int)) (PP : List (Str × Int)) (H : Hp) (d e L : Addr) (E : List (List (Str × Int))) (r z : Nat) (ks : List (List (Str × Int) × V)) (N S : List (List (Str × Int))) (H' : Hp) : Prop where
  sm : Same H H'
  dn : DnAt Pg w H' d ks
  ed : EdAt H' e E
  nw : EdAt H' L N
  md : Mdl n D PP r ks N S
  ln : ks.length = z + N.length
theorem Rnd.same {Pg : Program} {w : World} {n : Int} {D : List (Int × Int)} {PP : List (Str × Int)} {H : Hp} {d e L : Addr} {E : List (List (Str × Int))} {r z : Nat} {ks : List (List (Str × Int) × V)} {N S : List (List (Str × Int))} {H1 H2 : Hp}
    (x : Rnd Pg w n D PP H d e L E r z ks N S H1) (s : Same H1 H2) : Rnd Pg w n D PP H d e L E r z ks N S H2 := ⟨x.sm.trans s, x.dn.same s, x.ed.same s, x.nw.same s, x.md, x.ln⟩
theorem Mdl.small {n : Int} {D : List (Int × Int)} {P : List (Str × Int)} {r : Nat} {ks : List (List (Str × Int) × V)} {N S : List (List (Str × Int))} (m : Mdl n D P r ks N S) (pl : Pl n P) : ks.length ≤ n.toNat ^ P.length := by
  have := reached_few (n := n) (P := P) m.nd fun R hR => by
    obtain ⟨p, hp, rfl⟩ := List.mem_map.mp hR
    obtain ⟨j, _, f⟩ := m.vl p hp
    exact ⟨f.1.names, f.1.pl pl⟩
  rwa [List.length_map] at this
section
variable {P : Program} {w : World} {K : PySem.W.Frag} {mg : Str → Option Value} {base : Heap}
/-- what the dict holds: each placement that is reached, with the fewest moves -/
structure Bfs (n : Int) (D : List (Int × Int)) (P : List (Str × Int)) (ks : List (List (Str × Int) × V)) : Prop where
  nd : (ks.map (·.1)).Nodup
  sd : ∀ p ∈ ks, ∃ j : Nat, p.2 = .int j ∧ Few n D j P p.1
  al : ∀ j R, Rb n D j P R → R ∈ ks.map (·.1)
def spReach (P : Program) (w : World) : Sp := fun vs H Q _ => ∃ (h p : Addr) (n : Int) (D : List (Int × Int)) (PP : List (Str × Int)), vs = [.ref h, .ref p] ∧ HouseAt H h n D ∧ Forest n D ∧ 0 ≤ n ∧ n ≤ 8 ∧ PlAt H p PP ∧ Pl n PP ∧ PP.length ≤ 12 ∧ n.toNat ^ PP.length < sizeLine ∧
  ∀ H' d ks, Same H H' → H d = none → DnAt P w H' d ks → Bfs n D PP ks → Q (.ref d) H'
abbrev nLReach : List Str := ["_law_house_here", "_law_placement_here", "_law_found", "_law_edge", "_law_newer", "_law_here", "_law_name", "_law_room", "_law_there"]
theorem scLReach : FnScope nLReach ["_law_house_here", "_law_placement_here"] (defScope sLReach) := ⟨rfl, rfl, rfl, by decide +kernel, rfl, by decide +kernel, by decide +kernel⟩
abbrev pLReach : List Str := ["_law_house_here", "_law_placement_here"]
theorem ok_lreach {f : Addr} {fd : FuncData} {k : Nat} (F : Fun K "_law_reachable" "_law_reachable" sLReach f fd) (T : Nm mg) (C_law_moves : Cal P w K mg base (k + 2) "_law_moves" ["_law_house_here", "_law_placement_here"] spLMoves) (C_law_moved : Cal P w K mg base (k + 2) "_law_moved" pLMoved spLMoved) : FnOk P w K mg base CX0 (k + 3) f fd pLReach (spReach P w) := by
  refine F.ok scLReach (fun vs H Q E h => ?_) (fun cdv A outer s H vs Q E1 hr h => ?_)
  · obtain ⟨h, p, n, D, PP, rfl, _⟩ := h
    rfl
  · obtain ⟨h, p, n, D, PP, rfl, hH, hF, n0, n1, hP, pl, lP, lN, q⟩ := h
    refine ⟨_, (pss_cons (ps_par (i := 2) (j := 3) (by rfl) scLReach.nd rfl rfl (by decide) rfl rfl (pa_cons (pe_dnewP hr.units (pv 1) pe_int) (pa_cons (pe_lst (pa_cons (pv 1) pa_nil)) pa_nil)) (by rfl))
      (pss_cons (ps_while PassesOwn.never (pt_cmpR (op_neL0 (Nat.lt_of_succ_lt (hu_of hr))) (pv 3) (pe_lst pa_nil) (nomark _))
      (pss_cons (ps_set (i := 4) scLReach.nd rfl (.inl rfl) (pe_lst pa_nil))
       (pss_cons (ps_for PassesOwn.never rfl (pi_listK K rfl (pv 3)) (pg_name (i := 5) scLReach.nd rfl (.inl rfl))
       (pss_one (ps_for PassesOwn.never rfl (pi_listK K rfl (pe_cal C_law_moves hr (by rfl) (pa_cons (pv 0) (pa_cons (pv 5) pa_nil)))) (pg_tup (by rfl) (pgs_cons (pg_name (i := 6) scLReach.nd rfl (.inl rfl)) (pgs_cons (pg_name (i := 7) scLReach.nd rfl (.inl rfl)) pgs_nil)))
        (pss_cons (ps_set (i := 8) scLReach.nd rfl (.inl rfl) (pe_cal C_law_moved hr (by rfl) (pa_cons (pv 5) (pa_cons (pv 6) (pa_cons (pv 7) pa_nil)))))
         (pss_one (ps_if (pt_cmpR (op_notInP hr.units) (pv 8) (pv 2) (by rfl))
         (pss_cons (ps_pput hr.units (pv 2) (pv 8) (pe_op op_add (pe_pget hr.units (pv 2) (pv 5) (fun _ _ => rfl)) pe_int) (by rfl))
          (pss_one (ps_expr (pe_bm PySem.F.plainAttrs_list PySem.F.slot_list_append PySem.F.type_list_append mt_append (pv 4) (pa_cons (pv 8) pa_nil)))))
         pss_nil))))))
       (pss_one (ps_set (i := 3) scLReach.nd rfl (.inl rfl) (pv 4))))))
      (pss_one (ps_ret (pv 2))))), ?_⟩
    refine fun d hd nd => ⟨_, rfl, p, PP, rfl, hP.same (same_upd hd), upd_same, fun H1 e1 d1 => ⟨_, rfl, by show 1 ≤ sizeLine; decide, fun l hl => ⟨_, _, rfl, ?_⟩⟩⟩
    dsimp only [gName]
    have s1 : Same H H1 := by
      obtain ⟨xs, rfl⟩ := e1
      exact same_put (same_upd hd) hd
    have s2 := s1.trans (same_upd (o := .lst [V.ref p]) hl)
    have ndl : d ≠ l := by
      obtain ⟨xs, hx, _⟩ := d1.ex
      exact ne_of_none hx hl
    refine ⟨fun m σ H' => ∃ e y4 y5 y6 y7 y8 r ks E, σ = [some (.ref h), some (.ref p), some (.ref d), some (.ref e), y4, y5, y6, y7, y8] ∧ Same H H' ∧ H e = none ∧ DnAt P w H' d ks ∧ EdAt H' e E ∧ Lay n D PP r ks E ∧ m = 2 * (n.toNat ^ PP.length - ks.length) + (if E = [] then 0 else 1), ⟨_, l, none, none, none, none, none, 0, _, [PP], rfl, s2, s1.free hl, d1.same (same_upd hl), ⟨[(p, PP)], upd_same, rfl, fun q hq => ?_⟩, Lay.start, rfl⟩, ?_⟩
    · rw [List.mem_singleton.mp hq]
      exact hP.same s2
    rintro m σ H2 ⟨e, y4, y5, y6, y7, y8, r, ks, E, rfl, sm, he, dn, ed, ly, rfl⟩
    obtain ⟨es, e1', e2', e3'⟩ := ed
    refine ⟨_, rfl, Nat.zero_le _, fun b hb => ⟨e, b, _, rfl, rfl, SqL.of (same_upd hb _ _ e1'), SqL.of upd_same, _, rfl, ?_⟩⟩
    have ed : EdAt H2 e E := ⟨es, e1', e2', e3'⟩
    by_cases ce : E = []
    · have z : es = [] := by
        rw [ce] at e2'
        exact List.map_eq_nil_iff.mp e2'.symm
      rw [z]
      refine iteF ?_
      rw [ce] at ly
      exact ⟨_, rfl, q _ d ks (sm.trans (same_upd hb)) hd (dn.same (same_upd hb)) ⟨ly.nd, ly.vl, fun j R hr => ly.done hr⟩⟩
    · have z : es ≠ [] := fun z => ce (by rw [e2', z]; rfl)
      have zz : (!(es.map fun q => V.ref q.1).isEmpty) = true := by
        cases es with
        | nil => exact absurd rfl z
        | cons _ _ => rfl
      rw [zz, if_neg ce]
      refine iteT ⟨_, fun _ _ h => h, ?_⟩
      have sb := sm.trans (same_upd (o := .lst []) hb)
      refine ⟨Nat.zero_le _, fun L hL => ?_⟩
      have sL := sb.trans (same_upd (o := .lst []) hL)
      have edL := (ed.same (same_upd (o := .lst []) hb)).same (same_upd (o := .lst []) hL)
      have dnL := (dn.same (same_upd (o := .lst []) hb)).same (same_upd (o := .lst []) hL)
      have neL : e ≠ L := by
        obtain ⟨xs, hx, _⟩ := (ed.same (same_upd (o := .lst []) hb)).lst
        exact ne_of_none hx hL
      have ndL : d ≠ L := by
        obtain ⟨xs, hx, _⟩ := (dn.same (same_upd (o := .lst []) hb)).ex
        exact ne_of_none hx hL
      have nde : d ≠ e := by
        obtain ⟨xs, hx, _⟩ := dn.ex
        obtain ⟨ys, hy, _⟩ := ed.lst
        exact ne_of hx hy (by intro z; cases z)
      have fL : H L = none := sb.free hL
      have kz : ks.length ≤ n.toNat ^ PP.length := ly.mid.small pl
      obtain ⟨xsE, hxE, lxE⟩ := edL.lst
      refine ⟨_, rfl, e, rfl, ⟨_, SqL.of hxE⟩, for_ed edL (fun i σ H' => ∃ y5 y6 y7 y8 ks' N S, σ = [some (.ref h), some (.ref p), some (.ref d), some (.ref e), some (.ref L), y5, y6, y7, y8] ∧ Rnd P w n D PP H d e L E r ks.length ks' N S H' ∧ Tk (upd (upd H2 b (.lst [])) L (.lst [])) H' ∧ H' e = (upd (upd H2 b (.lst [])) L (.lst [])) e ∧ (∀ R ∈ E.take i, ∀ a t, (a, t) ∈ mvs n D R R → mvd R a t ∈ S))
        ⟨_, _, _, _, ks, [], [], rfl, ⟨sL, dnL, edL, ⟨[], upd_same, rfl, fun q hq => nomatch hq⟩, ly.mid, rfl⟩, Tk.refl, rfl, fun R hR => nomatch hR⟩ (fun k σ H' hp => ?_) (fun k a R σ H' hk hPa hp => ?_) (fun σ H' hp => ?_)⟩
      · obtain ⟨_, _, _, _, _, _, _, _, _, t, e', _⟩ := hp
        exact ⟨t, e'⟩
      · obtain ⟨y5, y6, y7, y8, ks', N, S, rfl, rn, t, e', all⟩ := hp
        have fR : Few n D r PP R := (ly.ed R).mp (List.mem_of_getElem? hk)
        have plR := fR.1.pl pl
        have lR : R.length = PP.length := by
          have := congrArg List.length fR.1.names
          simpa using this
        refine ⟨_, rfl, _, rfl, h, a, n, D, R, rfl, hH.same rn.sm, hF, n1, hPa, by omega, fun H3 l3 s3 hl3 ls => ?_⟩
        obtain ⟨xs3, sq3, _⟩ := ls.sq (K := K)
        obtain ⟨ps3, e3, _, _⟩ := id ls
        have nl3L : L ≠ l3 := by
          obtain ⟨xs, hx, _⟩ := rn.nw.lst
          exact ne_of_none hx hl3
        have ndl3 : d ≠ l3 := by
          obtain ⟨xs, hx, _⟩ := rn.dn.ex
          exact ne_of_none hx hl3
        refine ⟨l3, rfl, ⟨xs3, sq3⟩, for_lsT ls (fun i σ H' => ∃ y6 y7 y8 ks' N S', σ = [some (.ref h), some (.ref p), some (.ref d), some (.ref e), some (.ref L), some (.ref a), y6, y7, y8] ∧ Rnd P w n D PP H d e L E r ks.length ks' N S' H' ∧ Tk H3 H' ∧ H' l3 = H3 l3 ∧ H' e = H3 e ∧ (∀ T ∈ S, T ∈ S') ∧ (∀ x ∈ (mvs n D R R).take i, mvd R x.1 x.2 ∈ S'))
          ⟨_, _, _, ks', N, S, rfl, rn.same s3, Tk.refl, rfl, rfl, fun T hT => hT, fun x hx => nomatch hx⟩ (fun k σ H' hp => ?_) (fun k nm t' σ H' hk' hp => ?_) (fun σ H' hp => ?_)⟩
        · obtain ⟨_, _, _, _, _, _, _, _, t1, e1, _⟩ := hp
          exact ⟨t1, e1⟩
        · obtain ⟨y6, y7, y8, ks2, N2, S2, rfl, rn2, t2, el2, ee2, sub, all2⟩ := hp
          have mm : (nm, t') ∈ mvs n D R R := List.mem_of_getElem? hk'
          have hPa2 : PlAt H' a R := hPa.tk ((Tk.of s3).trans t2)
          refine ⟨_, rfl, _, rfl, _, rfl, a, R, nm, t', rfl, hPa2, by omega, fun H4 u s4 hu => ?_⟩
          have rn4 := rn2.same s4
          have t4 := t2.trans (Tk.of s4)
          have hPu := hu.pl
          have el4 : H4 l3 = H3 l3 := by
            rw [s4 _ _ (el2.trans e3), e3]
          obtain ⟨xe, hxe, _⟩ := rn2.ed.lst
          have ee4 : H4 e = H3 e := by
            rw [← ee2, s4 _ _ hxe, hxe]
          have key : (∃ p ∈ ks2, p.1 = mvd R nm t') ↔ mvd R nm t' ∈ ks2.map (·.1) := by rw [List.mem_map]
          have stp : ∀ S' : List (List (Str × Int)), (∀ T ∈ S2, T ∈ S') → mvd R nm t' ∈ S' → (∀ T ∈ S, T ∈ S') ∧ ∀ x ∈ (mvs n D R R).take (k + 1), mvd R x.1 x.2 ∈ S' := fun S' i1 i2 => ⟨fun T hT => i1 T (sub T hT), fun x hx => by
            rw [take_snoc hk'] at hx
            rcases List.mem_append.mp hx with hx | hx
            · exact i1 _ (all2 x hx)
            · rw [List.mem_singleton.mp hx]; exact i2⟩
          refine ⟨_, rfl, _, rfl, u, d, _, ks2, rfl, rfl, hPu, rn4.dn, _, rfl, ?_⟩
          refine ite2 (fun c => ?_) (fun c => ?_)
          · have no : ¬ ∃ p ∈ ks2, p.1 = mvd R nm t' := by simpa using c
            obtain ⟨⟨R0, v0⟩, m0, rfl⟩ := List.mem_map.mp (rn2.md.ol R r (Nat.le_refl _) fR)
            obtain ⟨j0, ev, f0⟩ := rn2.md.vl _ m0
            obtain rfl := few_one f0 fR
            dsimp only at ev
            subst ev
            have z2 : ks2.length ≤ n.toNat ^ PP.length := rn2.md.small pl
            have md5 := rn2.md.add fR mm (fun m => no (key.mpr m))
            have z5 := md5.small pl
            refine ⟨_, rfl, _, rfl, d, a, _, _, ks2, rfl, rfl, hPa2.tk (Tk.of s4), rn4.dn, m0, _, _, rfl, rfl, _, rfl, _, rfl, d, u, _, ks2, rfl, rfl, hPu, rn4.dn, fun p hp e => no ⟨p, hp, e⟩, Nat.lt_of_le_of_lt z2 lN, fun H5 e5 dn5 => ?_⟩
            obtain ⟨xd, hd4, _⟩ := rn4.dn.ex
            obtain ⟨xs5, rfl⟩ := e5
            have t5 := t4.putE (o := DnO P w d xs5) hd4
            have t45 : Tk H4 (upd H4 d (DnO P w d xs5)) := Tk.refl.putE hd4
            have nw5 : EdAt (upd H4 d (DnO P w d xs5)) L N2 := rn4.nw.tk t45 (upd_ne ndL.symm)
            obtain ⟨acc, ha, la, nw6⟩ := nw5.snoc (hPu.tk t45)
            have t56 : Tk (upd H4 d (DnO P w d xs5)) (upd (upd H4 d (DnO P w d xs5)) L (.lst (acc ++ [.ref u]))) := Tk.refl.put ha
            have lnk := rn2.ln
            refine ⟨_, rfl, .inl ⟨rfl, _, SqL.of ha⟩, _, rfl, L, _, _, rfl, rfl, ha, by rw [la]; exact Nat.lt_of_le_of_lt (by omega) lN, ?_⟩
            refine ⟨_, _, _, _, _, _, rfl, ⟨same_put (same_put (rn4.sm) hd) fL, dn5.tk t56 (upd_ne ndL), (rn4.ed.tk t45 (upd_ne nde.symm)).tk t56 (upd_ne neL), nw6, ?_, ?_⟩, t5.trans t56, ?_, ?_, stp _ (fun T hT => List.mem_append_left _ hT) (List.mem_append_right _ (List.mem_singleton.mpr rfl))⟩
            · exact md5
            · rw [List.length_append, List.length_append, lnk]
              rfl
            · rw [upd_ne nl3L.symm, upd_ne ndl3.symm, el4]
            · rw [upd_ne neL, upd_ne nde.symm, ee4]
          · have yes : ∃ p ∈ ks2, p.1 = mvd R nm t' := by simpa using c
            exact ⟨_, _, _, ks2, N2, S2 ++ [mvd R nm t'], rfl, ⟨rn4.sm, rn4.dn, rn4.ed, rn4.nw, rn2.md.skip (key.mp yes), rn2.ln⟩, t4, el4, ee4, stp _ (fun T hT => List.mem_append_left _ hT) (List.mem_append_right _ (List.mem_singleton.mpr rfl))⟩
        · obtain ⟨y6, y7, y8, ks2, N2, S2, rfl, rn2, t2, el2, ee2, sub, all2⟩ := hp
          obtain ⟨xe, hxe, _⟩ := rn.ed.lst
          refine ⟨_, _, _, _, ks2, N2, S2, rfl, rn2, (t.trans (Tk.of s3)).trans t2, ?_, fun R' hR' a' t' m' => ?_⟩
          · rw [ee2, s3 _ _ hxe, ← hxe, e']
          · rw [take_snoc hk] at hR'
            rcases List.mem_append.mp hR' with hR' | hR'
            · exact sub _ (all R' hR' a' t' m')
            · rw [List.mem_singleton.mp hR'] at m' ⊢
              rw [List.take_length] at all2
              exact all2 _ m'
      · obtain ⟨y5, y6, y7, y8, ks', N, S, rfl, rn, t, e', all⟩ := hp
        rw [List.take_length] at all
        refine ⟨_, rfl, ?_⟩
        have ly' := rn.md.lay fun Q a t' fQ m => all Q ((ly.ed Q).mpr fQ) a t' m
        have z' := rn.md.small pl
        have lnk := rn.ln
        refine ⟨_, ?_, L, _, _, _, _, _, r + 1, ks', N, rfl, rn.sm, fL, rn.dn, rn.nw, ly', rfl⟩
        by_cases cN : N = []
        · rw [if_pos cN]
          omega
        · rw [if_neg cN]
          have := List.length_pos_iff.mpr cN
          omega
end
end Fw
set_option maxHeartbeats 2000000
namespace Fw
open PySem PySem.Spec PyProof.Rows L2
/-! a walk over the keys of a dict keyed by placements -/
section
variable {X : Cx} {pins : List (Addr × Obj)} {σ : L2.St} {H : Hp} {s : Shared} {d it : Addr} {o : Obj} {xs : List (NestedKey × Addr × Value)}
/-- what is there of it while it is locked -/
theorem dn_locked (I : Inv X pins σ H s) (h : H d = some (.frz o (DnO X.prog X.w d xs))) : s.heap.get? d = some o ∧ o.ExactDict ∧ ∃ es ep, o.data = .dict es ep ∧ es.size = xs.length ∧ ∀ (i : Nat) (lt : i < xs.length), ∃ en, es[i]? = some en ∧ en.key = .ref xs[i].2.1 := by
  have ok := I.hok d _ h
  obtain ⟨there, ⟨⟨o', es, ep, same, exact', data, ent, _⟩, _⟩⟩ := ok
  obtain rfl : o' = o := Option.some.inj (same.symm.trans there)
  refine ⟨there, exact', es, ep, data, size_of_entries ent, fun i lt => ?_⟩
  have q := entry_at ent i
  rw [List.getElem?_eq_getElem lt] at q
  exact ⟨_, q, rfl⟩
/-- the iterator itself has moved on -/
theorem it_moved {h' : Heap} (I : Inv X pins σ H s) (f : FpOk X pins H it) (k : ∀ b, b ≠ it → ∀ ob, s.heap.get? b = some ob → h'.get? b = some ob) : Inv X pins σ H { s with heap := h' } :=
  I.turned (t' := s.toks) (fun b ob n e => k b n ob e) f.1 f.2.1 f.2.2.2.1 f.2.2.2.2.1 f.2.2.2.2.2
end
/-- the keys, each its own tuple, while the dict is locked -/
def Itn (P : Program) (w : World) (d : Addr) (o : Obj) (xs : List (NestedKey × Addr × Value)) : It where
  go i H := i < xs.length ∧ H d = some (.frz o (DnO P w d xs))
  yld i H x H' := H' = H ∧ ∃ lt : i < xs.length, x = .ref xs[i].2.1
  stop i H := xs.length ≤ i ∧ H d = some (.frz o (DnO P w d xs))
theorem turn_dn {P : Program} {w : World} {K : PySem.W.Frag} {tg : Expr} {d : Addr} {o : Obj} {es : Array DictEntry} {ep : Nat} {xs : List (NestedKey × Addr × Value)} (it : Addr) (data : o.data = .dict es ep) :
    Turn P w K tg (Itn P w d o xs) [it] it (fun i h => h.IsKeyIter it d i xs.length ep) := by
  have self : it ∈ [it] := List.mem_singleton.mpr rfl
  refine ⟨self, fun i h st b hb => ?_, fun i h h' st k => st.at fun u e => k it self u e, ?_, ?_, fun A i s Q E st h => wpAny_pyIter_keyiter st h⟩
  · cases List.mem_singleton.mp hb
    obtain ⟨u, e, _, dd⟩ := st
    refine ⟨u, e, fun v z => ?_⟩
    rw [z] at dd
    cases dd
  · rintro X rfl rfl rfl calm i pins s σ H E I fp st ⟨lt, lk⟩
    obtain ⟨there, _, es', ep', data', size, ent⟩ := dn_locked I lk
    obtain ⟨rfl, rfl⟩ := dict_ep data data'
    obtain ⟨en, at', key⟩ := ent i lt
    refine next_key_item st there data' size at' fun h' st' but => ?_
    have J := it_moved I (fp it self) fun b n ob e => (but.2 b n).trans e
    obtain ⟨u, e, c, dd⟩ := id st'
    refine ⟨_, rfl, go_of (s := { s with heap := h' }) e c dd (by decide) ⟨.ref xs[i].2.1, H, J, key, ⟨rfl, lt, rfl⟩, st', fun b hb => ?_⟩⟩
    exact (fp b hb).1
  · rintro X rfl rfl rfl calm i pins s σ H E I fp st ⟨ge, lk⟩
    obtain ⟨there, _, es', ep', data', size, _⟩ := dn_locked I lk
    obtain ⟨rfl, rfl⟩ := dict_ep data data'
    refine next_key_end (I.ok.hd calm) st there data' size ge fun h' but => ⟨rfl, ?_⟩
    exact it_moved I (fp it self) fun b n ob e => but b ob n e
section
variable {X : Cx}
/-- the walk locks the dict for good -/
def iDnL (P : Program) (w : World) (td : TE) : TI := fun σ H R => td σ H fun x H1 => ∃ d xs, x = .ref d ∧ d ≠ sysModules ∧ H1 d = some (DnO P w d xs) ∧ ∀ o, R (Itn P w d o xs) (upd H1 d (.frz o (DnO P w d xs)))
theorem pi_dnL {tg e : Expr} {td : TE} (he : PE X e td) : PI X tg e (iDnL X.prog X.w td) := by
  refine ⟨fun pins s σ H R I h => thn (he.run pins s σ H _ I h) fun u s1 a => ?_⟩
  obtain ⟨x, H1, I1, rx, d, xs, rfl, no, hd, q⟩ := a
  cases (show u = Value.ref d from rx)
  obtain ⟨o, I2⟩ := I1.lock hd True.intro
  obtain ⟨there, ex, es, ep, data, size, _⟩ := dn_locked I2 upd_same
  refine iter_keys (by simpa using no) there ex data (pi_one (tk := s1.toks) I2 _ (turn_dn _ data) ⟨_, Heap.get?_push_size _ rfl, rfl, ?_⟩ (q o))
  rw [size] <;> rfl
/-- the walk over a dict that is locked -/
def iDnF (P : Program) (w : World) (td : TE) : TI := fun σ H R => td σ H fun x H1 => ∃ d o xs, x = .ref d ∧ d ≠ sysModules ∧ H1 d = some (.frz o (DnO P w d xs)) ∧ R (Itn P w d o xs) H1
theorem pi_dnF {tg e : Expr} {td : TE} (he : PE X e td) : PI X tg e (iDnF X.prog X.w td) := by
  refine ⟨fun pins s σ H R I h => thn (he.run pins s σ H _ I h) fun u s1 a => ?_⟩
  obtain ⟨x, H1, I1, rx, d, o, xs, rfl, no, hd, q⟩ := a
  cases (show u = Value.ref d from rx)
  obtain ⟨there, ex, es, ep, data, size, _⟩ := dn_locked I1 hd
  refine iter_keys (by simpa using no) there ex data (pi_one (tk := s1.toks) I1 _ (turn_dn _ data) ⟨_, Heap.get?_push_size _ rfl, rfl, ?_⟩ q)
  rw [size] <;> rfl
end
theorem paired_at {α β : Type} {F : α → β → Prop} : ∀ {xs : List α} {ys : List β}, Paired F xs ys → xs.length = ys.length ∧ ∀ (i : Nat) (lt : i < ys.length) (lt' : i < xs.length), F xs[i] ys[i]
  | _, _, .nil => ⟨rfl, fun i lt => nomatch lt⟩
  | _, _, .cons h r => by
    obtain ⟨l, a⟩ := paired_at r
    refine ⟨congrArg (· + 1) l, fun i lt lt' => ?_⟩
    cases i with
    | zero => exact h
    | succ i => exact a i (Nat.lt_of_succ_lt_succ lt) (Nat.lt_of_succ_lt_succ lt')
/-- any walk over the keys, from promise to promise -/
theorem walk_dn {P : Program} {w : World} {d : Addr} {o : Obj} {xs : List (NestedKey × Addr × Value)} {ks : List (List (Str × Int) × V)} {H0 G0 : Hp} {Qd : Hp → Prop} {each : (Hp → Prop) → V → Hp → Prop} (pr : Paired (DnE H0) ks xs) (Pv : Nat → Hp → Prop) (start : Pv 0 G0)
    (sees : ∀ i G, Pv i G → Tk H0 G ∧ G d = some (.frz o (DnO P w d xs))) (does : ∀ i b R v G, ks[i]? = some (R, v) → PlAt G b R → Pv i G → each (Pv (i + 1)) (.ref b) G) (ends : ∀ G, Pv ks.length G → Qd G) :
    ∃ W : Nat → Nat → Hp → Prop, (∃ m, W 0 m G0) ∧ ∀ i m G, W i m G → ((Itn P w d o xs).stop i G ∧ Qd G) ∨ ((Itn P w d o xs).go i G ∧ ∃ N : Hp → Prop, (∀ G', N G' → ∃ m', m' < m ∧ W (i + 1) m' G') ∧ ∀ x G', (Itn P w d o xs).yld i G x G' → each N x G') := by
  obtain ⟨ln, at'⟩ := paired_at pr
  refine ⟨fun i m J => m + i = xs.length ∧ Pv i J, ⟨xs.length, rfl, start⟩, ?_⟩
  rintro i m J ⟨e, p⟩
  obtain ⟨t, lk⟩ := sees i J p
  cases m with
  | zero =>
    have e : i = xs.length := by omega
    subst e
    exact .inl ⟨⟨Nat.le_refl _, lk⟩, ends J (by rw [ln]; exact p)⟩
  | succ m =>
    have lt : i < xs.length := by omega
    refine .inr ⟨⟨lt, lk⟩, Pv (i + 1), fun J' p' => ⟨m, Nat.lt_succ_self _, by omega, p'⟩, ?_⟩
    rintro x J' ⟨rfl, _, rfl⟩
    have lt' : i < ks.length := by omega
    exact does i _ ks[i].1 ks[i].2 _ (List.getElem?_eq_getElem lt') ((at' i lt lt').2.1.tk t) p
theorem for_dn {P : Program} {w : World} {d : Addr} {o : Obj} {xs : List (NestedKey × Addr × Value)} {ks : List (List (Str × Int) × V)} {H0 : Hp} {i : Nat} {tb : TS} {D : Ends} {σ : L2.St} {H : Hp} (pr : Paired (DnE H0) ks xs) (Pv : Nat → L2.St → Hp → Prop) (start : Pv 0 σ H)
    (sees : ∀ k σ G, Pv k σ G → Tk H0 G ∧ G d = some (.frz o (DnO P w d xs))) (does : ∀ k b R v σ G, ks[k]? = some (R, v) → PlAt G b R → Pv k σ G → tb { D with nx := Pv (k + 1), ct := Pv (k + 1), bk := D.nx } (σ.set i (some (.ref b))) G) (ends : ∀ σ G, Pv ks.length σ G → D.nx σ G) :
    ∃ W : Nat → Nat → L2.St → Hp → Prop, (∃ m, W 0 m σ H) ∧ ∀ k m σ H, W k m σ H →
      ((Itn P w d o xs).stop k H ∧ D.nx σ H) ∨ ((Itn P w d o xs).go k H ∧ ∃ N : L2.St → Hp → Prop, (∀ σ' H', N σ' H' → ∃ m', m' < m ∧ W (k + 1) m' σ' H') ∧ ∀ x H', (Itn P w d o xs).yld k H x H' → gName i x σ H' fun σ2 H2 => tb { D with nx := N, ct := N, bk := D.nx } σ2 H2) := by
  obtain ⟨ln, at'⟩ := paired_at pr
  refine ⟨fun k m σ J => m + k = xs.length ∧ Pv k σ J, ⟨xs.length, rfl, start⟩, ?_⟩
  rintro k m σ J ⟨e, p⟩
  obtain ⟨t, lk⟩ := sees k σ J p
  cases m with
  | zero =>
    have e : k = xs.length := by omega
    subst e
    exact .inl ⟨⟨Nat.le_refl _, lk⟩, ends σ J (by rw [ln]; exact p)⟩
  | succ m =>
    have lt : k < xs.length := by omega
    refine .inr ⟨⟨lt, lk⟩, Pv (k + 1), fun σ' J' p' => ⟨m, Nat.lt_succ_self _, by omega, p'⟩, ?_⟩
    rintro x J' ⟨rfl, _, rfl⟩
    have lt' : k < ks.length := by omega
    exact does k _ ks[k].1 ks[k].2 σ _ (List.getElem?_eq_getElem lt') ((at' k lt lt').2.1.tk t) p
end Fw
set_option maxHeartbeats 4000000
namespace Fw
open PySem PySem.Spec PyProof.Rows L2
/-! moves that are reversed -/
theorem nb_ne {n : Int} {D : List (Int × Int)} (f : Forest n D) {a b : Int} (h : b ∈ nb n D a) : b ≠ a := fun e => by
  subst e
  rcases (f.mem_nb).mp h with m | m <;> exact absurd (f.ends m).2.1 (Int.lt_irrefl _)
theorem mvd_back {P : List (Str × Int)} {nm : Str} {c t : Int} (nd : (P.map (·.1)).Nodup) (h : (nm, c) ∈ P) : mvd (mvd P nm t) nm c = P := by
  unfold mvd
  rw [List.map_map]
  refine (List.map_congr_left fun x hx => ?_).trans (List.map_id _)
  show (x.1, if x.1 = nm then c else if x.1 = nm then t else x.2) = x
  by_cases e : x.1 = nm
  · rw [if_pos e]
    have := key_uniq nd hx h e
    rw [this]
  · rw [if_neg e, if_neg e]
/-- who else is there -/
def rest (P : List (Str × Int)) (nm : Str) (c : Int) : List Str := (P.filter fun x => decide (x.2 = c) && !decide (x.1 = nm)).map (·.1)
theorem rest_snoc {P : List (Str × Int)} {nm : Str} {c : Int} {k : Nat} {a : Str} {r : Int} (h : P[k]? = some (a, r)) : rest (P.take (k + 1)) nm c = rest (P.take k) nm c ++ if (decide (r = c) && !decide (a = nm)) = true then [a] else [] := by
  unfold rest
  rw [take_snoc h, filter_snoc, List.map_append]
  congr 1
  dsimp only
  split <;> rfl
theorem rest_len (P : List (Str × Int)) (nm : Str) (c : Int) : (rest P nm c).length ≤ P.length := by
  unfold rest
  rw [List.length_map]
  exact List.length_filter_le _ _
theorem rest_stay {P : List (Str × Int)} {nm : Str} {c t : Int} (n : t ≠ c) : c ∈ (mvd P nm t).map (·.2) ↔ rest P nm c ≠ [] := by
  unfold rest mvd
  rw [Ne, List.map_eq_nil_iff, List.filter_eq_nil_iff, List.map_map]
  constructor
  · intro m z
    obtain ⟨x, hx, e⟩ := List.mem_map.mp m
    have := z x hx
    dsimp only [Function.comp] at e
    by_cases e1 : x.1 = nm
    · rw [if_pos e1] at e
      exact n e
    · rw [if_neg e1] at e
      simp [e, e1] at this
  · intro z
    rw [List.mem_map]
    refine Classical.byContradiction fun no => z fun x hx => ?_
    rw [Bool.and_eq_true, decide_eq_true_eq, Bool.not_eq_true', decide_eq_false_iff_not]
    rintro ⟨e1, e2⟩
    refine no ⟨x, hx, ?_⟩
    dsimp only [Function.comp]
    rw [if_neg e2, e1]
section
variable {P : Program} {w : World} {K : PySem.W.Frag} {mg : Str → Option Value} {base : Heap}
def spLRev : Sp := fun vs H Q _ => ∃ (h p : Addr) (n : Int) (D : List (Int × Int)) (P : List (Str × Int)) (nm : Str) (r c : Int), vs = [.ref h, .ref p, .str nm, .int r] ∧ HouseAt H h n D ∧ Forest n D ∧ 0 ≤ n ∧ n ≤ 8 ∧ PlAt H p P ∧ Pl n P ∧ P.length ≤ 100 ∧ (nm, c) ∈ P ∧ 0 ≤ r ∧ r < n ∧ r ∈ nb n D c ∧
  (r ∈ P.map (·.2) → ∀ H' u, Same H H' → PlD H' u (mvd P nm r) → Q (.ref u) H') ∧ (r ∉ P.map (·.2) → ∀ H', Same H H' → Q (.int r) H')
abbrev nLRev : List Str := ["_law_house_here", "_law_placement_here", "_law_name", "_law_room", "_law_found", "e"]
theorem scLRev : FnScope nLRev ["_law_house_here", "_law_placement_here", "_law_name", "_law_room"] (defScope sLRev) := ⟨rfl, rfl, rfl, by decide +kernel, rfl, by decide +kernel, by decide +kernel⟩
theorem ok_lrev {f : Addr} {fd : FuncData} {k : Nat} {E C1 CEmptyRoom : Addr} (F : Fun K "_law_reverse" "_law_reverse" sLRev f fd) (hE : HE K mg E) (REmptyRoom : Er1 P w K mg base "EmptyRoom" "EmptyRoom.__init__" "room" E CEmptyRoom) (Cmove_person : CalX P w K mg base (k + 3) "move_person" pMove (spMoveX C1 CEmptyRoom)) : FnOk P w K mg base CX0 (k + 4) f fd ["_law_house_here", "_law_placement_here", "_law_name", "_law_room"] spLRev := by
  refine F.ok scLRev (fun vs H Q E h => ?_) (fun cdv A outer s H vs Q E0 hr h => ?_)
  · obtain ⟨h, p, n, D, P, nm, r, c, rfl, _⟩ := h
    rfl
  · obtain ⟨h, p, n, D, P, nm, r, c, rfl, hH, hF, n0, n1, hP, pl, lP, hm, r0, r1, ha, q1, q2⟩ := h
    refine ⟨_, (pss_cons (ps_set (i := 4) scLRev.nd rfl (.inl rfl) pe_non)
      (pss_cons (ps_try_as (i := 5) rfl rfl scLRev.nd rfl rfl ⟨by rfl, by decide, .inl REmptyRoom.r.g⟩ takes0 (fun W pn xe tk _ => (pss_one (ps_set (i := 4) scLRev.nd rfl (.inl rfl) (pe_calX Cmove_person tk hr (by rfl) (pa_cons (pv 0) (pa_cons (pv 1) (pa_cons (pv 2) (pa_cons (pv 3) pa_nil))))))))
      (fun a oe cls d pn hz hf => (pss_one (ps_set (i := 4) scLRev.nd rfl (.inl rfl) (pe_xf REmptyRoom.r.e.x REmptyRoom.r.no hz hf (pv 5))))))
      (pss_one (ps_ret (pv 4))))), ?_⟩
    refine ⟨_, rfl, _, rfl, _, rfl, _, rfl, h, p, n, D, P, nm, r, c, rfl, hH, hF, n0, n1, hP, pl, lP, hm, r0, r1, fun _ a2 H' u s' hu => ⟨_, rfl, q1 a2 H' u s' hu⟩, fun a1 => absurd ha a1, fun _ a2 d H' s' e' => ⟨true, (exm_ref REmptyRoom.r.mro REmptyRoom.r.e).trans (congrArg some (decide_eq_true (.inl rfl))), fun _ a ha => ⟨_, rfl, rfl, rfl, d, _, _, rfl, e', rfl, ?_⟩, fun z => nomatch z⟩⟩
    exact ⟨_, rfl, q2 a2 H' s'⟩
def spLRevH : Sp := fun vs H Q _ => ∃ (h p : Addr) (n : Int) (D : List (Int × Int)) (P : List (Str × Int)), vs = [.ref h, .ref p] ∧ HouseAt H h n D ∧ Forest n D ∧ 0 ≤ n ∧ n ≤ 8 ∧ PlD H p P ∧ Pl n P ∧ P.length ≤ 100 ∧ ∀ H', Same H H' → Q (.bl true) H'
abbrev nLRevH : List Str := ["_law_house_here", "_law_placement_here", "_law_name", "_law_there", "_law_here", "_law_behind", "_law_remains", "_law_one", "_law_room"]
theorem scLRevH : FnScope nLRevH ["_law_house_here", "_law_placement_here"] (defScope sLRevH) := ⟨rfl, rfl, rfl, by decide +kernel, rfl, by decide +kernel, by decide +kernel⟩
theorem ok_lrevh {f : Addr} {fd : FuncData} {k : Nat} (F : Fun K "_law_reversal_holds" "_law_reversal_holds" sLRevH f fd) (T : Nm mg) (Tdict : mg "dict" = none) (Clegal_moves : Cal P w K mg base (k + 4) "legal_moves" pHP spLegal) (Cmove_person : Cal P w K mg base (k + 4) "move_person" pMove spMove) (C_law_reverse : Cal P w K mg base (k + 4) "_law_reverse" ["_law_house_here", "_law_placement_here", "_law_name", "_law_room"] spLRev) : FnOk P w K mg base CX0 (k + 5) f fd ["_law_house_here", "_law_placement_here"] spLRevH := by
  refine F.ok scLRevH (fun vs H Q E h => ?_) (fun cdv A outer s H vs Q E0 hr h => ?_)
  · obtain ⟨h, p, n, D, P, rfl, _⟩ := h
    rfl
  · obtain ⟨h, p, n, D, PP, rfl, hH, hF, n0, n1, hD, pl, lP, q⟩ := h
    refine ⟨_, (pss_cons (ps_for PassesOwn.never rfl (pi_tupK K rfl (pe_cal Clegal_moves hr (by rfl) (pa_cons (pv 0) (pa_cons (pv 1) pa_nil)))) (pg_tup (by rfl) (pgs_cons (pg_name (i := 2) scLRevH.nd rfl (.inr rfl)) (pgs_cons (pg_name (i := 3) scLRevH.nd rfl (.inl rfl)) pgs_nil)))
      (pss_cons (ps_set (i := 4) scLRevH.nd rfl (.inr rfl) (pe_dget (hu_of hr) (pe_callTy (call_dictT rfl) (by rfl) Tdict (by decide +kernel) (pa_cons (pv 1) pa_nil)) (pv 2) (fun _ _ => rfl)))
       (pss_cons (ps_set (i := 5) scLRevH.nd rfl (.inl rfl) (pe_cal Cmove_person hr (by rfl) (pa_cons (pv 0) (pa_cons (pv 1) (pa_cons (pv 2) (pa_cons (pv 3) pa_nil))))))
       (pss_cons (ps_set (i := 6) scLRevH.nd rfl (.inl rfl) (pe_cmpR (op_neL0 (Nat.lt_of_succ_lt (hu_of hr))) (pe_lc (own := [("_law_one", 7), ("_law_room", 8)]) (g := gTup K 2 (gCons (gName 7) (gCons (gName 8) gNil))) (by rfl) scLRevH.nd (pi_tupK K rfl (pv 1))
 (blkOk_by (own := [("_law_one", 7), ("_law_room", 8)]) (N := nLRevH) (sc := defScope sLRevH) (by decide +kernel))
 (fun _ _ _ _ _ => (pg_tup (by rfl) (pgs_cons (pg_name (i := 7) scLRevH.nd rfl (.inl rfl)) (pgs_cons (pg_name (i := 8) scLRevH.nd rfl (.inl rfl)) pgs_nil)))) (fun _ _ _ _ _ => pts_one (PW.pt (pw_and (pt_cmpR op_eq (pv 8) (pv 4) (nomark _)) (pw_and1 (pt_cmpR op_ne (pv 7) (pv 2) (nomark _)))))) (fun _ _ _ _ _ => (pv 7))) (pe_lst pa_nil) (nomark _)))
       (pss_one (ps_if (pt_cmpR (op_neDK K rfl hr.units) (pe_cal C_law_reverse hr (by rfl) (pa_cons (pv 0) (pa_cons (pv 5) (pa_cons (pv 2) (pa_cons (pv 4) pa_nil))))) (pe_ifExp (pt_val (pv 6)) (pv 1) (pv 4)) (nomark _))
       pss_never
       pss_nil))))))
      (pss_one (ps_ret pe_bl))), ?_⟩
    refine ⟨_, rfl, _, rfl, h, p, n, D, PP, rfl, hH, hF, n0, n1, hD.pl, by omega, fun H1 t s1 d1 => ?_⟩
    obtain ⟨xs, sq, _⟩ := d1.pl.sq' (K := K)
    refine ⟨t, rfl, ⟨xs, sq⟩, for_pl d1.pl (fun k σ H' => ∃ y2 y3 y4 y5 y6 y7 y8, σ = [some (.ref h), some (.ref p), y2, y3, y4, y5, y6, y7, y8] ∧ Same H1 H') ⟨_, _, _, _, _, _, _, rfl, Same.refl _⟩ ?_ ?_ ?_⟩
    · rintro k σ H' ⟨_, _, _, _, _, _, _, _, s'⟩
      exact Tk.of s'
    · rintro k nm t' σ H2 hk ⟨y2, y3, y4, y5, y6, y7, y8, rfl, s2⟩
      obtain ⟨c, hc, hr1, hr2⟩ := mvs_mem (List.mem_of_getElem? hk)
      obtain ⟨y, hy, ey⟩ := List.mem_map.mp hr2
      have rr : 0 ≤ t' ∧ t' < n := by rw [← ey]; exact pl.rm y hy
      have cc := pl.rm _ hc
      have s02 := s1.trans s2
      have hD2 := hD.same s02
      refine ⟨_, rfl, p, PP, rfl, hD2, pl.nodup, by omega, fun m hm => ?_⟩
      have s3 := same_upd (o := .dK (dkI PP)) hm
      have g1 := DGet.k (k := Sum.inr nm) (show (upd H2 m (.dK (dkI PP))) m = some (.dK (dkI PP)) from upd_same)
      rw [valV_dkI pl.nodup hc] at g1
      generalize upd H2 m (.dK (dkI PP)) = H3 at *
      refine ⟨_, rfl, m, _, rfl, g1, ?_⟩
      have s03 := s02.trans s3
      refine ⟨_, rfl, _, rfl, _, rfl, _, rfl, h, p, n, D, PP, nm, t', c, rfl, hH.same s03, hF, n0, n1, (hD.same s03).pl, pl, by omega, hc, hr1, hr2, fun H4 b s4 d4 => ?_⟩
      have s04 := s03.trans s4
      have hP4 := (hD.same s04).pl
      refine ⟨_, rfl, p, rfl, hP4.sq, fun M hM => lc_pl hP4 (fun i H' => Same H4 H' ∧ H' M = some (.lst ((rest (PP.take i) nm c).map V.str))) ⟨same_upd hM, upd_same⟩ (fun _ _ h => Tk.of h.1) ?_ ?_⟩
      · rintro i a r H5 hi ⟨s5, e5⟩
        rw [rest_snoc hi]
        refine ⟨rfl, _, rfl, _, rfl, rfl, _, rfl, ?_⟩
        by_cases er : r = c
        · rw [decide_eq_true (congrArg V.int er), decide_eq_true er]
          refine iteT ⟨_, rfl, _, rfl, rfl, _, rfl, ?_⟩
          rw [str_dec, Bool.true_and]
          refine ite2 (fun z => ?_) (fun z => ?_)
          · rw [if_pos z]
            refine ⟨_, rfl, _, e5, ?_, same_put s5 hM, ?_⟩
            · rw [List.length_map]
              have := rest_len (PP.take i) nm c
              rw [List.length_take] at this
              exact small1000 (by omega)
            · rw [upd_same, List.map_append]
              rfl
          · rw [if_neg z, List.append_nil]
            exact ⟨s5, e5⟩
        · rw [decide_eq_false (fun e => er (V.int.inj e)), decide_eq_false er, Bool.false_and, if_neg Bool.false_ne_true, List.append_nil]
          exact iteF ⟨s5, e5⟩
      rintro H5 ⟨s5, e5⟩
      rw [List.take_length] at e5
      refine ⟨Nat.zero_le _, fun N hN => ⟨M, N, _, rfl, rfl, SqL.of (same_upd hN _ _ e5), SqL.of upd_same, ?_⟩⟩
      have s06 := s04.trans (s5.trans (same_upd (o := .lst []) hN))
      have d6 := d4.same (s5.trans (same_upd (o := .lst []) hN))
      have eb : (!((rest PP nm c).map V.str).isEmpty) = decide (rest PP nm c ≠ []) := by
        cases rest PP nm c <;> rfl
      rw [eb]
      have s26 := s2.trans (s3.trans (s4.trans (s5.trans (same_upd (o := .lst []) hN))))
      generalize upd H5 N (.lst []) = H6 at *
      have nd := pl.nodup
      have ne : t' ≠ c := nb_ne hF hr1
      have mem' : (nm, t') ∈ mvd PP nm t' := List.mem_map.mpr ⟨(nm, c), hc, by dsimp only; rw [if_pos rfl]⟩
      refine ⟨_, rfl, _, rfl, _, rfl, _, rfl, h, b, n, D, mvd PP nm t', nm, c, t', rfl, hH.same s06, hF, n0, n1, d6.pl, pl.mvd rr.1 rr.2, by rw [mvd_len]; omega, mem', cc.1, cc.2, (hF.mem_nb).mpr (adj_symm ((hF.mem_nb).mp hr1)), fun m H7 u s7 d7 => ?_, fun m H7 s7 => ?_⟩
      · rw [decide_eq_true ((rest_stay ne).mp m)]
        rw [mvd_back nd hc] at d7
        refine ⟨_, rfl, _, rfl, iteT ⟨_, rfl, ?_⟩⟩
        refine ⟨pld PP, pld PP, d7.pl.dp, (hD.same (s06.trans s7)).pl.dp, pld_shaped pl.nams, pld_shaped pl.nams, _, rfl, ?_⟩
        rw [eqv_pld, decide_eq_true rfl]
        exact iteF ⟨_, _, _, _, _, _, _, rfl, s26.trans s7⟩
      · rw [decide_eq_false fun z => m ((rest_stay ne).mpr z)]
        refine ⟨_, rfl, _, rfl, iteF ⟨_, rfl, ?_⟩⟩
        refine ⟨.int c, .int c, .int _, .int _, rfl, rfl, _, rfl, ?_⟩
        have : PyData.eqv (.int c) (.int c) = true := by simp [PyData.eqv]
        rw [this]
        exact iteF ⟨_, _, _, _, _, _, _, rfl, s26.trans s7⟩
    · rintro σ H' ⟨_, _, _, _, _, _, _, rfl, s'⟩
      exact q _ (s1.trans s')
end
end Fw
namespace Fw
open PySem PySem.Spec PyProof.Rows L2
set_option maxHeartbeats 8000000
/-- who is there -/
def hereN (P : List (Str × Int)) (c : Int) : List Str := (P.filter fun x => decide (x.2 = c)).map (·.1)
theorem hereN_snoc {P : List (Str × Int)} {c : Int} {k : Nat} {a : Str} {r : Int} (h : P[k]? = some (a, r)) : hereN (P.take (k + 1)) c = hereN (P.take k) c ++ if r = c then [a] else [] := by
  unfold hereN
  rw [take_snoc h, filter_snoc, List.map_append]
  congr 1
  dsimp only
  by_cases e : r = c
  · rw [if_pos e, if_pos (decide_eq_true e)]
    rfl
  · rw [if_neg e, if_neg (by simpa using e)]
    rfl
theorem hereN_len (P : List (Str × Int)) (c : Int) : (hereN P c).length ≤ P.length := by
  unfold hereN
  rw [List.length_map]
  exact List.length_filter_le _ _
theorem hereN_rest {P : List (Str × Int)} {nm : Str} {c : Int} (h : hereN P c = [nm]) : rest P nm c = [] := by
  unfold rest
  rw [List.map_eq_nil_iff, List.filter_eq_nil_iff]
  intro x hx z
  rw [Bool.and_eq_true, decide_eq_true_eq, Bool.not_eq_true', decide_eq_false_iff_not] at z
  have m : x.1 ∈ hereN P c := List.mem_map_of_mem (f := (·.1)) (List.mem_filter.mpr ⟨hx, decide_eq_true z.1⟩)
  rw [h] at m
  exact z.2 (List.mem_singleton.mp m)
theorem dpS {K : PySem.W.Frag} {H : Hp} : ∀ ns : List Str, DpAll K H (ns.map V.str) (ns.map PyData.str)
  | [] => .nil
  | z :: ns => .cons (.str z) (dpS ns)
theorem shS {ns : List Str} (h : ∀ x ∈ ns, PyData.strOk x = true) : SeqAt.shaped (.list (ns.map PyData.str)) = true := by
  have : PyData.canLayAll0 (ns.map PyData.str) = true ∧ PyData.depthAll (ns.map PyData.str) = 0 := by
    induction ns with
    | nil => simp [PyData.canLayAll0, PyData.depthAll]
    | cons z ns ih =>
      obtain ⟨i1, i2⟩ := ih fun x hx => h x (List.mem_cons_of_mem _ hx)
      simp [PyData.canLayAll0, PyData.depthAll, PyData.canLay0, PyData.depth, i1, i2, h z (List.mem_cons_self ..)]
  unfold SeqAt.shaped
  rw [PyData.canLay0, this.1, PyData.depth, this.2]
  decide
theorem eqS : ∀ xs ys : List Str, PyData.eqvAll (xs.map PyData.str) (ys.map PyData.str) = decide (xs = ys)
  | [], [] => rfl
  | [], _ :: _ => by rw [List.map_nil, List.map_cons, PyData.eqvAll]; rfl
  | _ :: _, [] => by rw [List.map_nil, List.map_cons, PyData.eqvAll]; rfl
  | x :: xs, y :: ys => by
    rw [List.map_cons, List.map_cons, PyData.eqvAll, eqS xs ys]
    simp only [PyData.eqv]
    rw [Bool.eq_iff_iff]
    simp
section
variable {P : Program} {w : World} {K : PySem.W.Frag} {mg : Str → Option Value} {base : Heap}
def spLaw (K : PySem.W.Frag) : Sp := fun vs H Q _ => ∃ (a : Addr) (ns : List Int), vs = [.ref a] ∧ SqL K H a (vi ns) ∧ ns.length ≤ 63 ∧ ∀ H', Q (.bl true) H'
abbrev nLaw : List Str := ["_law_script", "_law_stream_here", "_law_turn", "_law_house_here", "_law_placement_here", "_law_here", "_law_name", "_law_there", "_law_left", "_law_one", "_law_room", "_law_behind", "_law_row"]
theorem scLaw : FnScope nLaw ["_law_script"] (defScope sLaw) := ⟨rfl, rfl, rfl, by decide +kernel, rfl, by decide +kernel, by decide +kernel⟩
def Errs (K : PySem.W.Frag) (mg : Str → Option Value) : Prop := ∃ E, HE K mg E ∧ CEE K mg E "UnknownPerson" "UnknownPerson.__init__" "name" iUnknownPerson ∧ CEE K mg E "InvalidRoom" "InvalidRoom.__init__" "room" iInvalidRoom ∧ CEE K mg E "NotAdjacent" "NotAdjacent.__init__" "room" iNotAdjacent ∧ CEE K mg E "EmptyRoom" "EmptyRoom.__init__" "room" iEmptyRoom
/-- the defs of the text -/
structure All (K : PySem.W.Frag) (mg : Str → Option Value) : Prop where
  T : Nm mg
  dict : mg "dict" = none
  er : Errs K mg
  dis_integer : DefE K mg "is_integer" sIsInt ["value"]
  dis_room : DefE K mg "is_room" sIsRoom ["house", "value"]
  dneighbors : DefE K mg "neighbors" sNb ["house", "room"]
  droom_of : DefE K mg "room_of" sRoomOf ["placement", "name"]
  dwith_person_in : DefE K mg "with_person_in" sWith ["placement", "name", "room"]
  dpeople_in : DefE K mg "people_in" sPIn ["placement", "room"]
  dpeople_within : DefE K mg "people_within" sPWi ["placement", "rooms"]
  dmove_person : DefE K mg "move_person" sMove ["house", "placement", "name", "room"]
  dlegal_moves : DefE K mg "legal_moves" sLegal ["house", "placement"]
  d_law_stream : DefE K mg "_law_stream" sStream ["_law_script"]
  d_law_names : DefE K mg "_law_names" sNames ["_law_stream_here", "_law_many"]
  d_law_draw : DefE K mg "_law_draw" sDraw ["_law_stream_here", "_law_many"]
  d_law_house : DefE K mg "_law_house" sHouse ["_law_stream_here", "_law_least", "_law_most"]
  d_law_placement : DefE K mg "_law_placement" sPl ["_law_stream_here", "_law_house_here", "_law_most"]
  d_law_neighbors : DefE K mg "_law_neighbors" sLNb ["_law_house_here", "_law_room"]
  d_law_moved : DefE K mg "_law_moved" sLMoved ["_law_placement_here", "_law_name", "_law_room"]
  d_law_moves : DefE K mg "_law_moves" sLMoves ["_law_house_here", "_law_placement_here"]
  d_law_reachable : DefE K mg "_law_reachable" sLReach ["_law_house_here", "_law_placement_here"]
  d_law_random_walk : DefE K mg "_law_random_walk" sLWalk ["_law_stream_here", "_law_house_here", "_law_placement_here", "_law_many"]
  d_law_reverse : DefE K mg "_law_reverse" sLRev ["_law_house_here", "_law_placement_here", "_law_name", "_law_room"]
  d_law_reversal_holds : DefE K mg "_law_reversal_holds" sLRevH ["_law_house_here", "_law_placement_here"]
theorem ok_law {f : Addr} {fd : FuncData} (F : Fun K "law" "law" sLaw f fd) (Z : All K mg) : FnG P w K mg base 6 f fd ["_law_script"] (spLaw K) := by
  have T := Z.T
  obtain ⟨E, hE, eUnknownPerson, eInvalidRoom, eNotAdjacent, eEmptyRoom⟩ := Z.er
  obtain ⟨CUnknownPerson, RUnknownPerson⟩ := er1_UnknownPerson (P := P) (w := w) (base := base) eUnknownPerson
  obtain ⟨CInvalidRoom, RInvalidRoom⟩ := er1_InvalidRoom (P := P) (w := w) (base := base) eInvalidRoom
  obtain ⟨CNotAdjacent, RNotAdjacent⟩ := er1_NotAdjacent (P := P) (w := w) (base := base) eNotAdjacent
  obtain ⟨CEmptyRoom, REmptyRoom⟩ := er1_EmptyRoom (P := P) (w := w) (base := base) eEmptyRoom
  have Cis_integer : Cal P w K mg base 1 "is_integer" ["value"] spIsIntI := Z.dis_integer.cal fun _ _ d => ok_isint d.F T
  have Cis_room : Cal P w K mg base 2 "is_room" ["house", "value"] spIsRoom := Z.dis_room.cal fun _ _ d => ok_isroom d.F T (Cis_integer.up (by decide))
  have Cneighbors : Cal P w K mg base 1 "neighbors" ["house", "room"] spNb := Z.dneighbors.cal fun _ _ d => ok_nb d.F T
  have Croom_of : Cal P w K mg base 1 "room_of" ["placement", "name"] spRoomOf := Z.droom_of.cal fun _ _ d => ok_roomof d.F
  have Cwith_person_in : Cal P w K mg base 1 "with_person_in" ["placement", "name", "room"] spWith := Z.dwith_person_in.cal fun _ _ d => ok_with d.F T
  have Cpeople_within : Cal P w K mg base 1 "people_within" ["placement", "rooms"] (spPWi K) := Z.dpeople_within.cal fun _ _ d => ok_pwi d.F T
  have Cpeople_in : Cal P w K mg base 2 "people_in" ["placement", "room"] spPIn := Z.dpeople_in.cal fun _ _ d => ok_pin d.F T (Cpeople_within.up (by decide))
  have Cmove_person : Cal P w K mg base 3 "move_person" ["house", "placement", "name", "room"] spMove := Z.dmove_person.cal fun _ _ d => ok_move d.F T (Croom_of.up (by decide)) (Cis_room.up (by decide)) (Cneighbors.up (by decide)) (Cpeople_in.up (by decide)) (Cwith_person_in.up (by decide))
  have Clegal_moves : Cal P w K mg base 3 "legal_moves" ["house", "placement"] spLegal := Z.dlegal_moves.cal fun _ _ d => ok_legal d.F T (Cneighbors.up (by decide)) (Cpeople_in.up (by decide))
  have C_law_stream : Cal P w K mg base 1 "_law_stream" ["_law_script"] (spStream K) := Z.d_law_stream.cal fun _ _ d => ok_stream d.F T
  have C_law_house : Cal P w K mg base 2 "_law_house" ["_law_stream_here", "_law_least", "_law_most"] spHouse := Z.d_law_house.cal fun _ _ d => by
    obtain ⟨af2, bf2, f2⟩ := Z.d_law_draw
    exact ok_house d.F T f2
  have C_law_draw : Cal P w K mg base 1 "_law_draw" ["_law_stream_here", "_law_many"] spDraw := Z.d_law_draw.cal fun _ _ d => ok_draw d.F T
  have C_law_names : Cal P w K mg base 2 "_law_names" ["_law_stream_here", "_law_many"] spNames := Z.d_law_names.cal fun _ _ d => ok_names d.F T (C_law_draw.up (by decide))
  have C_law_placement : Cal P w K mg base 3 "_law_placement" ["_law_stream_here", "_law_house_here", "_law_most"] spPl := Z.d_law_placement.cal fun _ _ d => ok_pl d.F T (C_law_draw.up (by decide)) (C_law_names.up (by decide))
  have C_law_moved : Cal P w K mg base 1 "_law_moved" ["_law_placement_here", "_law_name", "_law_room"] spLMoved := Z.d_law_moved.cal fun _ _ d => ok_lmoved d.F T
  have C_law_neighbors : Cal P w K mg base 1 "_law_neighbors" ["_law_house_here", "_law_room"] spLNb := Z.d_law_neighbors.cal fun _ _ d => ok_lnb d.F T
  have C_law_moves : Cal P w K mg base 2 "_law_moves" ["_law_house_here", "_law_placement_here"] spLMoves := Z.d_law_moves.cal fun _ _ d => ok_lmoves d.F T (C_law_neighbors.up (by decide))
  have C_law_random_walk : Cal P w K mg base 3 "_law_random_walk" ["_law_stream_here", "_law_house_here", "_law_placement_here", "_law_many"] spLWalk := Z.d_law_random_walk.cal fun _ _ d => ok_lwalk d.F T (C_law_draw.up (by decide)) (C_law_moves.up (by decide)) (C_law_moved.up (by decide))
  have CmoveX : CalX P w K mg base 3 "move_person" pMove (spMoveX CNotAdjacent CEmptyRoom) := Z.dmove_person.calX fun _ _ d => ok_moveX d.F T (Croom_of.up (by decide)) (Cis_room.up (by decide)) (Cneighbors.up (by decide)) (Cpeople_in.up (by decide)) (Cwith_person_in.up (by decide)) RNotAdjacent.r REmptyRoom.r
  have C_law_reverse : Cal P w K mg base 4 "_law_reverse" ["_law_house_here", "_law_placement_here", "_law_name", "_law_room"] spLRev := Z.d_law_reverse.cal fun _ _ d => ok_lrev (k := 0) d.F hE REmptyRoom CmoveX
  have C_law_reversal_holds : Cal P w K mg base 5 "_law_reversal_holds" ["_law_house_here", "_law_placement_here"] spLRevH := Z.d_law_reversal_holds.cal fun _ _ d => ok_lrevh (k := 0) d.F T Z.dict (Clegal_moves.up (by decide)) (Cmove_person.up (by decide)) C_law_reverse
  have C_law_reachable : Cal P w K mg base 3 "_law_reachable" pLReach (spReach P w) := Z.d_law_reachable.cal fun _ _ d => ok_lreach (k := 0) d.F T (C_law_moves.up (by decide)) (C_law_moved.up (by decide))
  refine Fun.okG F scLaw (fun vs H Q E h => ?_) (fun cdv A outer s H vs Q gd hr h => ?_)
  · obtain ⟨a, ns, rfl, _⟩ := h
    rfl
  · obtain ⟨a, ns, rfl, hS, hlen, q⟩ := h
    refine ⟨_, (pss_cons (ps_set (i := 1) scLaw.nd rfl (.inl rfl) (pe_cal C_law_stream (hr.mono (by decide)) (by rfl) (pa_cons (pv 0) pa_nil)))
      (pss_cons (ps_for PassesOwn.never rfl (pi_range1 (by rfl) T.range (pa_cons pe_int pa_nil)) (pg_name (i := 2) scLaw.nd rfl (.inl rfl))
      (pss_cons (ps_set (i := 3) scLaw.nd rfl (.inl rfl) (pe_cal C_law_house (hr.mono (by decide)) (by rfl) (pa_cons (pv 1) (pa_cons pe_int (pa_cons pe_int pa_nil)))))
       (pss_cons (ps_set (i := 4) scLaw.nd rfl (.inl rfl) (pe_cal C_law_placement (hr.mono (by decide)) (by rfl) (pa_cons (pv 1) (pa_cons (pv 3) (pa_cons pe_int pa_nil)))))
       (pss_one (ps_for PassesOwn.never rfl (pi_listK K rfl (pe_lst (pa_cons (pv 4) (pa_cons (pe_ix (ix_listK K rfl) (pe_cal C_law_random_walk (hr.mono (by decide)) (by rfl) (pa_cons (pv 1) (pa_cons (pv 3) (pa_cons (pv 4) (pa_cons pe_int pa_nil))))) pe_int (fun _ _ => rfl)) pa_nil)))) (pg_name (i := 5) scLaw.nd rfl (.inl rfl))
       (pss_one (ps_if (pt_not (pt_val (pe_cal C_law_reversal_holds (hr.mono (by decide)) (by rfl) (pa_cons (pv 3) (pa_cons (pv 5) pa_nil)))))
        pss_never
        pss_nil)))))))
      (pss_cons (ps_set (i := 3) scLaw.nd rfl (.inl rfl) (pe_cal C_law_house (hr.mono (by decide)) (by rfl) (pa_cons (pv 1) (pa_cons pe_int (pa_cons pe_int pa_nil)))))
      (pss_cons (ps_set (i := 4) scLaw.nd rfl (.inl rfl) (pe_cal C_law_placement (hr.mono (by decide)) (by rfl) (pa_cons (pv 1) (pa_cons (pv 3) (pa_cons pe_int pa_nil)))))
      (pss_cons (ps_for PassesOwn.never rfl (pi_tupK K rfl (pe_cal Clegal_moves (hr.mono (by decide)) (by rfl) (pa_cons (pv 3) (pa_cons (pv 4) pa_nil)))) (pg_tup (by rfl) (pgs_cons (pg_name (i := 6) scLaw.nd rfl (.inl rfl)) (pgs_cons (pg_name (i := 7) scLaw.nd rfl (.inl rfl)) pgs_nil)))
      (pss_cons (ps_set (i := 8) scLaw.nd rfl (.inr rfl) (pe_dget (hu_of hr) (pe_callTy (call_dictT rfl) (by rfl) Z.dict (by decide +kernel) (pa_cons (pv 4) pa_nil)) (pv 6) (fun _ _ => rfl)))
       (pss_one (ps_if (pt_cmpR (op_eqDK K rfl hr.units) (pe_lc (own := [("_law_one", 9), ("_law_room", 10)]) (g := gTup K 2 (gCons (gName 9) (gCons (gName 10) gNil))) (by rfl) scLaw.nd (pi_tupK K rfl (pv 4))
 (blkOk_by (own := [("_law_one", 9), ("_law_room", 10)]) (N := nLaw) (sc := defScope sLaw) (by decide +kernel))
 (fun _ _ _ _ _ => (pg_tup (by rfl) (pgs_cons (pg_name (i := 9) scLaw.nd rfl (.inl rfl)) (pgs_cons (pg_name (i := 10) scLaw.nd rfl (.inl rfl)) pgs_nil)))) (fun _ _ _ _ _ => pts_one (pt_cmpR op_eq (pv 10) (pv 8) (nomark _))) (fun _ _ _ _ _ => (pv 9))) (pe_lst (pa_cons (pv 6) pa_nil)) (nomark _))
       (pss_cons (ps_set (i := 11) scLaw.nd rfl (.inl rfl) (pe_cal Cmove_person (hr.mono (by decide)) (by rfl) (pa_cons (pv 3) (pa_cons (pv 4) (pa_cons (pv 6) (pa_cons (pv 7) pa_nil))))))
        (pss_one (ps_if (pt_cmpR (op_neL0 (Nat.lt_of_succ_lt (hu_of hr))) (pe_lc (own := [("_law_one", 9)]) (g := gName 9) (by rfl) scLaw.nd (pi_dnL (pe_cal C_law_reachable (hr.mono (by decide)) (by rfl) (pa_cons (pv 3) (pa_cons (pv 11) pa_nil))))
 (blkOk_by (own := [("_law_one", 9)]) (N := nLaw) (sc := defScope sLaw) (by decide +kernel))
 (fun _ _ _ _ _ => (pg_name (i := 9) scLaw.nd rfl (.inl rfl))) (fun _ _ _ _ _ => pts_one (pt_cmpR (op_inK K rfl) (pv 8) (pe_lc (own := [("_law_row", 12)]) (g := gName 12) (by rfl) scLaw.nd (pi_tupK K rfl (pv 9))
 (blkOk_by (own := [("_law_row", 12)]) (N := nLaw) (sc := { kind := .function, names := [(".0", .local), ("_law_one", .local), ("_law_left", .cell)], isGenerator := false, isCoroutine := false }) (by decide +kernel))
 (fun _ _ _ _ _ => (pg_name (i := 12) scLaw.nd rfl (.inl rfl))) (fun _ _ _ _ _ => pts_nil) (fun _ _ _ _ _ => (pe_ix (ix_tupK K rfl) (pv 12) pe_int (fun _ _ => rfl)))) (by rfl))) (fun _ _ _ _ _ => (pv 9))) (pe_lst pa_nil) (nomark _))
        pss_never
        pss_nil)))
       pss_nil))))
      (pss_one (ps_ret pe_bl))))))), ?_⟩
    refine ⟨_, rfl, a, ns, rfl, hS, hlen, fun H1 s1 A1 B1 sm1 _ _ hS1 => ?_⟩
    refine ⟨4, rfl, by decide, by decide, for_range (lo := 0) (n := 4) (fun i σ H' => ∃ y2 y3 y4 y5 y6 y7 y8 y9 y10 y11 y12, σ = [some (.ref a), some (.ref s1), y2, y3, y4, y5, y6, y7, y8, y9, y10, y11, y12] ∧ StreamAt H' s1 A1 B1 (200 * i)) ⟨_, _, _, _, _, _, _, _, _, _, _, rfl, hS1⟩ ?_ ?_⟩
    · rintro i σ H2 hi ⟨y2, y3, y4, y5, y6, y7, y8, y9, y10, y11, y12, rfl, hS2⟩
      refine ⟨_, rfl, s1, A1, B1, 200 * i, 1, 8, rfl, hS2, by omega, by decide, by decide, by decide, fun H3 h n D hS3 fr3 hH3 hF n0 n1 => ?_⟩
      refine ⟨_, rfl, _, rfl, s1, A1, B1, h, 200 * i + 40, n, D, 12, rfl, hS3, by omega, hH3, n0, n1, by decide, by decide, fun H4 p PP hS4 fr4 hP4 pl lP => ?_⟩
      have lP : PP.length ≤ 12 := lP
      have hH4 := hH3.fr hS3 fr4
      have nn : (0 : Int) ≤ n := by omega
      refine ⟨_, rfl, _, rfl, _, rfl, _, rfl, s1, A1, B1, h, p, 200 * i + 40 + 60, n, D, PP, 9, rfl, hS4, by omega, hH4, hF, n1, hP4, pl, lP, by decide, by decide, fun H5 l t p' ms P' hS5 fr5 e5 ht5 hp5 wk lm => ?_⟩
      obtain ⟨plP', lP', _⟩ := wk.keep pl
      have hH5 := hH4.fr hS4 fr5
      have hP5 := hP4.fr hS4 fr5
      refine ⟨l, _, _, _, rfl, rfl, SqL.of e5, atI1, by show 2 ≤ sizeLine; decide, fun L hL => ?_⟩
      have s6 := same_upd (o := .lst [.ref p, .ref p']) hL
      have eL : (upd H5 L (.lst [.ref p, .ref p'])) L = some (.lst [.ref p, .ref p']) := upd_same
      generalize upd H5 L (.lst [.ref p, .ref p']) = H6 at *
      have hH6 := hH5.same s6
      have hS6 := hS5.same s6
      have el : ∀ (k : Nat) x, ([.ref p, .ref p'] : List V)[k]? = some x → ∃ q X, x = .ref q ∧ PlD H6 q X ∧ Pl n X ∧ X.length ≤ 12 := by
        intro k x hx
        match k, hx with
        | 0, hx => cases hx; exact ⟨p, PP, rfl, hP5.same s6, pl, lP⟩
        | 1, hx => cases hx; exact ⟨p', P', rfl, hp5.same s6, plP', by omega⟩
      refine ⟨L, rfl, ⟨_, SqL.of eL⟩, for_list (K := K) (a := L) (xs := [.ref p, .ref p']) (fun k σ H' => ∃ y5 y6 y7 y8 y9 y10 y11 y12, σ = [some (.ref a), some (.ref s1), some (.int (0 + (i : Int))), some (.ref h), some (.ref p), y5, y6, y7, y8, y9, y10, y11, y12] ∧ Same H6 H')
        ⟨_, _, _, _, _, _, _, _, rfl, Same.refl _⟩ ?_ ?_ ?_⟩
      · rintro k σ H' _ ⟨_, _, _, _, _, _, _, _, _, s'⟩
        exact SqL.of (s' _ _ eL)
      · rintro k x σ H7 hx ⟨z5, z6, z7, z8, z9, z10, z11, z12, rfl, s7⟩
        obtain ⟨qa, X, rfl, hq, plX, lX⟩ := el k x hx
        refine ⟨_, rfl, _, rfl, h, qa, n, D, X, rfl, hH6.same s7, hF, nn, n1, hq.same s7, plX, by omega, fun H8 s8 => ⟨_, rfl, iteF ?_⟩⟩
        exact ⟨_, _, _, _, _, _, _, _, rfl, s7.trans s8⟩
      · rintro σ H7 ⟨z5, z6, z7, z8, z9, z10, z11, z12, rfl, s7⟩
        exact ⟨_, _, _, _, _, _, _, _, _, _, _, rfl, (hS6.same s7).mono (by omega)⟩
    · rintro σ H2 ⟨y2, y3, y4, y5, y6, y7, y8, y9, y10, y11, y12, rfl, hS2⟩
      refine ⟨_, rfl, s1, A1, B1, 200 * 4, 1, 4, rfl, hS2, by decide, by decide, by decide, by decide, fun H3 h n D hS3 fr3 hH3 hF n0 n1 => ?_⟩
      refine ⟨_, rfl, _, rfl, s1, A1, B1, h, 200 * 4 + 40, n, D, 5, rfl, hS3, by decide, hH3, n0, by omega, by decide, by decide, fun H4 p PP hS4 fr4 hD4 pl lP => ?_⟩
      have lP : PP.length ≤ 5 := lP
      have hH4 := hH3.fr hS3 fr4
      have nn : (0 : Int) ≤ n := by omega
      have n8 : n ≤ 8 := by omega
      refine ⟨_, rfl, _, rfl, h, p, n, D, PP, rfl, hH4, hF, nn, n8, hD4.pl, by omega, fun H5 t s5 d5 => ?_⟩
      obtain ⟨xs, sq, _⟩ := d5.pl.sq' (K := K)
      have hH5 := hH4.same s5
      have hD5 := hD4.same s5
      clear hS1 hS2 hS3 hS4 hH3 hH4 hD4
      refine ⟨t, rfl, ⟨xs, sq⟩, for_pl d5.pl (fun k σ H' => ∃ y6 y7 y8 y9 y10 y11 y12, σ = [some (.ref a), some (.ref s1), y2, some (.ref h), some (.ref p), y5, y6, y7, y8, y9, y10, y11, y12] ∧ Same H5 H') ⟨_, _, _, _, _, _, _, rfl, Same.refl _⟩ ?_ ?_ ?_⟩
      · rintro k σ H' ⟨_, _, _, _, _, _, _, _, s'⟩
        exact Tk.of s'
      · rintro k nm t' σ H6 hk ⟨z6, z7, z8, z9, z10, z11, z12, rfl, s6⟩
        obtain ⟨c, hc, hr1, hr2⟩ := mvs_mem (List.mem_of_getElem? hk)
        obtain ⟨y, hy, ey⟩ := List.mem_map.mp hr2
        have rr : 0 ≤ t' ∧ t' < n := by rw [← ey]; exact pl.rm y hy
        have hD6 := hD5.same s6
        refine ⟨_, rfl, p, PP, rfl, hD6, pl.nodup, by omega, fun m hm => ?_⟩
        have s7 := same_upd (o := .dK (dkI PP)) hm
        have g1 := DGet.k (k := Sum.inr nm) (show (upd H6 m (.dK (dkI PP))) m = some (.dK (dkI PP)) from upd_same)
        rw [valV_dkI pl.nodup hc] at g1
        generalize upd H6 m (.dK (dkI PP)) = H7 at *
        refine ⟨_, rfl, m, _, rfl, g1, ?_⟩
        have s57 := s6.trans s7
        have hP7 := (hD5.same s57).pl
        refine ⟨_, rfl, p, rfl, hP7.sq, fun M hM => lc_pl hP7 (fun i H' => Same H7 H' ∧ H' M = some (.lst ((hereN (PP.take i) c).map V.str))) ⟨same_upd hM, upd_same⟩ (fun _ _ h => Tk.of h.1) ?_ ?_⟩
        · rintro i b r H8 hi ⟨s8, e8⟩
          rw [hereN_snoc hi]
          refine ⟨rfl, _, rfl, _, rfl, rfl, _, rfl, ?_⟩
          refine ite2 (fun z => ?_) (fun z => ?_)
          · rw [if_pos (V.int.inj (of_decide_eq_true z))]
            refine ⟨_, rfl, _, e8, ?_, same_put s8 hM, ?_⟩
            · rw [List.length_map]
              have := hereN_len (PP.take i) c
              rw [List.length_take] at this
              exact small1000 (by omega)
            · rw [upd_same, List.map_append]
              rfl
          · rw [if_neg fun e => z (decide_eq_true (by rw [e])), List.append_nil]
            exact ⟨s8, e8⟩
        rintro H8 ⟨s8, e8⟩
        rw [List.take_length] at e8
        refine ⟨_, rfl, by show 1 ≤ sizeLine; decide, fun N hN => ?_⟩
        have s9 := same_upd (o := .lst [.str nm]) hN
        have okN : ∀ x ∈ hereN PP c, PyData.strOk x = true := fun x hx => by
          obtain ⟨y, hy, rfl⟩ := List.mem_map.mp hx
          exact nam_ok (pl.nams y (List.mem_filter.mp hy).1)
        refine ⟨.list ((hereN PP c).map .str), .list [.str nm], .lst (SqL.of (s9 _ _ e8)) (dpS _), .lst (SqL.of upd_same) (dpS [nm]), shS okN, shS (ns := [nm]) (fun x hx => by rw [List.mem_singleton.mp hx]; exact nam_ok (pl.nams _ hc)), _, rfl, ?_⟩
        have eq : PyData.eqv (.list ((hereN PP c).map .str)) (.list [.str nm]) = decide (hereN PP c = [nm]) := by
          rw [PyData.eqv]
          exact eqS _ [nm]
        rw [eq]
        have s59 := s57.trans (s8.trans s9)
        generalize upd H8 N (.lst [.str nm]) = H9 at *
        refine ite2 (fun z => ?_) (fun z => ?_)
        · have z := of_decide_eq_true z
          have ne : t' ≠ c := nb_ne hF hr1
          refine ⟨_, rfl, _, rfl, _, rfl, _, rfl, h, p, n, D, PP, nm, t', c, rfl, hH5.same s59, hF, nn, n8, (hD5.same s59).pl, pl, by omega, hc, hr1, hr2, fun H10 b s10 d10 => ?_⟩
          have s510 := s59.trans s10
          have few : n.toNat ^ (mvd PP nm t').length < sizeLine := by
            rw [mvd_len]
            exact Nat.lt_of_le_of_lt (Nat.le_trans (Nat.pow_le_pow_left (show n.toNat ≤ 4 by omega) _) (Nat.pow_le_pow_right (by decide) lP)) (by decide)
          refine ⟨_, rfl, _, rfl, h, b, n, D, mvd PP nm t', rfl, hH5.same s510, hF, nn, n8, d10.pl, pl.mvd rr.1 rr.2, by rw [mvd_len]; omega, few, fun H11 d ks s11 fd dn bf => ?_⟩
          obtain ⟨xs', ed, pr⟩ := dn.ex
          refine ⟨d, xs', rfl, dn.no, ed, fun o => ?_⟩
          have s511 : Same H5 (upd H11 d (.frz o (DnO P w d xs'))) := same_put (s510.trans s11) ((s510).free fd)
          have t11 : Tk H11 (upd H11 d (.frz o (DnO P w d xs'))) := Tk.refl.putE ed
          have ed' : (upd H11 d (.frz o (DnO P w d xs'))) d = some (.frz o (DnO P w d xs')) := upd_same
          intro M' hM'
          have sM := same_upd (o := .lst []) hM'
          refine walk_dn pr (fun i G => Same (upd (upd H11 d (.frz o (DnO P w d xs'))) M' (.lst [])) G) (Same.refl _) (fun i G s' => ⟨t11.trans (Tk.of (sM.trans s')), s' _ _ (sM _ _ ed')⟩) ?_ ?_
          · rintro i b' R v G hi hR s'
            obtain ⟨qs, q1, q2, q3⟩ := hR
            have no : c ∉ R.map (·.2) := fun m' => by
              obtain ⟨j, _, f⟩ := bf.sd (R, v) (List.mem_of_getElem? hi)
              exact (rest_stay ne).mp (f.1.rooms m') (hereN_rest z)
            refine ⟨rfl, _, rfl, _, rfl, b', rfl, ⟨_, q1.sq⟩, fun N' hN' => lc_tup (K := K) (a := b') (xs := qs.map fun q => V.ref q.1) (fun k H' => Same G H' ∧ H' N' = some (.lst (vi ((R.take k).map (·.2))))) ⟨same_upd hN', upd_same⟩ (fun k H' _ hh => (q1.same hh.1).sq) ?_ ?_⟩
            · rintro k x G1 hx ⟨s19, e19⟩
              obtain ⟨u, hu, rfl⟩ := get_pl hx
              have hk : R[k]? = some (u.2.1, u.2.2) := by rw [q2, List.getElem?_map, hu]; rfl
              have eu := SqT.of (K := K) (s19 _ _ (q3 u (List.mem_of_getElem? hu)))
              refine ⟨rfl, ?_⟩
              unfold tYes
              refine iteT ⟨_, rfl, u.1, _, _, _, rfl, rfl, eu, atI1, _, e19, ?_, same_put s19 hN', ?_⟩
              · rw [List.length_map, List.length_map, List.length_take]
                have : R.length = PP.length := by
                  obtain ⟨j, _, f⟩ := bf.sd (R, v) (List.mem_of_getElem? hi)
                  have := congrArg List.length f.1.names
                  simpa [mvd] using this
                exact small1000 (by omega)
              · rw [upd_same, rooms_snoc hk, vi_app]
                rfl
            · rintro G1 ⟨s19, e19⟩
              rw [show (qs.map fun q => V.ref q.1).length = R.length by rw [q2, List.length_map, List.length_map], List.take_length] at e19
              refine ⟨N', _, rfl, .inl (SqL.of e19), rfl, flat_vi _, _, rfl, ?_⟩
              rw [if_neg (by decide), inV_vi, decide_eq_false no]
              exact iteF (s'.trans s19)
          · rintro G s'
            refine ⟨Nat.zero_le _, fun e he => ⟨M', e, [], rfl, rfl, SqL.of (same_upd he _ _ (s' _ _ upd_same)), SqL.of upd_same, _, rfl, iteF ?_⟩⟩
            exact ⟨_, _, _, _, _, _, _, rfl, s511.trans (sM.trans (s'.trans (same_upd he)))⟩
        · exact ⟨_, _, _, _, _, _, _, rfl, s59⟩
      · rintro σ H' ⟨_, _, _, _, _, _, _, rfl, s'⟩
        exact q _
end
end Fw
set_option maxHeartbeats 8000000
namespace Fw
open PySem L2
theorem all_mk {P : Program} {w : World} {K : PySem.W.Frag} {h : Heap} {mg : Str → Option Value} {fa : Addr} (X : K.In h) (G : h.Ns mainGlobals mg) (hfa : mg "law" = some (.ref fa))
    {EE NH : Addr} {nmH qnH : Str} {bsH subH : List Value} {snH : List Str} {abH : Bool} {colH : Option Bool} {ddH : Option Addr} {pH qH rH sH tH : Option Value} (uHEa : PySem.W.nsIn K mainGlobals "HouseError" = some (some (.ref EE))) (uHEb : PySem.W.subIn K (.ref EE) (.type "BaseException") = some true) (uHEc : K.lookup EE = some (excClassObj nmH qnH EE NH bsH [.type "ValueError", .type "Exception", .type "BaseException", .type "object"] true snH subH abH colH ddH pH qH rH sH tH "ValueError.__new__")) (uHEd : PySem.W.typeIn K (.ref EE) = some (.type "type"))
    {CUnknownPerson gUnknownPerson NUnknownPerson : Addr} {nmUnknownPerson qnUnknownPerson : Str} {bsUnknownPerson subUnknownPerson : List Value} {snUnknownPerson : List Str} {abUnknownPerson : Bool} {colUnknownPerson : Option Bool} {ddUnknownPerson : Option Addr} {pUnknownPerson qUnknownPerson rUnknownPerson sUnknownPerson tUnknownPerson : Option Value} {gdUnknownPerson gaUnknownPerson : Option Addr} {gsUnknownPerson : Array (Option Value)} {goUnknownPerson gkUnknownPerson gvUnknownPerson gpUnknownPerson gcUnknownPerson gtUnknownPerson : Value}
    (uUnknownPersona : PySem.W.nsIn K mainGlobals "UnknownPerson" = some (some (.ref CUnknownPerson)))
    (uUnknownPersonb : K.lookup CUnknownPerson = some (excClassObj nmUnknownPerson qnUnknownPerson CUnknownPerson NUnknownPerson bsUnknownPerson (above EE) true snUnknownPerson subUnknownPerson abUnknownPerson colUnknownPerson ddUnknownPerson pUnknownPerson qUnknownPerson rUnknownPerson sUnknownPerson tUnknownPerson "ValueError.__new__"))
    (uUnknownPersonc : PySem.W.findIn K (.ref CUnknownPerson) "__setattr__" = some (some (.builtin "object.__setattr__"))) (uUnknownPersond : PySem.W.findIn K (.ref CUnknownPerson) "__getattribute__" = some (some (.builtin "BaseException.__getattribute__"))) (uUnknownPersone : PySem.W.findIn K (.ref CUnknownPerson) "__getattr__" = some none)
    (uUnknownPersonf : PySem.W.findIn K (.ref CUnknownPerson) "__init__" = some (some (.ref gUnknownPerson))) (uUnknownPersong : PySem.W.typeIn K (.ref gUnknownPerson) = some (.type "function"))
    (uUnknownPersonh : K.lookup gUnknownPerson = some ⟨goUnknownPerson, gdUnknownPerson, .func (PySem.W.fnOf "__init__" "UnknownPerson.__init__" (defArgs iUnknownPerson) (defBody iUnknownPerson) (defScope iUnknownPerson) .none gkUnknownPerson gvUnknownPerson gpUnknownPerson gaUnknownPerson gcUnknownPerson gtUnknownPerson), gsUnknownPerson⟩)
    (uUnknownPersoni : PySem.W.codeIn K gcUnknownPerson "UnknownPerson.__init__" = true) (uUnknownPersonj : PySem.W.keepIn K (.ref gUnknownPerson) = true) (uUnknownPersonk : PySem.W.keepIn K (.ref CUnknownPerson) = true) (uUnknownPersonl : PySem.W.typeIn K (.ref CUnknownPerson) = some (.type "type")) (uUnknownPersonm : PySem.W.hasDictIn K CUnknownPerson = true)
    (uUnknownPersonn : PySem.W.findIn K (.ref CUnknownPerson) "__class__" = some (some (.builtin "object.__class__"))) (uUnknownPersono : PySem.W.findIn K (.ref CUnknownPerson) "name" = some none)
    (uUnknownPersonp : PySem.W.specialIn K (.builtin "object.__class__") "__get__" = some (some (.builtin "getset_descriptor.__get__"))) (uUnknownPersonq : PySem.W.takesIn K (.builtin "object.__class__") = some true)
    {CInvalidRoom gInvalidRoom NInvalidRoom : Addr} {nmInvalidRoom qnInvalidRoom : Str} {bsInvalidRoom subInvalidRoom : List Value} {snInvalidRoom : List Str} {abInvalidRoom : Bool} {colInvalidRoom : Option Bool} {ddInvalidRoom : Option Addr} {pInvalidRoom qInvalidRoom rInvalidRoom sInvalidRoom tInvalidRoom : Option Value} {gdInvalidRoom gaInvalidRoom : Option Addr} {gsInvalidRoom : Array (Option Value)} {goInvalidRoom gkInvalidRoom gvInvalidRoom gpInvalidRoom gcInvalidRoom gtInvalidRoom : Value}
    (uInvalidRooma : PySem.W.nsIn K mainGlobals "InvalidRoom" = some (some (.ref CInvalidRoom)))
    (uInvalidRoomb : K.lookup CInvalidRoom = some (excClassObj nmInvalidRoom qnInvalidRoom CInvalidRoom NInvalidRoom bsInvalidRoom (above EE) true snInvalidRoom subInvalidRoom abInvalidRoom colInvalidRoom ddInvalidRoom pInvalidRoom qInvalidRoom rInvalidRoom sInvalidRoom tInvalidRoom "ValueError.__new__"))
    (uInvalidRoomc : PySem.W.findIn K (.ref CInvalidRoom) "__setattr__" = some (some (.builtin "object.__setattr__"))) (uInvalidRoomd : PySem.W.findIn K (.ref CInvalidRoom) "__getattribute__" = some (some (.builtin "BaseException.__getattribute__"))) (uInvalidRoome : PySem.W.findIn K (.ref CInvalidRoom) "__getattr__" = some none)
    (uInvalidRoomf : PySem.W.findIn K (.ref CInvalidRoom) "__init__" = some (some (.ref gInvalidRoom))) (uInvalidRoomg : PySem.W.typeIn K (.ref gInvalidRoom) = some (.type "function"))
    (uInvalidRoomh : K.lookup gInvalidRoom = some ⟨goInvalidRoom, gdInvalidRoom, .func (PySem.W.fnOf "__init__" "InvalidRoom.__init__" (defArgs iInvalidRoom) (defBody iInvalidRoom) (defScope iInvalidRoom) .none gkInvalidRoom gvInvalidRoom gpInvalidRoom gaInvalidRoom gcInvalidRoom gtInvalidRoom), gsInvalidRoom⟩)
    (uInvalidRoomi : PySem.W.codeIn K gcInvalidRoom "InvalidRoom.__init__" = true) (uInvalidRoomj : PySem.W.keepIn K (.ref gInvalidRoom) = true) (uInvalidRoomk : PySem.W.keepIn K (.ref CInvalidRoom) = true) (uInvalidRooml : PySem.W.typeIn K (.ref CInvalidRoom) = some (.type "type")) (uInvalidRoomm : PySem.W.hasDictIn K CInvalidRoom = true)
    (uInvalidRoomn : PySem.W.findIn K (.ref CInvalidRoom) "__class__" = some (some (.builtin "object.__class__"))) (uInvalidRoomo : PySem.W.findIn K (.ref CInvalidRoom) "room" = some none)
    (uInvalidRoomp : PySem.W.specialIn K (.builtin "object.__class__") "__get__" = some (some (.builtin "getset_descriptor.__get__"))) (uInvalidRoomq : PySem.W.takesIn K (.builtin "object.__class__") = some true)
    {CNotAdjacent gNotAdjacent NNotAdjacent : Addr} {nmNotAdjacent qnNotAdjacent : Str} {bsNotAdjacent subNotAdjacent : List Value} {snNotAdjacent : List Str} {abNotAdjacent : Bool} {colNotAdjacent : Option Bool} {ddNotAdjacent : Option Addr} {pNotAdjacent qNotAdjacent rNotAdjacent sNotAdjacent tNotAdjacent : Option Value} {gdNotAdjacent gaNotAdjacent : Option Addr} {gsNotAdjacent : Array (Option Value)} {goNotAdjacent gkNotAdjacent gvNotAdjacent gpNotAdjacent gcNotAdjacent gtNotAdjacent : Value}
    (uNotAdjacenta : PySem.W.nsIn K mainGlobals "NotAdjacent" = some (some (.ref CNotAdjacent)))
    (uNotAdjacentb : K.lookup CNotAdjacent = some (excClassObj nmNotAdjacent qnNotAdjacent CNotAdjacent NNotAdjacent bsNotAdjacent (above EE) true snNotAdjacent subNotAdjacent abNotAdjacent colNotAdjacent ddNotAdjacent pNotAdjacent qNotAdjacent rNotAdjacent sNotAdjacent tNotAdjacent "ValueError.__new__"))
    (uNotAdjacentc : PySem.W.findIn K (.ref CNotAdjacent) "__setattr__" = some (some (.builtin "object.__setattr__"))) (uNotAdjacentd : PySem.W.findIn K (.ref CNotAdjacent) "__getattribute__" = some (some (.builtin "BaseException.__getattribute__"))) (uNotAdjacente : PySem.W.findIn K (.ref CNotAdjacent) "__getattr__" = some none)
    (uNotAdjacentf : PySem.W.findIn K (.ref CNotAdjacent) "__init__" = some (some (.ref gNotAdjacent))) (uNotAdjacentg : PySem.W.typeIn K (.ref gNotAdjacent) = some (.type "function"))
    (uNotAdjacenth : K.lookup gNotAdjacent = some ⟨goNotAdjacent, gdNotAdjacent, .func (PySem.W.fnOf "__init__" "NotAdjacent.__init__" (defArgs iNotAdjacent) (defBody iNotAdjacent) (defScope iNotAdjacent) .none gkNotAdjacent gvNotAdjacent gpNotAdjacent gaNotAdjacent gcNotAdjacent gtNotAdjacent), gsNotAdjacent⟩)
    (uNotAdjacenti : PySem.W.codeIn K gcNotAdjacent "NotAdjacent.__init__" = true) (uNotAdjacentj : PySem.W.keepIn K (.ref gNotAdjacent) = true) (uNotAdjacentk : PySem.W.keepIn K (.ref CNotAdjacent) = true) (uNotAdjacentl : PySem.W.typeIn K (.ref CNotAdjacent) = some (.type "type")) (uNotAdjacentm : PySem.W.hasDictIn K CNotAdjacent = true)
    (uNotAdjacentn : PySem.W.findIn K (.ref CNotAdjacent) "__class__" = some (some (.builtin "object.__class__"))) (uNotAdjacento : PySem.W.findIn K (.ref CNotAdjacent) "room" = some none)
    (uNotAdjacentp : PySem.W.specialIn K (.builtin "object.__class__") "__get__" = some (some (.builtin "getset_descriptor.__get__"))) (uNotAdjacentq : PySem.W.takesIn K (.builtin "object.__class__") = some true)
    {CEmptyRoom gEmptyRoom NEmptyRoom : Addr} {nmEmptyRoom qnEmptyRoom : Str} {bsEmptyRoom subEmptyRoom : List Value} {snEmptyRoom : List Str} {abEmptyRoom : Bool} {colEmptyRoom : Option Bool} {ddEmptyRoom : Option Addr} {pEmptyRoom qEmptyRoom rEmptyRoom sEmptyRoom tEmptyRoom : Option Value} {gdEmptyRoom gaEmptyRoom : Option Addr} {gsEmptyRoom : Array (Option Value)} {goEmptyRoom gkEmptyRoom gvEmptyRoom gpEmptyRoom gcEmptyRoom gtEmptyRoom : Value}
    (uEmptyRooma : PySem.W.nsIn K mainGlobals "EmptyRoom" = some (some (.ref CEmptyRoom)))
    (uEmptyRoomb : K.lookup CEmptyRoom = some (excClassObj nmEmptyRoom qnEmptyRoom CEmptyRoom NEmptyRoom bsEmptyRoom (above EE) true snEmptyRoom subEmptyRoom abEmptyRoom colEmptyRoom ddEmptyRoom pEmptyRoom qEmptyRoom rEmptyRoom sEmptyRoom tEmptyRoom "ValueError.__new__"))
    (uEmptyRoomc : PySem.W.findIn K (.ref CEmptyRoom) "__setattr__" = some (some (.builtin "object.__setattr__"))) (uEmptyRoomd : PySem.W.findIn K (.ref CEmptyRoom) "__getattribute__" = some (some (.builtin "BaseException.__getattribute__"))) (uEmptyRoome : PySem.W.findIn K (.ref CEmptyRoom) "__getattr__" = some none)
    (uEmptyRoomf : PySem.W.findIn K (.ref CEmptyRoom) "__init__" = some (some (.ref gEmptyRoom))) (uEmptyRoomg : PySem.W.typeIn K (.ref gEmptyRoom) = some (.type "function"))
    (uEmptyRoomh : K.lookup gEmptyRoom = some ⟨goEmptyRoom, gdEmptyRoom, .func (PySem.W.fnOf "__init__" "EmptyRoom.__init__" (defArgs iEmptyRoom) (defBody iEmptyRoom) (defScope iEmptyRoom) .none gkEmptyRoom gvEmptyRoom gpEmptyRoom gaEmptyRoom gcEmptyRoom gtEmptyRoom), gsEmptyRoom⟩)
    (uEmptyRoomi : PySem.W.codeIn K gcEmptyRoom "EmptyRoom.__init__" = true) (uEmptyRoomj : PySem.W.keepIn K (.ref gEmptyRoom) = true) (uEmptyRoomk : PySem.W.keepIn K (.ref CEmptyRoom) = true) (uEmptyRooml : PySem.W.typeIn K (.ref CEmptyRoom) = some (.type "type")) (uEmptyRoomm : PySem.W.hasDictIn K CEmptyRoom = true)
    (uEmptyRoomn : PySem.W.findIn K (.ref CEmptyRoom) "__class__" = some (some (.builtin "object.__class__"))) (uEmptyRoomo : PySem.W.findIn K (.ref CEmptyRoom) "room" = some none)
    (uEmptyRoomp : PySem.W.specialIn K (.builtin "object.__class__") "__get__" = some (some (.builtin "getset_descriptor.__get__"))) (uEmptyRoomq : PySem.W.takesIn K (.builtin "object.__class__") = some true)
    {f1 : Addr} {od1 an1 : Option Addr} {sl1 : Array (Option Value)} {oc1 kV1 dc1 pm1 cd1 ct1 : Value}
    (a1 : PySem.W.nsIn K mainGlobals "is_integer" = some (some (.ref f1)))
    (l1 : K.lookup f1 = some ⟨oc1, od1, .func (PySem.W.fnOf "is_integer" "is_integer" (defArgs sIsInt) (defBody sIsInt) (defScope sIsInt) .none kV1 dc1 pm1 an1 cd1 ct1), sl1⟩)
    (c1 : PySem.W.codeIn K cd1 "is_integer" = true) (k1 : PySem.W.keepIn K (.ref f1) = true)
    {f2 : Addr} {od2 an2 : Option Addr} {sl2 : Array (Option Value)} {oc2 kV2 dc2 pm2 cd2 ct2 : Value}
    (a2 : PySem.W.nsIn K mainGlobals "is_room" = some (some (.ref f2)))
    (l2 : K.lookup f2 = some ⟨oc2, od2, .func (PySem.W.fnOf "is_room" "is_room" (defArgs sIsRoom) (defBody sIsRoom) (defScope sIsRoom) .none kV2 dc2 pm2 an2 cd2 ct2), sl2⟩)
    (c2 : PySem.W.codeIn K cd2 "is_room" = true) (k2 : PySem.W.keepIn K (.ref f2) = true)
    {f3 : Addr} {od3 an3 : Option Addr} {sl3 : Array (Option Value)} {oc3 kV3 dc3 pm3 cd3 ct3 : Value}
    (a3 : PySem.W.nsIn K mainGlobals "neighbors" = some (some (.ref f3)))
    (l3 : K.lookup f3 = some ⟨oc3, od3, .func (PySem.W.fnOf "neighbors" "neighbors" (defArgs sNb) (defBody sNb) (defScope sNb) .none kV3 dc3 pm3 an3 cd3 ct3), sl3⟩)
    (c3 : PySem.W.codeIn K cd3 "neighbors" = true) (k3 : PySem.W.keepIn K (.ref f3) = true)
    {f4 : Addr} {od4 an4 : Option Addr} {sl4 : Array (Option Value)} {oc4 kV4 dc4 pm4 cd4 ct4 : Value}
    (a4 : PySem.W.nsIn K mainGlobals "room_of" = some (some (.ref f4)))
    (l4 : K.lookup f4 = some ⟨oc4, od4, .func (PySem.W.fnOf "room_of" "room_of" (defArgs sRoomOf) (defBody sRoomOf) (defScope sRoomOf) .none kV4 dc4 pm4 an4 cd4 ct4), sl4⟩)
    (c4 : PySem.W.codeIn K cd4 "room_of" = true) (k4 : PySem.W.keepIn K (.ref f4) = true)
    {f5 : Addr} {od5 an5 : Option Addr} {sl5 : Array (Option Value)} {oc5 kV5 dc5 pm5 cd5 ct5 : Value}
    (a5 : PySem.W.nsIn K mainGlobals "with_person_in" = some (some (.ref f5)))
    (l5 : K.lookup f5 = some ⟨oc5, od5, .func (PySem.W.fnOf "with_person_in" "with_person_in" (defArgs sWith) (defBody sWith) (defScope sWith) .none kV5 dc5 pm5 an5 cd5 ct5), sl5⟩)
    (c5 : PySem.W.codeIn K cd5 "with_person_in" = true) (k5 : PySem.W.keepIn K (.ref f5) = true)
    {f6 : Addr} {od6 an6 : Option Addr} {sl6 : Array (Option Value)} {oc6 kV6 dc6 pm6 cd6 ct6 : Value}
    (a6 : PySem.W.nsIn K mainGlobals "people_in" = some (some (.ref f6)))
    (l6 : K.lookup f6 = some ⟨oc6, od6, .func (PySem.W.fnOf "people_in" "people_in" (defArgs sPIn) (defBody sPIn) (defScope sPIn) .none kV6 dc6 pm6 an6 cd6 ct6), sl6⟩)
    (c6 : PySem.W.codeIn K cd6 "people_in" = true) (k6 : PySem.W.keepIn K (.ref f6) = true)
    {f7 : Addr} {od7 an7 : Option Addr} {sl7 : Array (Option Value)} {oc7 kV7 dc7 pm7 cd7 ct7 : Value}
    (a7 : PySem.W.nsIn K mainGlobals "people_within" = some (some (.ref f7)))
    (l7 : K.lookup f7 = some ⟨oc7, od7, .func (PySem.W.fnOf "people_within" "people_within" (defArgs sPWi) (defBody sPWi) (defScope sPWi) .none kV7 dc7 pm7 an7 cd7 ct7), sl7⟩)
    (c7 : PySem.W.codeIn K cd7 "people_within" = true) (k7 : PySem.W.keepIn K (.ref f7) = true)
    {f8 : Addr} {od8 an8 : Option Addr} {sl8 : Array (Option Value)} {oc8 kV8 dc8 pm8 cd8 ct8 : Value}
    (a8 : PySem.W.nsIn K mainGlobals "move_person" = some (some (.ref f8)))
    (l8 : K.lookup f8 = some ⟨oc8, od8, .func (PySem.W.fnOf "move_person" "move_person" (defArgs sMove) (defBody sMove) (defScope sMove) .none kV8 dc8 pm8 an8 cd8 ct8), sl8⟩)
    (c8 : PySem.W.codeIn K cd8 "move_person" = true) (k8 : PySem.W.keepIn K (.ref f8) = true)
    {f9 : Addr} {od9 an9 : Option Addr} {sl9 : Array (Option Value)} {oc9 kV9 dc9 pm9 cd9 ct9 : Value}
    (a9 : PySem.W.nsIn K mainGlobals "legal_moves" = some (some (.ref f9)))
    (l9 : K.lookup f9 = some ⟨oc9, od9, .func (PySem.W.fnOf "legal_moves" "legal_moves" (defArgs sLegal) (defBody sLegal) (defScope sLegal) .none kV9 dc9 pm9 an9 cd9 ct9), sl9⟩)
    (c9 : PySem.W.codeIn K cd9 "legal_moves" = true) (k9 : PySem.W.keepIn K (.ref f9) = true)
    {f10 : Addr} {od10 an10 : Option Addr} {sl10 : Array (Option Value)} {oc10 kV10 dc10 pm10 cd10 ct10 : Value}
    (a10 : PySem.W.nsIn K mainGlobals "_law_stream" = some (some (.ref f10)))
    (l10 : K.lookup f10 = some ⟨oc10, od10, .func (PySem.W.fnOf "_law_stream" "_law_stream" (defArgs sStream) (defBody sStream) (defScope sStream) .none kV10 dc10 pm10 an10 cd10 ct10), sl10⟩)
    (c10 : PySem.W.codeIn K cd10 "_law_stream" = true) (k10 : PySem.W.keepIn K (.ref f10) = true)
    {f11 : Addr} {od11 an11 : Option Addr} {sl11 : Array (Option Value)} {oc11 kV11 dc11 pm11 cd11 ct11 : Value}
    (a11 : PySem.W.nsIn K mainGlobals "_law_names" = some (some (.ref f11)))
    (l11 : K.lookup f11 = some ⟨oc11, od11, .func (PySem.W.fnOf "_law_names" "_law_names" (defArgs sNames) (defBody sNames) (defScope sNames) .none kV11 dc11 pm11 an11 cd11 ct11), sl11⟩)
    (c11 : PySem.W.codeIn K cd11 "_law_names" = true) (k11 : PySem.W.keepIn K (.ref f11) = true)
    {f12 : Addr} {od12 an12 : Option Addr} {sl12 : Array (Option Value)} {oc12 kV12 dc12 pm12 cd12 ct12 : Value}
    (a12 : PySem.W.nsIn K mainGlobals "_law_draw" = some (some (.ref f12)))
    (l12 : K.lookup f12 = some ⟨oc12, od12, .func (PySem.W.fnOf "_law_draw" "_law_draw" (defArgs sDraw) (defBody sDraw) (defScope sDraw) .none kV12 dc12 pm12 an12 cd12 ct12), sl12⟩)
    (c12 : PySem.W.codeIn K cd12 "_law_draw" = true) (k12 : PySem.W.keepIn K (.ref f12) = true)
    {f13 : Addr} {od13 an13 : Option Addr} {sl13 : Array (Option Value)} {oc13 kV13 dc13 pm13 cd13 ct13 : Value}
    (a13 : PySem.W.nsIn K mainGlobals "_law_house" = some (some (.ref f13)))
    (l13 : K.lookup f13 = some ⟨oc13, od13, .func (PySem.W.fnOf "_law_house" "_law_house" (defArgs sHouse) (defBody sHouse) (defScope sHouse) .none kV13 dc13 pm13 an13 cd13 ct13), sl13⟩)
    (c13 : PySem.W.codeIn K cd13 "_law_house" = true) (k13 : PySem.W.keepIn K (.ref f13) = true)
    {f14 : Addr} {od14 an14 : Option Addr} {sl14 : Array (Option Value)} {oc14 kV14 dc14 pm14 cd14 ct14 : Value}
    (a14 : PySem.W.nsIn K mainGlobals "_law_placement" = some (some (.ref f14)))
    (l14 : K.lookup f14 = some ⟨oc14, od14, .func (PySem.W.fnOf "_law_placement" "_law_placement" (defArgs sPl) (defBody sPl) (defScope sPl) .none kV14 dc14 pm14 an14 cd14 ct14), sl14⟩)
    (c14 : PySem.W.codeIn K cd14 "_law_placement" = true) (k14 : PySem.W.keepIn K (.ref f14) = true)
    {f15 : Addr} {od15 an15 : Option Addr} {sl15 : Array (Option Value)} {oc15 kV15 dc15 pm15 cd15 ct15 : Value}
    (a15 : PySem.W.nsIn K mainGlobals "_law_neighbors" = some (some (.ref f15)))
    (l15 : K.lookup f15 = some ⟨oc15, od15, .func (PySem.W.fnOf "_law_neighbors" "_law_neighbors" (defArgs sLNb) (defBody sLNb) (defScope sLNb) .none kV15 dc15 pm15 an15 cd15 ct15), sl15⟩)
    (c15 : PySem.W.codeIn K cd15 "_law_neighbors" = true) (k15 : PySem.W.keepIn K (.ref f15) = true)
    {f16 : Addr} {od16 an16 : Option Addr} {sl16 : Array (Option Value)} {oc16 kV16 dc16 pm16 cd16 ct16 : Value}
    (a16 : PySem.W.nsIn K mainGlobals "_law_moved" = some (some (.ref f16)))
    (l16 : K.lookup f16 = some ⟨oc16, od16, .func (PySem.W.fnOf "_law_moved" "_law_moved" (defArgs sLMoved) (defBody sLMoved) (defScope sLMoved) .none kV16 dc16 pm16 an16 cd16 ct16), sl16⟩)
    (c16 : PySem.W.codeIn K cd16 "_law_moved" = true) (k16 : PySem.W.keepIn K (.ref f16) = true)
    {f17 : Addr} {od17 an17 : Option Addr} {sl17 : Array (Option Value)} {oc17 kV17 dc17 pm17 cd17 ct17 : Value}
    (a17 : PySem.W.nsIn K mainGlobals "_law_moves" = some (some (.ref f17)))
    (l17 : K.lookup f17 = some ⟨oc17, od17, .func (PySem.W.fnOf "_law_moves" "_law_moves" (defArgs sLMoves) (defBody sLMoves) (defScope sLMoves) .none kV17 dc17 pm17 an17 cd17 ct17), sl17⟩)
    (c17 : PySem.W.codeIn K cd17 "_law_moves" = true) (k17 : PySem.W.keepIn K (.ref f17) = true)
    {f18 : Addr} {od18 an18 : Option Addr} {sl18 : Array (Option Value)} {oc18 kV18 dc18 pm18 cd18 ct18 : Value}
    (a18 : PySem.W.nsIn K mainGlobals "_law_reachable" = some (some (.ref f18)))
    (l18 : K.lookup f18 = some ⟨oc18, od18, .func (PySem.W.fnOf "_law_reachable" "_law_reachable" (defArgs sLReach) (defBody sLReach) (defScope sLReach) .none kV18 dc18 pm18 an18 cd18 ct18), sl18⟩)
    (c18 : PySem.W.codeIn K cd18 "_law_reachable" = true) (k18 : PySem.W.keepIn K (.ref f18) = true)
    {f19 : Addr} {od19 an19 : Option Addr} {sl19 : Array (Option Value)} {oc19 kV19 dc19 pm19 cd19 ct19 : Value}
    (a19 : PySem.W.nsIn K mainGlobals "_law_random_walk" = some (some (.ref f19)))
    (l19 : K.lookup f19 = some ⟨oc19, od19, .func (PySem.W.fnOf "_law_random_walk" "_law_random_walk" (defArgs sLWalk) (defBody sLWalk) (defScope sLWalk) .none kV19 dc19 pm19 an19 cd19 ct19), sl19⟩)
    (c19 : PySem.W.codeIn K cd19 "_law_random_walk" = true) (k19 : PySem.W.keepIn K (.ref f19) = true)
    {f20 : Addr} {od20 an20 : Option Addr} {sl20 : Array (Option Value)} {oc20 kV20 dc20 pm20 cd20 ct20 : Value}
    (a20 : PySem.W.nsIn K mainGlobals "_law_reverse" = some (some (.ref f20)))
    (l20 : K.lookup f20 = some ⟨oc20, od20, .func (PySem.W.fnOf "_law_reverse" "_law_reverse" (defArgs sLRev) (defBody sLRev) (defScope sLRev) .none kV20 dc20 pm20 an20 cd20 ct20), sl20⟩)
    (c20 : PySem.W.codeIn K cd20 "_law_reverse" = true) (k20 : PySem.W.keepIn K (.ref f20) = true)
    {f21 : Addr} {od21 an21 : Option Addr} {sl21 : Array (Option Value)} {oc21 kV21 dc21 pm21 cd21 ct21 : Value}
    (a21 : PySem.W.nsIn K mainGlobals "_law_reversal_holds" = some (some (.ref f21)))
    (l21 : K.lookup f21 = some ⟨oc21, od21, .func (PySem.W.fnOf "_law_reversal_holds" "_law_reversal_holds" (defArgs sLRevH) (defBody sLRevH) (defScope sLRevH) .none kV21 dc21 pm21 an21 cd21 ct21), sl21⟩)
    (c21 : PySem.W.codeIn K cd21 "_law_reversal_holds" = true) (k21 : PySem.W.keepIn K (.ref f21) = true)
    {f22 : Addr} {od22 an22 : Option Addr} {sl22 : Array (Option Value)} {oc22 kV22 dc22 pm22 cd22 ct22 : Value}
    (a22 : PySem.W.nsIn K mainGlobals "law" = some (some (.ref f22)))
    (l22 : K.lookup f22 = some ⟨oc22, od22, .func (PySem.W.fnOf "law" "law" (defArgs sLaw) (defBody sLaw) (defScope sLaw) .none kV22 dc22 pm22 an22 cd22 ct22), sl22⟩)
    (c22 : PySem.W.codeIn K cd22 "law" = true) (k22 : PySem.W.keepIn K (.ref f22) = true)
    (z_abs : PySem.W.nsIn K mainGlobals "abs" = some none) (z_len : PySem.W.nsIn K mainGlobals "len" = some none) (z_list : PySem.W.nsIn K mainGlobals "list" = some none) (z_range : PySem.W.nsIn K mainGlobals "range" = some none) (z_min : PySem.W.nsIn K mainGlobals "min" = some none) (z_max : PySem.W.nsIn K mainGlobals "max" = some none) (z_tuple : PySem.W.nsIn K mainGlobals "tuple" = some none) (z_sorted : PySem.W.nsIn K mainGlobals "sorted" = some none) (z_isinstance : PySem.W.nsIn K mainGlobals "isinstance" = some none) (z_all : PySem.W.nsIn K mainGlobals "all" = some none) (z_zip : PySem.W.nsIn K mainGlobals "zip" = some none) (z_bool : PySem.W.nsIn K mainGlobals "bool" = some none) (z_int : PySem.W.nsIn K mainGlobals "int" = some none) (z_str : PySem.W.nsIn K mainGlobals "str" = some none) (z_repr : PySem.W.nsIn K mainGlobals "repr" = some none) (z_dict : PySem.W.nsIn K mainGlobals "dict" = some none) : LawAt P w K mg 6 fa (spLaw K) := by
  have e := hfa.symm.trans (PySem.W.mg_of X G a22)
  cases e
  have T : Nm mg := ⟨PySem.W.mg_none_of X G z_abs, PySem.W.mg_none_of X G z_len, PySem.W.mg_none_of X G z_list, PySem.W.mg_none_of X G z_range, PySem.W.mg_none_of X G z_min, PySem.W.mg_none_of X G z_max, PySem.W.mg_none_of X G z_tuple, PySem.W.mg_none_of X G z_sorted, PySem.W.mg_none_of X G z_isinstance, PySem.W.mg_none_of X G z_all, PySem.W.mg_none_of X G z_zip, PySem.W.mg_none_of X G z_bool, PySem.W.mg_none_of X G z_int, PySem.W.mg_none_of X G z_str, PySem.W.mg_none_of X G z_repr⟩
  obtain ⟨hUnknownPerson, vUnknownPerson⟩ := cf_mk (x := "UnknownPerson") (q := "UnknownPerson.__init__") (st := iUnknownPerson) (ps := ["self", "name"]) X G (fun fd F => F.binds fun _ _ _ _ _ _ us hl => match us, hl with | [_, _], _ => rfl) uUnknownPersona uUnknownPersonb uUnknownPersonc uUnknownPersond uUnknownPersone uUnknownPersonf uUnknownPersong uUnknownPersonh uUnknownPersoni uUnknownPersonj uUnknownPersonk uUnknownPersonl uUnknownPersonm uUnknownPersonn uUnknownPersonp uUnknownPersonq
  obtain ⟨hInvalidRoom, vInvalidRoom⟩ := cf_mk (x := "InvalidRoom") (q := "InvalidRoom.__init__") (st := iInvalidRoom) (ps := ["self", "room"]) X G (fun fd F => F.binds fun _ _ _ _ _ _ us hl => match us, hl with | [_, _], _ => rfl) uInvalidRooma uInvalidRoomb uInvalidRoomc uInvalidRoomd uInvalidRoome uInvalidRoomf uInvalidRoomg uInvalidRoomh uInvalidRoomi uInvalidRoomj uInvalidRoomk uInvalidRooml uInvalidRoomm uInvalidRoomn uInvalidRoomp uInvalidRoomq
  obtain ⟨hNotAdjacent, vNotAdjacent⟩ := cf_mk (x := "NotAdjacent") (q := "NotAdjacent.__init__") (st := iNotAdjacent) (ps := ["self", "room"]) X G (fun fd F => F.binds fun _ _ _ _ _ _ us hl => match us, hl with | [_, _], _ => rfl) uNotAdjacenta uNotAdjacentb uNotAdjacentc uNotAdjacentd uNotAdjacente uNotAdjacentf uNotAdjacentg uNotAdjacenth uNotAdjacenti uNotAdjacentj uNotAdjacentk uNotAdjacentl uNotAdjacentm uNotAdjacentn uNotAdjacentp uNotAdjacentq
  obtain ⟨hEmptyRoom, vEmptyRoom⟩ := cf_mk (x := "EmptyRoom") (q := "EmptyRoom.__init__") (st := iEmptyRoom) (ps := ["self", "room"]) X G (fun fd F => F.binds fun _ _ _ _ _ _ us hl => match us, hl with | [_, _], _ => rfl) uEmptyRooma uEmptyRoomb uEmptyRoomc uEmptyRoomd uEmptyRoome uEmptyRoomf uEmptyRoomg uEmptyRoomh uEmptyRoomi uEmptyRoomj uEmptyRoomk uEmptyRooml uEmptyRoomm uEmptyRoomn uEmptyRoomp uEmptyRoomq
  have F1 := fun_mk (st := sIsInt) l1 c1 k1
  have b1 := F1.binds (ps := ["value"]) fun _ _ _ _ _ _ us hl => match us, hl with | [_], _ => rfl
  have F2 := fun_mk (st := sIsRoom) l2 c2 k2
  have b2 := F2.binds (ps := ["house", "value"]) fun _ _ _ _ _ _ us hl => match us, hl with | [_, _], _ => rfl
  have F3 := fun_mk (st := sNb) l3 c3 k3
  have b3 := F3.binds (ps := ["house", "room"]) fun _ _ _ _ _ _ us hl => match us, hl with | [_, _], _ => rfl
  have F4 := fun_mk (st := sRoomOf) l4 c4 k4
  have b4 := F4.binds (ps := ["placement", "name"]) fun _ _ _ _ _ _ us hl => match us, hl with | [_, _], _ => rfl
  have F5 := fun_mk (st := sWith) l5 c5 k5
  have b5 := F5.binds (ps := ["placement", "name", "room"]) fun _ _ _ _ _ _ us hl => match us, hl with | [_, _, _], _ => rfl
  have F6 := fun_mk (st := sPIn) l6 c6 k6
  have b6 := F6.binds (ps := ["placement", "room"]) fun _ _ _ _ _ _ us hl => match us, hl with | [_, _], _ => rfl
  have F7 := fun_mk (st := sPWi) l7 c7 k7
  have b7 := F7.binds (ps := ["placement", "rooms"]) fun _ _ _ _ _ _ us hl => match us, hl with | [_, _], _ => rfl
  have F8 := fun_mk (st := sMove) l8 c8 k8
  have b8 := F8.binds (ps := ["house", "placement", "name", "room"]) fun _ _ _ _ _ _ us hl => match us, hl with | [_, _, _, _], _ => rfl
  have F9 := fun_mk (st := sLegal) l9 c9 k9
  have b9 := F9.binds (ps := ["house", "placement"]) fun _ _ _ _ _ _ us hl => match us, hl with | [_, _], _ => rfl
  have F10 := fun_mk (st := sStream) l10 c10 k10
  have b10 := F10.binds (ps := ["_law_script"]) fun _ _ _ _ _ _ us hl => match us, hl with | [_], _ => rfl
  have F11 := fun_mk (st := sNames) l11 c11 k11
  have b11 := F11.binds (ps := ["_law_stream_here", "_law_many"]) fun _ _ _ _ _ _ us hl => match us, hl with | [_, _], _ => rfl
  have F12 := fun_mk (st := sDraw) l12 c12 k12
  have b12 := F12.binds (ps := ["_law_stream_here", "_law_many"]) fun _ _ _ _ _ _ us hl => match us, hl with | [_, _], _ => rfl
  have F13 := fun_mk (st := sHouse) l13 c13 k13
  have b13 := F13.binds (ps := ["_law_stream_here", "_law_least", "_law_most"]) fun _ _ _ _ _ _ us hl => match us, hl with | [_, _, _], _ => rfl
  have F14 := fun_mk (st := sPl) l14 c14 k14
  have b14 := F14.binds (ps := ["_law_stream_here", "_law_house_here", "_law_most"]) fun _ _ _ _ _ _ us hl => match us, hl with | [_, _, _], _ => rfl
  have F15 := fun_mk (st := sLNb) l15 c15 k15
  have b15 := F15.binds (ps := ["_law_house_here", "_law_room"]) fun _ _ _ _ _ _ us hl => match us, hl with | [_, _], _ => rfl
  have F16 := fun_mk (st := sLMoved) l16 c16 k16
  have b16 := F16.binds (ps := ["_law_placement_here", "_law_name", "_law_room"]) fun _ _ _ _ _ _ us hl => match us, hl with | [_, _, _], _ => rfl
  have F17 := fun_mk (st := sLMoves) l17 c17 k17
  have b17 := F17.binds (ps := ["_law_house_here", "_law_placement_here"]) fun _ _ _ _ _ _ us hl => match us, hl with | [_, _], _ => rfl
  have F18 := fun_mk (st := sLReach) l18 c18 k18
  have b18 := F18.binds (ps := ["_law_house_here", "_law_placement_here"]) fun _ _ _ _ _ _ us hl => match us, hl with | [_, _], _ => rfl
  have F19 := fun_mk (st := sLWalk) l19 c19 k19
  have b19 := F19.binds (ps := ["_law_stream_here", "_law_house_here", "_law_placement_here", "_law_many"]) fun _ _ _ _ _ _ us hl => match us, hl with | [_, _, _, _], _ => rfl
  have F20 := fun_mk (st := sLRev) l20 c20 k20
  have b20 := F20.binds (ps := ["_law_house_here", "_law_placement_here", "_law_name", "_law_room"]) fun _ _ _ _ _ _ us hl => match us, hl with | [_, _, _, _], _ => rfl
  have F21 := fun_mk (st := sLRevH) l21 c21 k21
  have b21 := F21.binds (ps := ["_law_house_here", "_law_placement_here"]) fun _ _ _ _ _ _ us hl => match us, hl with | [_, _], _ => rfl
  have F22 := fun_mk (st := sLaw) l22 c22 k22
  have Z : All K mg := ⟨T, PySem.W.mg_none_of X G z_dict, ⟨_, he_mk X G uHEa uHEb uHEc uHEd, ⟨_, _, _, vUnknownPerson, uUnknownPersono⟩, ⟨_, _, _, vInvalidRoom, uInvalidRoomo⟩, ⟨_, _, _, vNotAdjacent, uNotAdjacento⟩, ⟨_, _, _, vEmptyRoom, uEmptyRoomo⟩⟩, ⟨_, _, ⟨F1, b1, PySem.W.mg_of X G a1⟩⟩, ⟨_, _, ⟨F2, b2, PySem.W.mg_of X G a2⟩⟩, ⟨_, _, ⟨F3, b3, PySem.W.mg_of X G a3⟩⟩, ⟨_, _, ⟨F4, b4, PySem.W.mg_of X G a4⟩⟩, ⟨_, _, ⟨F5, b5, PySem.W.mg_of X G a5⟩⟩, ⟨_, _, ⟨F6, b6, PySem.W.mg_of X G a6⟩⟩, ⟨_, _, ⟨F7, b7, PySem.W.mg_of X G a7⟩⟩, ⟨_, _, ⟨F8, b8, PySem.W.mg_of X G a8⟩⟩, ⟨_, _, ⟨F9, b9, PySem.W.mg_of X G a9⟩⟩, ⟨_, _, ⟨F10, b10, PySem.W.mg_of X G a10⟩⟩, ⟨_, _, ⟨F11, b11, PySem.W.mg_of X G a11⟩⟩, ⟨_, _, ⟨F12, b12, PySem.W.mg_of X G a12⟩⟩, ⟨_, _, ⟨F13, b13, PySem.W.mg_of X G a13⟩⟩, ⟨_, _, ⟨F14, b14, PySem.W.mg_of X G a14⟩⟩, ⟨_, _, ⟨F15, b15, PySem.W.mg_of X G a15⟩⟩, ⟨_, _, ⟨F16, b16, PySem.W.mg_of X G a16⟩⟩, ⟨_, _, ⟨F17, b17, PySem.W.mg_of X G a17⟩⟩, ⟨_, _, ⟨F18, b18, PySem.W.mg_of X G a18⟩⟩, ⟨_, _, ⟨F19, b19, PySem.W.mg_of X G a19⟩⟩, ⟨_, _, ⟨F20, b20, PySem.W.mg_of X G a20⟩⟩, ⟨_, _, ⟨F21, b21, PySem.W.mg_of X G a21⟩⟩⟩
  refine ⟨_, fun s v => ?_, fun base _ _ => ok_law F22 Z⟩
  exact .of_eq rfl
theorem tells : Tells spLaw := fun K H a ns hl hS => ⟨a, ns, rfl, hS, hl, fun _ => rfl⟩
end Fw

open PySem PySem.W PyProof.Rows in
set_option maxRecDepth 100000 in
set_option maxHeartbeats 0 in
theorem PySem.Challenge.cw_fromwithin_k16_whole_moves_reversed_holds : PySem.Challenge.rw_fromwithin_k16_whole_moves_reversed.Holds := by
  w_on; o_law; k_head; (case hw => w_witness2)
  k_fill
  refine Fw.walkG (l := PySem.Challenge.rw_fromwithin_k16_whole_moves_reversed) (k := 6) Fw.tells rfl rfl ⟨rfl, by decide, by decide⟩ (fun w h Y => PySem.W.kIn_of Y) ?F
  case F =>
    intro w mg fa h KX G hmg
    refine' Fw.all_mk KX G hmg ?uHEa ?uHEb ?uHEc ?uHEd ?uUnknownPersona ?uUnknownPersonb ?uUnknownPersonc ?uUnknownPersond ?uUnknownPersone ?uUnknownPersonf ?uUnknownPersong ?uUnknownPersonh ?uUnknownPersoni ?uUnknownPersonj ?uUnknownPersonk ?uUnknownPersonl ?uUnknownPersonm ?uUnknownPersonn ?uUnknownPersono ?uUnknownPersonp ?uUnknownPersonq ?uInvalidRooma ?uInvalidRoomb ?uInvalidRoomc ?uInvalidRoomd ?uInvalidRoome ?uInvalidRoomf ?uInvalidRoomg ?uInvalidRoomh ?uInvalidRoomi ?uInvalidRoomj ?uInvalidRoomk ?uInvalidRooml ?uInvalidRoomm ?uInvalidRoomn ?uInvalidRoomo ?uInvalidRoomp ?uInvalidRoomq ?uNotAdjacenta ?uNotAdjacentb ?uNotAdjacentc ?uNotAdjacentd ?uNotAdjacente ?uNotAdjacentf ?uNotAdjacentg ?uNotAdjacenth ?uNotAdjacenti ?uNotAdjacentj ?uNotAdjacentk ?uNotAdjacentl ?uNotAdjacentm ?uNotAdjacentn ?uNotAdjacento ?uNotAdjacentp ?uNotAdjacentq ?uEmptyRooma ?uEmptyRoomb ?uEmptyRoomc ?uEmptyRoomd ?uEmptyRoome ?uEmptyRoomf ?uEmptyRoomg ?uEmptyRoomh ?uEmptyRoomi ?uEmptyRoomj ?uEmptyRoomk ?uEmptyRooml ?uEmptyRoomm ?uEmptyRoomn ?uEmptyRoomo ?uEmptyRoomp ?uEmptyRoomq ?a1 ?l1 ?c1 ?k1 ?a2 ?l2 ?c2 ?k2 ?a3 ?l3 ?c3 ?k3 ?a4 ?l4 ?c4 ?k4 ?a5 ?l5 ?c5 ?k5 ?a6 ?l6 ?c6 ?k6 ?a7 ?l7 ?c7 ?k7 ?a8 ?l8 ?c8 ?k8 ?a9 ?l9 ?c9 ?k9 ?a10 ?l10 ?c10 ?k10 ?a11 ?l11 ?c11 ?k11 ?a12 ?l12 ?c12 ?k12 ?a13 ?l13 ?c13 ?k13 ?a14 ?l14 ?c14 ?k14 ?a15 ?l15 ?c15 ?k15 ?a16 ?l16 ?c16 ?k16 ?a17 ?l17 ?c17 ?k17 ?a18 ?l18 ?c18 ?k18 ?a19 ?l19 ?c19 ?k19 ?a20 ?l20 ?c20 ?k20 ?a21 ?l21 ?c21 ?k21 ?a22 ?l22 ?c22 ?k22 ?z_abs ?z_len ?z_list ?z_range ?z_min ?z_max ?z_tuple ?z_sorted ?z_isinstance ?z_all ?z_zip ?z_bool ?z_int ?z_str ?z_repr ?z_dict
    (case uHEa => k_is)
    (case uHEb => k_is)
    (case uHEc => k_is)
    (case uHEd => k_is)
    (case uUnknownPersona => k_is)
    (case uUnknownPersonb => k_is)
    (case uUnknownPersonc => k_is)
    (case uUnknownPersond => k_is)
    (case uUnknownPersone => k_is)
    (case uUnknownPersonf => k_is)
    (case uUnknownPersong => k_is)
    (case uUnknownPersonh => k_is)
    (case uUnknownPersoni => k_is)
    (case uUnknownPersonj => k_is)
    (case uUnknownPersonk => k_is)
    (case uUnknownPersonl => k_is)
    (case uUnknownPersonm => k_is)
    (case uUnknownPersonn => k_is)
    (case uUnknownPersono => k_is)
    (case uUnknownPersonp => k_is)
    (case uUnknownPersonq => k_is)
    (case uInvalidRooma => k_is)
    (case uInvalidRoomb => k_is)
    (case uInvalidRoomc => k_is)
    (case uInvalidRoomd => k_is)
    (case uInvalidRoome => k_is)
    (case uInvalidRoomf => k_is)
    (case uInvalidRoomg => k_is)
    (case uInvalidRoomh => k_is)
    (case uInvalidRoomi => k_is)
    (case uInvalidRoomj => k_is)
    (case uInvalidRoomk => k_is)
    (case uInvalidRooml => k_is)
    (case uInvalidRoomm => k_is)
    (case uInvalidRoomn => k_is)
    (case uInvalidRoomo => k_is)
    (case uInvalidRoomp => k_is)
    (case uInvalidRoomq => k_is)
    (case uNotAdjacenta => k_is)
    (case uNotAdjacentb => k_is)
    (case uNotAdjacentc => k_is)
    (case uNotAdjacentd => k_is)
    (case uNotAdjacente => k_is)
    (case uNotAdjacentf => k_is)
    (case uNotAdjacentg => k_is)
    (case uNotAdjacenth => k_is)
    (case uNotAdjacenti => k_is)
    (case uNotAdjacentj => k_is)
    (case uNotAdjacentk => k_is)
    (case uNotAdjacentl => k_is)
    (case uNotAdjacentm => k_is)
    (case uNotAdjacentn => k_is)
    (case uNotAdjacento => k_is)
    (case uNotAdjacentp => k_is)
    (case uNotAdjacentq => k_is)
    (case uEmptyRooma => k_is)
    (case uEmptyRoomb => k_is)
    (case uEmptyRoomc => k_is)
    (case uEmptyRoomd => k_is)
    (case uEmptyRoome => k_is)
    (case uEmptyRoomf => k_is)
    (case uEmptyRoomg => k_is)
    (case uEmptyRoomh => k_is)
    (case uEmptyRoomi => k_is)
    (case uEmptyRoomj => k_is)
    (case uEmptyRoomk => k_is)
    (case uEmptyRooml => k_is)
    (case uEmptyRoomm => k_is)
    (case uEmptyRoomn => k_is)
    (case uEmptyRoomo => k_is)
    (case uEmptyRoomp => k_is)
    (case uEmptyRoomq => k_is)
    (case a1 => k_is)
    (case l1 => k_is)
    (case c1 => k_is)
    (case k1 => k_is)
    (case a2 => k_is)
    (case l2 => k_is)
    (case c2 => k_is)
    (case k2 => k_is)
    (case a3 => k_is)
    (case l3 => k_is)
    (case c3 => k_is)
    (case k3 => k_is)
    (case a4 => k_is)
    (case l4 => k_is)
    (case c4 => k_is)
    (case k4 => k_is)
    (case a5 => k_is)
    (case l5 => k_is)
    (case c5 => k_is)
    (case k5 => k_is)
    (case a6 => k_is)
    (case l6 => k_is)
    (case c6 => k_is)
    (case k6 => k_is)
    (case a7 => k_is)
    (case l7 => k_is)
    (case c7 => k_is)
    (case k7 => k_is)
    (case a8 => k_is)
    (case l8 => k_is)
    (case c8 => k_is)
    (case k8 => k_is)
    (case a9 => k_is)
    (case l9 => k_is)
    (case c9 => k_is)
    (case k9 => k_is)
    (case a10 => k_is)
    (case l10 => k_is)
    (case c10 => k_is)
    (case k10 => k_is)
    (case a11 => k_is)
    (case l11 => k_is)
    (case c11 => k_is)
    (case k11 => k_is)
    (case a12 => k_is)
    (case l12 => k_is)
    (case c12 => k_is)
    (case k12 => k_is)
    (case a13 => k_is)
    (case l13 => k_is)
    (case c13 => k_is)
    (case k13 => k_is)
    (case a14 => k_is)
    (case l14 => k_is)
    (case c14 => k_is)
    (case k14 => k_is)
    (case a15 => k_is)
    (case l15 => k_is)
    (case c15 => k_is)
    (case k15 => k_is)
    (case a16 => k_is)
    (case l16 => k_is)
    (case c16 => k_is)
    (case k16 => k_is)
    (case a17 => k_is)
    (case l17 => k_is)
    (case c17 => k_is)
    (case k17 => k_is)
    (case a18 => k_is)
    (case l18 => k_is)
    (case c18 => k_is)
    (case k18 => k_is)
    (case a19 => k_is)
    (case l19 => k_is)
    (case c19 => k_is)
    (case k19 => k_is)
    (case a20 => k_is)
    (case l20 => k_is)
    (case c20 => k_is)
    (case k20 => k_is)
    (case a21 => k_is)
    (case l21 => k_is)
    (case c21 => k_is)
    (case k21 => k_is)
    (case a22 => k_is)
    (case l22 => k_is)
    (case c22 => k_is)
    (case k22 => k_is)
    (case z_abs => k_is)
    (case z_len => k_is)
    (case z_list => k_is)
    (case z_range => k_is)
    (case z_min => k_is)
    (case z_max => k_is)
    (case z_tuple => k_is)
    (case z_sorted => k_is)
    (case z_isinstance => k_is)
    (case z_all => k_is)
    (case z_zip => k_is)
    (case z_bool => k_is)
    (case z_int => k_is)
    (case z_str => k_is)
    (case z_repr => k_is)
    (case z_dict => k_is)
