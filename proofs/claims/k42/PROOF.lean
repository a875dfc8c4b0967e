import PyProof.Rows.All
import Wide.All
import OpenK.AllK
import Wide.FinOn
import HandS.ForMost
import HandS.Wide
import HandS.Conv
import HandS.Style
import HandS.Sort
import HandS.SortRule
import HandS.SortInts
import HandS.Deep
import HandS.Text
import HandS.Words
import HandS.IsInst
import HandS.More
import HandS.TupSets
import HandS.TupAny
import HandS.Zip
import HandS.Walk
import KE.KDictPairs
import HandS.ExcInit
import HandS.ExcField
import HandS.SetFor
import KE.KExcIs
import HandS.ExcOwn
import HandS.TryMany
import HandS.WordsExc
import KE.KTryMore
import HandS.HotCalls
import PyProof.EqKinds
import PySem.Challenge.RW_fromwithin_k42_swap_errors
set_option Elab.async false
set_option linter.all false
set_option maxRecDepth 100000
/-! Forests grown room by room: simple ways in them are unique. -/
namespace Fw

def adj (D : List (Int × Int)) (a b : Int) : Prop := (a, b) ∈ D ∨ (b, a) ∈ D

theorem adj_symm {D : List (Int × Int)} {a b : Int} (h : adj D a b) : adj D b a := h.symm

/-- a way without a room twice -/
inductive SP (R : Int → Int → Prop) : Int → Int → List Int → Prop
  | one (a : Int) : SP R a a [a]
  | cons {a c b : Int} {p : List Int} : R a c → SP R c b p → a ∉ p → SP R a b (a :: p)

section
variable {R R' : Int → Int → Prop}
theorem SP.head {a b : Int} {p : List Int} (h : SP R a b p) : a ∈ p := by
  cases h <;> simp
theorem SP.last {a b : Int} {p : List Int} (h : SP R a b p) : b ∈ p := by
  induction h with
  | one a => simp
  | cons _ _ _ ih => exact List.mem_cons_of_mem _ ih
theorem SP.loop {a : Int} {p : List Int} (h : SP R a a p) : p = [a] := by
  cases h with
  | one => rfl
  | cons r q n => exact absurd q.last n
theorem SP.nodup {a b : Int} {p : List Int} (h : SP R a b p) : p.Nodup := by
  induction h with
  | one a => simp
  | cons _ _ n ih => exact List.nodup_cons.mpr ⟨n, ih⟩
theorem SP.snoc {a b c : Int} {p : List Int} (h : SP R a b p) (r : R b c) (n : c ∉ p) : SP R a c (p ++ [c]) := by
  induction h with
  | one a =>
    refine .cons r (.one c) ?_
    intro e
    have e : a = c := List.mem_singleton.mp e
    exact n (by rw [e]; simp)
  | cons r' q n' ih =>
    rename_i a' c' b' p'
    rw [List.mem_cons, not_or] at n
    refine .cons r' (ih r n.2) ?_
    intro e
    rcases List.mem_append.mp e with e | e
    · exact n' e
    · exact n.1 (List.mem_singleton.mp e).symm
theorem SP.map {a b : Int} {p : List Int} (h : SP R a b p) (f : ∀ x y, x ∈ p → y ∈ p → R x y → R' x y) : SP R' a b p := by
  induction h with
  | one a => exact .one a
  | cons r q n ih =>
    exact .cons (f _ _ (List.mem_cons_self ..) (List.mem_cons_of_mem _ q.head) r) (ih fun x y hx hy => f x y (List.mem_cons_of_mem _ hx) (List.mem_cons_of_mem _ hy)) n
/-- what is closed under R and holds the end holds the start, and the other way -/
theorem SP.back {S : Int → Prop} (hs : ∀ x y, R x y → S y → S x) {a b : Int} {p : List Int} (h : SP R a b p) (e : S b) : S a := by
  induction h with
  | one a => exact e
  | cons r _ _ ih => exact hs _ _ r (ih e)
theorem SP.forth {S : Int → Prop} (hs : ∀ x y, R x y → S x → S y) {a b : Int} {p : List Int} (h : SP R a b p) (e : S a) : S b := by
  induction h with
  | one a => exact e
  | cons r _ _ ih => exact ih (hs _ _ r e)
end

def Uniq (R : Int → Int → Prop) : Prop := ∀ a b p q, SP R a b p → SP R a b q → p = q

section
variable {R R' : Int → Int → Prop} {u v : Int}
/-- one more leaf v, on u -/
structure Leaf (R R' : Int → Int → Prop) (u v : Int) : Prop where
  iff : ∀ x y, R' x y ↔ (R x y ∨ (x = u ∧ y = v) ∨ (x = v ∧ y = u))
  no1 : ∀ x, ¬ R v x
  no2 : ∀ x, ¬ R x v
  ne : u ≠ v
theorem Leaf.into (L : Leaf R R' u v) {x : Int} (h : R' x v) : x = u := by
  rcases (L.iff x v).mp h with h | h | h
  · exact absurd h (L.no2 x)
  · exact h.1
  · exact absurd h.2.symm L.ne
theorem Leaf.out (L : Leaf R R' u v) {x : Int} (h : R' v x) : x = u := by
  rcases (L.iff v x).mp h with h | h | h
  · exact absurd h (L.no1 x)
  · exact absurd h.1.symm L.ne
  · exact h.2
theorem Leaf.off (L : Leaf R R' u v) {x y : Int} (hx : x ≠ v) (hy : y ≠ v) (h : R' x y) : R x y := by
  rcases (L.iff x y).mp h with h | h | h
  · exact h
  · exact absurd h.2 hy
  · exact absurd h.1 hx
theorem Leaf.avoid (L : Leaf R R' u v) {a b : Int} {p : List Int} (h : SP R' a b p) (n : v ∉ p) : SP R a b p :=
  h.map fun x y hx hy r => L.off (fun e => n (e ▸ hx)) (fun e => n (e ▸ hy)) r
theorem Leaf.free (L : Leaf R R' u v) {a b : Int} {p : List Int} (h : SP R' a b p) (ha : a ≠ v) (hb : b ≠ v) : v ∉ p := by
  induction h with
  | one a =>
    intro e
    rw [List.mem_singleton] at e
    exact ha e.symm
  | cons r q n ih =>
    rename_i a' c' b' p'
    by_cases hc : c' = v
    · subst hc
      have e := L.into r
      cases q with
      | one => exact absurd rfl hb
      | cons r2 q2 n2 =>
        rename_i c2 p2
        have e2 := L.out r2
        exact absurd (List.mem_cons_of_mem _ (e ▸ e2 ▸ q2.head)) n
    · intro e
      rw [List.mem_cons] at e
      rcases e with e | e
      · exact ha e.symm
      · exact ih hc hb e
theorem Leaf.from (L : Leaf R R' u v) {b : Int} {p : List Int} (h : SP R' v b p) (hb : b ≠ v) : ∃ p', p = v :: p' ∧ SP R u b p' := by
  cases h with
  | one => exact absurd rfl hb
  | cons r q n =>
    rename_i c p'
    have e := L.out r
    subst e
    exact ⟨p', rfl, L.avoid q n⟩
theorem Leaf.to (L : Leaf R R' u v) {a b : Int} {p : List Int} (h : SP R' a b p) : a ≠ v → b = v → ∃ p', p = p' ++ [v] ∧ SP R a u p' := by
  induction h with
  | one a =>
    intro h1 h2
    exact absurd h2 h1
  | cons r q n ih =>
    rename_i a' c' b' p'
    intro h1 h2
    by_cases hc : c' = v
    · subst hc
      subst h2
      have e := L.into r
      subst e
      have e2 := q.loop
      subst e2
      exact ⟨[a'], rfl, .one _⟩
    · obtain ⟨p2, e, q2⟩ := ih hc h2
      refine ⟨a' :: p2, by rw [e]; rfl, .cons (L.off h1 hc r) q2 ?_⟩
      intro m
      exact n (by rw [e]; exact List.mem_append_left _ m)
theorem Leaf.uniq (L : Leaf R R' u v) (U : Uniq R) : Uniq R' := by
  intro a b p q hp hq
  by_cases ha : a = v
  · subst ha
    by_cases hb : b = a
    · subst hb
      rw [hp.loop, hq.loop]
    · obtain ⟨p', e1, s1⟩ := L.from hp hb
      obtain ⟨q', e2, s2⟩ := L.from hq hb
      rw [e1, e2, U _ _ _ _ s1 s2]
  · by_cases hb : b = v
    · obtain ⟨p', e1, s1⟩ := L.to hp ha hb
      obtain ⟨q', e2, s2⟩ := L.to hq ha hb
      rw [e1, e2, U _ _ _ _ s1 s2]
    · exact U _ _ _ _ (L.avoid hp (L.free hp ha hb)) (L.avoid hq (L.free hq ha hb))
end

/-- a forest, room by room: the rooms that stand, and the doors -/
inductive Grown : List Int → List (Int × Int) → Prop
  | nil : Grown [] []
  | room {U : List Int} {E : List (Int × Int)} (v : Int) : Grown U E → v ∉ U → Grown (v :: U) E
  | door {U : List Int} {E : List (Int × Int)} (v u a b : Int) : Grown U E → v ∉ U → u ∈ U → (a = min u v ∧ b = max u v) → Grown (v :: U) ((a, b) :: E)

theorem minmax (u v a b : Int) (h : a = min u v ∧ b = max u v) : (a = u ∧ b = v ∧ u ≤ v) ∨ (a = v ∧ b = u ∧ v ≤ u) := by
  omega

theorem Grown.ends {U : List Int} {E : List (Int × Int)} (g : Grown U E) : ∀ a b, (a, b) ∈ E → a ∈ U ∧ b ∈ U ∧ a < b := by
  induction g with
  | nil => intro a b h; cases h
  | room v g n ih => intro a b h; exact ⟨List.mem_cons_of_mem _ (ih a b h).1, List.mem_cons_of_mem _ (ih a b h).2.1, (ih a b h).2.2⟩
  | door v u x y g n hu hm ih =>
    intro a b h
    have hne : u ≠ v := fun e => n (e ▸ hu)
    rw [List.mem_cons] at h
    rcases h with h | h
    · injection h with h1 h2
      subst h1 h2
      rcases minmax u v a b hm with ⟨h1, h2, h3⟩ | ⟨h1, h2, h3⟩
      · subst h1 h2
        exact ⟨List.mem_cons_of_mem _ hu, List.mem_cons_self .., by omega⟩
      · subst h1 h2
        exact ⟨List.mem_cons_self .., List.mem_cons_of_mem _ hu, by omega⟩
    · exact ⟨List.mem_cons_of_mem _ (ih a b h).1, List.mem_cons_of_mem _ (ih a b h).2.1, (ih a b h).2.2⟩

theorem Grown.nodup {U : List Int} {E : List (Int × Int)} (g : Grown U E) : E.Nodup := by
  induction g with
  | nil => exact List.nodup_nil
  | room v g n ih => exact ih
  | door v u x y g n hu hm ih =>
    refine List.nodup_cons.mpr ⟨fun h => ?_, ih⟩
    have e := g.ends x y h
    rcases minmax u v x y hm with ⟨h1, h2, _⟩ | ⟨h1, h2, _⟩
    · exact n (h2 ▸ e.2.1)
    · exact n (h1 ▸ e.1)

theorem Grown.length {U : List Int} {E : List (Int × Int)} (g : Grown U E) : E.length ≤ U.length := by
  induction g with
  | nil => exact Nat.le_refl _
  | room v g n ih => exact Nat.le_succ_of_le ih
  | door v u x y g n hu hm ih => exact Nat.succ_le_succ ih

theorem Grown.uniq {U : List Int} {E : List (Int × Int)} (g : Grown U E) : Uniq (adj E) := by
  induction g with
  | nil =>
    intro a b p q hp hq
    have k : ∀ {p : List Int}, SP (adj []) a b p → p = [a] := by
      intro p hp
      cases hp with
      | one => rfl
      | cons r _ _ => rcases r with r | r <;> cases r
    rw [k hp, k hq]
  | room v g n ih => exact ih
  | @door U E v u x y g n hu hm ih =>
    have L : Leaf (adj E) (adj ((x, y) :: E)) u v := by
      refine ⟨fun a b => ?_, fun z h => ?_, fun z h => ?_, fun e => n (e ▸ hu)⟩
      · unfold adj
        simp only [List.mem_cons, Prod.mk.injEq]
        rcases minmax u v x y hm with ⟨h1, h2, _⟩ | ⟨h1, h2, _⟩
        · subst h1 h2
          constructor
          · rintro ((h | h) | (h | h))
            · exact .inr (.inl h)
            · exact .inl (.inl h)
            · exact .inr (.inr ⟨h.2, h.1⟩)
            · exact .inl (.inr h)
          · rintro ((h | h) | h | h)
            · exact .inl (.inr h)
            · exact .inr (.inr h)
            · exact .inl (.inl h)
            · exact .inr (.inl ⟨h.2, h.1⟩)
        · subst h1 h2
          constructor
          · rintro ((h | h) | (h | h))
            · exact .inr (.inr h)
            · exact .inl (.inl h)
            · exact .inr (.inl ⟨h.2, h.1⟩)
            · exact .inl (.inr h)
          · rintro ((h | h) | h | h)
            · exact .inl (.inr h)
            · exact .inr (.inr h)
            · exact .inr (.inl ⟨h.2, h.1⟩)
            · exact .inl (.inl h)
      · rcases h with h | h
        · exact n (g.ends _ _ h).1
        · exact n (g.ends _ _ h).2.1
      · rcases h with h | h
        · exact n (g.ends _ _ h).2.1
        · exact n (g.ends _ _ h).1
    exact L.uniq ih

/-- a door stands ahead of another -/
def Dlt (a b : Int × Int) : Prop := a.1 < b.1 ∨ (a.1 = b.1 ∧ a.2 < b.2)
/-- a forest of n rooms, as an ascending list of doors -/
def Forest (n : Int) (D : List (Int × Int)) : Prop := ∃ U E, Grown U E ∧ (∀ x, x ∈ U ↔ 0 ≤ x ∧ x < n) ∧ D.Perm E ∧ U.length ≤ 8 ∧ D.Pairwise Dlt

theorem adj_perm {D E : List (Int × Int)} (h : D.Perm E) : adj D = adj E := by
  funext a b
  unfold adj
  rw [h.mem_iff, h.mem_iff]
theorem Forest.uniq {n : Int} {D : List (Int × Int)} (f : Forest n D) : Uniq (adj D) := by
  obtain ⟨U, E, g, _, p, _⟩ := f
  rw [adj_perm p]
  exact g.uniq
theorem Forest.nodup {n : Int} {D : List (Int × Int)} (f : Forest n D) : D.Nodup := by
  obtain ⟨U, E, g, _, p, _⟩ := f
  exact p.nodup_iff.mpr g.nodup
theorem Forest.up {n : Int} {D : List (Int × Int)} (f : Forest n D) : D.Pairwise Dlt := by
  obtain ⟨U, E, _, _, _, _, u⟩ := f
  exact u
theorem Forest.len {n : Int} {D : List (Int × Int)} (f : Forest n D) : D.length ≤ 8 := by
  obtain ⟨U, E, g, _, p, l, _⟩ := f
  rw [p.length_eq]
  exact Nat.le_trans g.length l
theorem Forest.ends {n : Int} {D : List (Int × Int)} (f : Forest n D) {a b : Int} (h : (a, b) ∈ D) : 0 ≤ a ∧ a < b ∧ b < n := by
  obtain ⟨U, E, g, u, p, _⟩ := f
  have e := g.ends a b (p.mem_iff.mp h)
  exact ⟨((u a).mp e.1).1, e.2.2, ((u b).mp e.2.1).2⟩
theorem Forest.adj {n : Int} {D : List (Int × Int)} (f : Forest n D) {a b : Int} (h : adj D a b) : 0 ≤ a ∧ a < n ∧ 0 ≤ b ∧ b < n := by
  rcases h with h | h
  · have e := f.ends h; omega
  · have e := f.ends h; omega

/-- the adjacent rooms, ascending -/
def nb (n : Int) (D : List (Int × Int)) (r : Int) : List Int := ((List.range n.toNat).map fun (i : Nat) => (i : Int)).filter fun o => decide ((r, o) ∈ D) || decide ((o, r) ∈ D)
theorem mem_nb {n : Int} {D : List (Int × Int)} {r o : Int} : o ∈ nb n D r ↔ (0 ≤ o ∧ o < n) ∧ adj D r o := by
  unfold nb adj
  rw [List.mem_filter, List.mem_map]
  simp only [List.mem_range, Bool.or_eq_true, decide_eq_true_eq]
  constructor
  · rintro ⟨⟨i, hi, rfl⟩, h⟩
    exact ⟨⟨by omega, by omega⟩, h⟩
  · rintro ⟨⟨h0, h1⟩, h⟩
    exact ⟨⟨o.toNat, by omega, by omega⟩, h⟩
theorem Forest.mem_nb {n : Int} {D : List (Int × Int)} (f : Forest n D) {r o : Int} : o ∈ nb n D r ↔ Fw.adj D r o := by
  rw [Fw.mem_nb]
  exact ⟨fun h => h.2, fun h => ⟨⟨(f.adj h).2.2.1, (f.adj h).2.2.2⟩, h⟩⟩
theorem range_up (n : Nat) : ((List.range n).map fun (i : Nat) => (i : Int)).Pairwise (· < ·) := by
  rw [List.pairwise_map]
  exact List.pairwise_lt_range.imp fun h => by omega
theorem nb_up (n : Int) (D : List (Int × Int)) (r : Int) : (nb n D r).Pairwise (· < ·) := (range_up _).filter _
theorem nb_len (n : Int) (D : List (Int × Int)) (r : Int) : (nb n D r).length ≤ n.toNat := by
  unfold nb
  refine Nat.le_trans (List.length_filter_le _ _) ?_
  simp

/-- two ascending lists with the same members are one -/
theorem up_ext : ∀ {xs ys : List Int}, xs.Pairwise (· < ·) → ys.Pairwise (· < ·) → (∀ x, x ∈ xs ↔ x ∈ ys) → xs = ys
  | [], [], _, _, _ => rfl
  | [], y :: ys, _, _, h => absurd ((h y).mpr (List.mem_cons_self ..)) (by simp)
  | x :: xs, [], _, _, h => absurd ((h x).mp (List.mem_cons_self ..)) (by simp)
  | x :: xs, y :: ys, hx, hy, h => by
    obtain ⟨hx1, hx2⟩ := List.pairwise_cons.mp hx
    obtain ⟨hy1, hy2⟩ := List.pairwise_cons.mp hy
    have e : x = y := by
      have h1 := (h x).mp (List.mem_cons_self ..)
      have h2 := (h y).mpr (List.mem_cons_self ..)
      rw [List.mem_cons] at h1 h2
      rcases h1 with h1 | h1
      · exact h1
      · rcases h2 with h2 | h2
        · exact h2.symm
        · have := hy1 _ h1
          have := hx1 _ h2
          omega
    subst e
    rw [up_ext hx2 hy2 fun z => ?_]
    have hz := h z
    rw [List.mem_cons, List.mem_cons] at hz
    constructor
    · intro m
      rcases hz.mp (.inr m) with e | e
      · subst e; have := hx1 _ m; omega
      · exact e
    · intro m
      rcases hz.mpr (.inr m) with e | e
      · subst e; have := hy1 _ m; omega
      · exact e
theorem up_of {xs : List Int} (h : xs.Pairwise (· ≤ ·)) (n : xs.Nodup) : xs.Pairwise (· < ·) := by
  refine (h.and n).imp ?_
  intro a b ⟨h1, h2⟩
  omega

/-- the doors from r and to r, as the law lists them -/
def outs (D : List (Int × Int)) (r : Int) : List Int := (D.filter fun d => decide (d.1 = r)).map (·.2)
def ins (D : List (Int × Int)) (r : Int) : List Int := (D.filter fun d => decide (d.2 = r)).map (·.1)
theorem mem_outs {D : List (Int × Int)} {r o : Int} : o ∈ outs D r ↔ (r, o) ∈ D := by
  unfold outs
  simp only [List.mem_map, List.mem_filter, decide_eq_true_eq]
  constructor
  · rintro ⟨⟨a, b⟩, ⟨h, rfl⟩, rfl⟩; exact h
  · intro h; exact ⟨(r, o), ⟨h, rfl⟩, rfl⟩
theorem mem_ins {D : List (Int × Int)} {r o : Int} : o ∈ ins D r ↔ (o, r) ∈ D := by
  unfold ins
  simp only [List.mem_map, List.mem_filter, decide_eq_true_eq]
  constructor
  · rintro ⟨⟨a, b⟩, ⟨h, rfl⟩, rfl⟩; exact h
  · intro h; exact ⟨(o, r), ⟨h, rfl⟩, rfl⟩
theorem nodup_map_on {α β : Type} {f : α → β} : ∀ {xs : List α}, xs.Nodup → (∀ x y, x ∈ xs → y ∈ xs → f x = f y → x = y) → (xs.map f).Nodup
  | [], _, _ => List.nodup_nil
  | x :: xs, n, h => by
    obtain ⟨n1, n2⟩ := List.nodup_cons.mp n
    rw [List.map_cons]
    refine List.nodup_cons.mpr ⟨fun m => ?_, nodup_map_on n2 fun a b ha hb => h a b (List.mem_cons_of_mem _ ha) (List.mem_cons_of_mem _ hb)⟩
    obtain ⟨y, hy, e⟩ := List.mem_map.mp m
    have := h y x (List.mem_cons_of_mem _ hy) (List.mem_cons_self ..) e
    subst this
    exact n1 hy
theorem Forest.both_nodup {n : Int} {D : List (Int × Int)} (f : Forest n D) (r : Int) : (outs D r ++ ins D r).Nodup := by
  rw [List.nodup_append]
  refine ⟨?_, ?_, ?_⟩
  · refine nodup_map_on (f.nodup.filter _) ?_
    rintro ⟨a, b⟩ ⟨c, d⟩ h1 h2 e
    have e1 := of_decide_eq_true (List.mem_filter.mp h1).2
    have e2 := of_decide_eq_true (List.mem_filter.mp h2).2
    simp only at e e1 e2
    rw [e, e1, e2]
  · refine nodup_map_on (f.nodup.filter _) ?_
    rintro ⟨a, b⟩ ⟨c, d⟩ h1 h2 e
    have e1 := of_decide_eq_true (List.mem_filter.mp h1).2
    have e2 := of_decide_eq_true (List.mem_filter.mp h2).2
    simp only at e e1 e2
    rw [e, e1, e2]
  · intro a ha b hb e
    subst e
    have h1 := f.ends (mem_outs.mp ha)
    have h2 := f.ends (mem_ins.mp hb)
    omega
theorem Forest.sorted_nb {n : Int} {D : List (Int × Int)} (f : Forest n D) {r : Int} {ys : List Int} (p : ys.Perm (outs D r ++ ins D r)) (s : ys.Pairwise (· ≤ ·)) : ys = nb n D r := by
  refine up_ext (up_of s (p.nodup_iff.mpr (f.both_nodup r))) (nb_up n D r) fun x => ?_
  rw [p.mem_iff, List.mem_append, mem_outs, mem_ins, f.mem_nb]
  exact Iff.rfl

/-- the doors to r and from r, one list behind the other, as the program lists them -/
theorem Forest.nb_eq {n : Int} {D : List (Int × Int)} (f : Forest n D) (r : Int) : ins D r ++ outs D r = nb n D r := by
  refine up_ext ?_ (nb_up n D r) fun x => ?_
  · rw [List.pairwise_append]
    refine ⟨?_, ?_, fun a ha b hb => ?_⟩
    · unfold ins
      rw [List.pairwise_map]
      refine (f.up.filter _).imp_of_mem fun {x y} hx hy h => ?_
      have e1 : x.2 = r := of_decide_eq_true (List.mem_filter.mp hx).2
      have e2 : y.2 = r := of_decide_eq_true (List.mem_filter.mp hy).2
      unfold Dlt at h
      omega
    · unfold outs
      rw [List.pairwise_map]
      refine (f.up.filter _).imp_of_mem fun {x y} hx hy h => ?_
      have e1 : x.1 = r := of_decide_eq_true (List.mem_filter.mp hx).2
      have e2 : y.1 = r := of_decide_eq_true (List.mem_filter.mp hy).2
      unfold Dlt at h
      omega
    · have h1 := f.ends (mem_ins.mp ha)
      have h2 := f.ends (mem_outs.mp hb)
      omega
  · rw [List.mem_append, mem_outs, mem_ins, f.mem_nb]
    exact or_comm
/-- how many rooms below n are not in S: it falls when one more is -/
def left (n : Nat) (S : Int → Bool) : Nat := (List.range n).countP fun (i : Nat) => !S (i : Int)
theorem countP_lt {α : Type} {p q : α → Bool} : ∀ {l : List α} {x : α}, (∀ y ∈ l, q y = true → p y = true) → x ∈ l → p x = true → q x = false → l.countP q < l.countP p
  | [], _, _, m, _, _ => by cases m
  | y :: l, x, h, m, hp, hq => by
    have hm : l.countP q ≤ l.countP p := List.countP_mono_left fun z hz => h z (List.mem_cons_of_mem _ hz)
    rw [List.countP_cons, List.countP_cons]
    rw [List.mem_cons] at m
    by_cases e : x = y
    · subst e
      rw [if_neg (by rw [hq]; exact Bool.false_ne_true), if_pos hp]
      omega
    · have ih := countP_lt (fun z hz => h z (List.mem_cons_of_mem _ hz)) (m.resolve_left e) hp hq
      have hy := h y (List.mem_cons_self ..)
      by_cases c : q y = true
      · rw [if_pos c, if_pos (hy c)]; omega
      · rw [if_neg c]; omega
theorem left_lt {n : Nat} {S S' : Int → Bool} {o : Int} (h : ∀ x, S x = true → S' x = true) (h0 : 0 ≤ o) (h1 : o < n) (hs : S o = false) (hs' : S' o = true) : left n S' < left n S := by
  refine countP_lt (x := o.toNat) (fun y _ hy => ?_) (List.mem_range.mpr (by omega)) ?_ ?_
  · cases e : S (y : Int) with
    | false => rfl
    | true => rw [h _ e] at hy; cases hy
  · rw [show ((o.toNat : Nat) : Int) = o by omega, hs]; rfl
  · rw [show ((o.toNat : Nat) : Int) = o by omega, hs']; rfl
theorem left_le (n : Nat) (S : Int → Bool) : left n S ≤ n := by
  refine Nat.le_trans List.countP_le_length ?_
  simp
end Fw
namespace Fw
open PySem PySem.Spec PyProof.Rows L2
def top (i : Nat) : Stmt := PySem.Challenge.pw_fromwithin_k42_swap_errors.main.body.getD i (.Pass ⟨0, 0, 0, 0⟩)
abbrev sNb : Stmt := top 1
abbrev sPath : Stmt := top 2
abbrev sComp : Stmt := top 3
abbrev sSteps : Stmt := top 4
abbrev iUnknownPerson : Stmt := inClass (top 7) 0
abbrev iInvalidRoom : Stmt := inClass (top 8) 0
abbrev iNotAdjacent : Stmt := inClass (top 9) 0
abbrev iEmptyRoom : Stmt := inClass (top 10) 0
abbrev iInvalidMoves : Stmt := inClass (top 11) 0
abbrev iOtherRegion : Stmt := inClass (top 12) 0
abbrev iTightRegion : Stmt := inClass (top 13) 0
abbrev iBlocked : Stmt := inClass (top 14) 0
abbrev iInvalidName : Stmt := inClass (top 15) 0
abbrev iDuplicateName : Stmt := inClass (top 16) 0
abbrev iLimitReached : Stmt := inClass (top 17) 0
abbrev iAlreadyAdjacent : Stmt := inClass (top 18) 0
abbrev iWouldFormCycle : Stmt := inClass (top 19) 0
abbrev iNothingToUndo : Stmt := inClass (top 20) 0
abbrev iHistoryFull : Stmt := inClass (top 21) 0
abbrev iSessionBusy : Stmt := inClass (top 22) 0
abbrev iInvalidActions : Stmt := inClass (top 23) 0
abbrev iBatchFailed : Stmt := inClass (top 24) 0
abbrev iInvalidMoment : Stmt := inClass (top 25) 0
abbrev iInvalidHouse : Stmt := inClass (top 26) 0
abbrev iInvalidPlacement : Stmt := inClass (top 27) 0
abbrev iInvalidText : Stmt := inClass (top 28) 0
abbrev sRoomOf : Stmt := top 30
abbrev sPIn : Stmt := top 31
abbrev sPWi : Stmt := top 32
abbrev sFReg : Stmt := top 34
abbrev sRegOf : Stmt := top 35
abbrev sSurp : Stmt := top 36
abbrev sIsTight : Stmt := top 37
abbrev sWalk : Stmt := top 39
abbrev sSharing : Stmt := top 40
abbrev sExch : Stmt := top 41
abbrev sSwapP : Stmt := top 43
abbrev sStream : Stmt := top 45
abbrev sNames : Stmt := top 46
abbrev sDraw : Stmt := top 47
abbrev sHouse : Stmt := top 48
abbrev sPl : Stmt := top 49
abbrev sLNb : Stmt := top 50
abbrev sConn : Stmt := top 51
abbrev sLErrorClass : Stmt := top 52
abbrev sLInvN : Stmt := top 53
abbrev sLSwErr : Stmt := top 54
abbrev sLSwOut : Stmt := top 55
abbrev sLaw : Stmt := top 56
end Fw
namespace Fw
open PySem PySem.Spec PyProof.Rows L2
abbrev vi (ns : List Int) : List V := ns.map V.int

theorem same_upd {H : Hp} {p : Addr} {o : HO} (h : H p = none) : Same H (upd H p o) := fun b x e => by
  rw [upd_ne (ne_of_none e h)]
  exact e

/-- the stream of draws: s the list of three, A the great cells, B all cells; c bounds the count -/
structure StreamAt (H : Hp) (s A B : Addr) (c : Nat) : Prop where
  ex : ∃ (big cells : List Int) (cnt : Int), H s = some (.lst [.ref A, .ref B, .int cnt]) ∧ H A = some (.lst (vi big)) ∧ H B = some (.lst (vi cells)) ∧
    (∀ x ∈ big, 0 ≤ x) ∧ (∀ x ∈ cells, 0 ≤ x) ∧ 0 < cells.length ∧ cells.length ≤ 100 ∧ big.length ≤ 100 ∧ 0 ≤ cnt ∧ cnt ≤ c
  nAB : A ≠ B
  nsA : s ≠ A
  nsB : s ≠ B
/-- all but the stream's own lists stands as before -/
def Fr (s A : Addr) (H H' : Hp) : Prop := ∀ b o, b ≠ s → b ≠ A → H b = some o → H' b = some o
theorem Fr.trans {s A : Addr} {H H1 H2 : Hp} (a : Fr s A H H1) (b : Fr s A H1 H2) : Fr s A H H2 := fun c o h1 h2 e => b c o h1 h2 (a c o h1 h2 e)
theorem Fr.of {s A : Addr} {H H1 : Hp} (a : Same H H1) : Fr s A H H1 := fun c o _ _ e => a c o e

theorem same_put {H H1 : Hp} {p : Addr} {o : HO} (s : Same H H1) (h : H p = none) : Same H (upd H1 p o) := fun b x e => by
  rw [upd_ne (ne_of_none e h)]
  exact s _ _ e
theorem get_vi {ns : List Int} {i : Nat} {x : V} (h : (vi ns)[i]? = some x) : ∃ v, ns[i]? = some v ∧ x = .int v := by
  rw [List.getElem?_map] at h
  cases e : ns[i]? with
  | none => rw [e] at h; cases h
  | some v => rw [e] at h; exact ⟨v, rfl, (Option.some.inj h).symm⟩
theorem vi_app (a b : List Int) : vi (a ++ b) = vi a ++ vi b := List.map_append
def absI (i : Int) : Int := if i < 0 then -i else i
theorem absI_pos (i : Int) : 0 ≤ absI i := by unfold absI; split <;> omega
/-- the builtins' names are not taken -/
structure Nm (mg : Str → Option Value) : Prop where
  abs : mg "abs" = none
  len : mg "len" = none
  list : mg "list" = none
  range : mg "range" = none
  min : mg "min" = none
  max : mg "max" = none
  tuple : mg "tuple" = none
  sorted : mg "sorted" = none
  isinstance : mg "isinstance" = none
  all : mg "all" = none
  zip : mg "zip" = none
  bool : mg "bool" = none
  int : mg "int" = none
  str : mg "str" = none
  repr : mg "repr" = none

/-! ### data -/
theorem dp_ints {K : PySem.W.Frag} {H : Hp} : ∀ ns : List Int, DpAll K H (vi ns) (ns.map PyData.int)
  | [] => .nil
  | n :: ns => .cons (.int n) (dp_ints ns)
theorem lay_ints : ∀ ns : List Int, PyData.canLayAll0 (ns.map PyData.int) = true
  | [] => by simp [PyData.canLayAll0]
  | n :: ns => by
    rw [List.map_cons, PyData.canLayAll0, lay_ints ns, PyData.canLay0]
    rfl
theorem deep_ints : ∀ ns : List Int, PyData.depthAll (ns.map PyData.int) = 0
  | [] => by simp [PyData.depthAll]
  | n :: ns => by
    rw [List.map_cons, PyData.depthAll, deep_ints ns, PyData.depth]
    rfl
theorem shaped_list (ns : List Int) : SeqAt.shaped (.list (ns.map PyData.int)) = true := by
  unfold SeqAt.shaped
  rw [PyData.canLay0, lay_ints, PyData.depth, deep_ints]
  decide
theorem shaped_tup (ns : List Int) : SeqAt.shaped (.tuple (ns.map PyData.int)) = true := by
  unfold SeqAt.shaped
  rw [PyData.canLay0, lay_ints, PyData.depth, deep_ints]
  decide
theorem eqv_nil (ns : List Int) : PyData.eqv (.list (ns.map PyData.int)) (.list []) = ns.isEmpty := by
  rw [PyData.eqv]
  cases ns with
  | nil => rw [List.map_nil, PyData.eqvAll]; rfl
  | cons n ns => rw [List.map_cons, PyData.eqvAll]; rfl
theorem ix0 (n : Nat) : ixN (n + 1) 0 = some 0 := by
  unfold ixN
  rw [if_pos (by omega), if_pos (by omega)]
  rfl
theorem atI0 {α : Type} {x : α} {xs : List α} : atI (x :: xs) 0 = some x := atI_nat (j := 0) rfl
theorem atI1 {α : Type} {x y : α} {xs : List α} : atI (x :: y :: xs) 1 = some y := atI_nat (j := 1) rfl
theorem atI2 {α : Type} {x y z : α} {xs : List α} : atI (x :: y :: z :: xs) 2 = some z := atI_nat (j := 2) rfl

section
variable {P : Program} {w : World} {K : PySem.W.Frag} {mg : Str → Option Value} {base : Heap}

def spStream (K : PySem.W.Frag) : Sp := fun vs H Q _ => ∃ (a : Addr) (ns : List Int), vs = [.ref a] ∧ SqL K H a (ns.map V.int) ∧ ns.length ≤ 63 ∧
  ∀ H' s A B, Same H H' → H s = none → H A = none → StreamAt H' s A B 0 → Q (.ref s) H'

theorem scStream : FnScope ["_law_script", "_law_cells", "_law_cell"] ["_law_script"] (defScope sStream) := ⟨rfl, rfl, rfl, by decide +kernel, rfl, by decide +kernel, by decide +kernel⟩
theorem ok_stream {f : Addr} {fd : FuncData} {k : Nat} (F : Fun K "_law_stream" "_law_stream" sStream f fd) (T : Nm mg) : FnOk P w K mg base CX0 (k + 1) f fd ["_law_script"] (spStream K) := by
  refine F.ok scStream (fun vs H Q E h => ?_) (fun cdv A outer s H vs Q E hr h => ?_)
  · obtain ⟨a, ns, rfl, _⟩ := h
    rfl
  · obtain ⟨a, ns, rfl, hS, hlen, q⟩ := h
    refine ⟨_, pss_cons (ps_setLc (i := 1) (own := [("_law_cell", 2)]) (g := gName 2) (by rfl) scStream.nd rfl rfl (sw_true rfl rfl rfl (by decide +kernel)) (pi_list (pv 0))
        (blkOk_by (own := [("_law_cell", 2)]) (N := ["_law_script", "_law_cells", "_law_cell"]) (sc := defScope sStream) (by decide +kernel))
        (fun _ _ _ _ _ => pg_name (i := 2) scStream.nd rfl (Or.inl rfl)) (fun _ _ _ _ _ => pts_nil)
        (fun _ _ _ _ _ => pe_callB call_abs (by rfl) T.abs (by decide +kernel) (pa_cons (pv 2) pa_nil)))
      (pss_one (ps_ret (pe_lst (pa_cons
        (pe_lc (own := [("_law_cell", 2)]) (g := gName 2) (by rfl) scStream.nd (pi_list (pv 1))
          (blkOk_by (own := [("_law_cell", 2)]) (N := ["_law_script", "_law_cells", "_law_cell"]) (sc := defScope sStream) (by decide +kernel))
          (fun _ _ _ _ _ => pg_name (i := 2) scStream.nd rfl (Or.inl rfl)) (fun _ _ _ _ _ => pts_one (pt_cmpR op_ge (pv 2) (pe_op op_pow pe_int pe_int) (nomark _)))
          (fun _ _ _ _ _ => pv 2))
        (pa_cons (pe_op op_cat (pv 1) (pe_lst (pa_cons (pe_op op_add (pe_callB call_len_seq (by rfl) T.len PySem.boot_len (pa_cons (pv 1) pa_nil)) pe_int) pa_nil)))
        (pa_cons pe_int pa_nil)))))), ?_⟩
    refine ⟨.ref a, rfl, a, rfl, ⟨_, hS⟩, fun D hD => lc_list (K := K) (a := a) (xs := vi ns) (fun i H1 => Same H H1 ∧ H1 D = some (.lst (vi ((ns.map absI).take i))))
      ⟨same_upd hD, upd_same⟩ (fun i H1 _ h => h.1.seq hS) ?_ ?_⟩
    · rintro i x H1 hx ⟨s1, e1⟩
      obtain ⟨v, ev, rfl⟩ := get_vi hx
      refine ⟨rfl, ?_⟩
      unfold tYes
      refine iteT ?_
      refine ⟨_, rfl, v, rfl, _, e1, ?_, ?_, ?_⟩
      · rw [List.length_map, List.length_take, List.length_map]
        exact small1000 (by omega)
      · exact same_put s1 hD
      · rw [upd_same, List.take_add_one, List.getElem?_map, ev, vi_app]
        rfl
    · rintro H1 ⟨s1, e1⟩
      rw [List.length_map, ← List.length_map (f := absI), List.take_length] at e1
      refine ⟨_, rfl, D, rfl, ⟨_, SqL.of e1⟩, fun G hG => lc_list (K := K) (a := D) (xs := vi (ns.map absI)) (fun i H2 => Same H1 H2 ∧ H2 G = some (.lst (vi (((ns.map absI).take i).filter fun x => decide (10 ^ 18 ≤ x)))))
        ⟨same_upd hG, upd_same⟩ (fun i H2 _ h => h.1.seq (SqL.of e1)) ?_ ?_⟩
      · rintro i x H2 hx ⟨s2, e2⟩
        obtain ⟨v, ev, rfl⟩ := get_vi hx
        refine ⟨rfl, _, rfl, _, _, rfl, rfl, ⟨by decide, by decide, by decide⟩, _, _, rfl, rfl, _, rfl, ?_⟩
        have et : ((ns.map absI).take (i + 1)).filter (fun x => decide (10 ^ 18 ≤ x)) = ((ns.map absI).take i).filter (fun x => decide (10 ^ 18 ≤ x)) ++ (if 10 ^ 18 ≤ v then [v] else []) := by
          rw [List.take_add_one, ev, List.filter_append]
          congr 1
          by_cases c : (10 : Int) ^ 18 ≤ v
          · rw [if_pos c]
            show List.filter _ [v] = [v]
            rw [List.filter_cons_of_pos (by simpa using c)]
            rfl
          · rw [if_neg c]
            show List.filter _ [v] = []
            rw [List.filter_cons_of_neg (by simpa using c)]
            rfl
        refine ite2 (fun c => ?_) (fun c => ?_)
        · have c : (10 : Int) ^ 18 ≤ v := of_decide_eq_true c
          refine ⟨_, rfl, _, e2, ?_, same_put s2 hG, ?_⟩
          · rw [List.length_map]
            refine small1000 (Nat.le_trans (List.length_filter_le _ _) ?_)
            rw [List.length_take, List.length_map]
            omega
          · rw [upd_same, et, if_pos c, vi_app]
            rfl
        · have c : ¬ (10 : Int) ^ 18 ≤ v := fun e => c (decide_eq_true e)
          refine ⟨s2, ?_⟩
          rw [et, if_neg c, List.append_nil]
          exact e2
      · rintro H2 ⟨s2, e2⟩
        rw [List.length_map, List.take_length] at e2
        have e1' := s2 _ _ e1
        refine ⟨_, rfl, _, rfl, D, _, rfl, .inl (SqL.of e1'), _, _, rfl, rfl, by show 1 ≤ sizeLine; decide, fun O hO => ?_⟩
        have e1'' := same_upd (o := .lst [.int (((vi (ns.map absI)).length : Nat) + 3)]) hO _ _ e1'
        refine ⟨D, O, _, _, rfl, rfl, e1'', upd_same, ?_, fun B hB => ?_⟩
        · simp only [List.length_map, List.length_append, List.length_cons, List.length_nil]
          exact Nat.le_of_lt (small1000 (by omega))
        refine ⟨by show 3 ≤ sizeLine; decide, fun S hS' => ?_⟩
        have nGS : S ≠ G := fun e => by
          rw [e] at hS'
          exact absurd hS' (by rw [same_upd hB _ _ (same_upd hO _ _ e2)]; exact nofun)
        have nBS : S ≠ B := fun e => by
          rw [e, upd_same] at hS'
          cases hS'
        have nGB : G ≠ B := fun e => by
          rw [← e] at hB
          exact absurd hB (by rw [same_upd hO _ _ e2]; exact nofun)
        have sA : Same H (upd (upd H2 O (.lst [.int (((vi (ns.map absI)).length : Nat) + 3)])) B (.lst (vi (ns.map absI) ++ [.int (((vi (ns.map absI)).length : Nat) + 3)]))) := (s1.trans s2).trans ((same_upd hO).trans (same_upd hB))
        refine q _ S G B (sA.trans (same_upd hS')) (sA.free hS') (s1.free hG) ⟨⟨(ns.map absI).filter (fun x => decide (10 ^ 18 ≤ x)), ns.map absI ++ [((ns.length : Nat) : Int) + 3], 0, upd_same, ?_, ?_, ?_, ?_, ?_, ?_, ?_, Int.le_refl _, Int.le_refl _⟩, nGB, nGS, nBS⟩
        · rw [upd_ne nGS.symm, upd_ne nGB, same_upd hO _ _ e2]
        · rw [upd_ne nBS.symm, upd_same, vi_app]
          show some (HO.lst (vi (ns.map absI) ++ [V.int (((vi (ns.map absI)).length : Nat) + 3)])) = _
          rw [List.length_map, List.length_map]
          rfl
        · intro x hx
          obtain ⟨y, _, rfl⟩ := List.mem_map.mp (List.mem_filter.mp hx).1
          exact absI_pos y
        · intro x hx
          rcases List.mem_append.mp hx with hx | hx
          · obtain ⟨y, _, rfl⟩ := List.mem_map.mp hx
            exact absI_pos y
          · rw [List.mem_singleton.mp hx]
            omega
        · simp
        · simp only [List.length_map, List.length_append, List.length_cons, List.length_nil]
          omega
        · refine Nat.le_trans (List.length_filter_le _ _) ?_
          rw [List.length_map]
          omega

theorem lg60 {m : Int} (h0 : 0 < m) (h1 : m < 2 ^ 60) : m.natAbs.log2 < 9000 := by
  have : m.natAbs ≠ 0 := by omega
  have h2 : m.natAbs < 2 ^ 60 := by omega
  have := (Nat.log2_lt this).mpr h2
  omega
def spDraw : Sp := fun vs H Q _ => ∃ (s A B : Addr) (c : Nat) (m : Int), vs = [.ref s, .int m] ∧ StreamAt H s A B c ∧ c < 2 ^ 40 ∧ 0 < m ∧ m < 2 ^ 60 ∧
  ∀ H' r, StreamAt H' s A B (c + 1) → Fr s A H H' → 0 ≤ r → r < m → Q (.int r) H'

theorem scDraw : FnScope ["_law_stream_here", "_law_many", "_law_rest", "_law_turn", "_law_cell", "_law_mixed"] ["_law_stream_here", "_law_many"] (defScope sDraw) := ⟨rfl, rfl, rfl, by decide +kernel, rfl, by decide +kernel, by decide +kernel⟩
theorem ok_draw {f : Addr} {fd : FuncData} {k : Nat} (F : Fun K "_law_draw" "_law_draw" sDraw f fd) (T : Nm mg) : FnOk P w K mg base CX0 (k + 1) f fd ["_law_stream_here", "_law_many"] spDraw := by
  refine F.ok scDraw (fun vs H Q E h => ?_) (fun cdv A outer s H vs Q E hr h => ?_)
  · obtain ⟨s, A, B, c, m, rfl, _⟩ := h
    rfl
  · obtain ⟨s, A, B, c, m, rfl, hS, hc, hm0, hm1, q⟩ := h
    refine ⟨_, pss_cons (ps_while PassesOwn.never (pt_cmpR (op_neD hr.units) (pe_ix ix_list (pv 0) pe_int (fun _ _ => rfl)) (pe_lst pa_nil) (nomark _))
        (pss_cons (ps_set (i := 2) scDraw.nd rfl (.inl rfl) (pe_ix ix_list (pe_ix ix_list (pv 0) pe_int (fun _ _ => rfl)) pe_int (fun _ _ => rfl)))
        (pss_cons (ps_if (pt_cmpR op_gt (pv 2) pe_int (nomark _))
          (pss_cons (ps_asg (pe_op op_fdivW (pv 2) (pv 1)) (pg_sub (pe_ix ix_list (pv 0) pe_int (fun _ _ => rfl)) pe_int set_list))
          (pss_one (ps_ret (pe_op op_modN (pv 2) (pv 1))))) pss_nil)
        (pss_one (ps_expr (pe_bm PySem.F.plainAttrs_list PySem.F.slot_list_pop PySem.F.type_list_pop mt_popAt (pe_ix ix_list (pv 0) pe_int (fun _ _ => rfl)) (pa_cons pe_int pa_nil)))))))
      (pss_cons (ps_set (i := 3) scDraw.nd rfl (.inl rfl) (pe_op op_add (pe_ix ix_list (pv 0) pe_int (fun _ _ => rfl)) pe_int))
      (pss_cons (ps_asg (pv 3) (pg_sub (pv 0) pe_int set_list))
      (pss_cons (ps_set (i := 4) scDraw.nd rfl (.inl rfl) (pe_op op_modN (pe_ix ix_list (pe_ix ix_list (pv 0) pe_int (fun _ _ => rfl)) (pe_op op_modN (pv 3) (pe_callB call_len_seq (by rfl) T.len PySem.boot_len (pa_cons (pe_ix ix_list (pv 0) pe_int (fun _ _ => rfl)) pa_nil))) (fun _ _ => rfl)) pe_int))
      (pss_cons (ps_set (i := 5) scDraw.nd rfl (.inl rfl) (pe_op op_add (pe_op op_add (pe_op op_mul (pv 4) (pe_op op_add pe_int (pe_op op_mul pe_int (pv 3)))) (pe_op op_mul (pe_op op_mul pe_int (pv 3)) (pv 3))) pe_int))
      (pss_cons (ps_set (i := 5) scDraw.nd rfl (.inl rfl) (pe_op op_modN (pv 5) pe_int))
      (pss_one (ps_ret (pe_op op_modN (pe_op op_fdivN (pe_op op_modN (pe_op op_mul (pv 5) (pv 5)) pe_int) pe_int) (pv 1))))))))), ?_⟩
    have fm : ∀ x y : Int, 0 < y → 0 ≤ x.fmod y ∧ x.fmod y < y := fun x y hy => by
      rw [Int.fmod_eq_emod_of_nonneg x (Int.le_of_lt hy)]
      exact ⟨Int.emod_nonneg x (by omega), Int.emod_lt_of_pos x hy⟩
    refine ⟨fun n σ H' => ∃ y2, σ = [some (.ref s), some (.int m), y2, none, none, none] ∧ StreamAt H' s A B c ∧ Fr s A H H' ∧ ∃ big : List Int, H' A = some (.lst (vi big)) ∧ n = big.length, ?_, ?_⟩
    · obtain ⟨big, cells, cnt, _, h2, _⟩ := hS.ex
      exact ⟨_, none, rfl, hS, fun _ _ _ _ e => e, big, h2, rfl⟩
    rintro n σ H1 ⟨y2, rfl, hS1, fr1, big', hb', rfl⟩
    obtain ⟨big, cells, cnt, h1, h2, h3, p1, p2, l0, l1, l2, c0, c1⟩ := hS1.ex
    have eb : vi big' = vi big := by
      rw [h2] at hb'
      injection hb' with hb'
      injection hb' with hb'
      exact hb'.symm
    have el : big'.length = big.length := by
      have := congrArg List.length eb
      simpa using this
    rw [el]
    refine ⟨_, rfl, s, _, _, _, rfl, rfl, SqL.of h1, atI0, Nat.zero_le _, fun e he => ?_⟩
    have n1 : s ≠ e := ne_of_none h1 he
    have n2 : A ≠ e := ne_of_none h2 he
    have n3 : B ≠ e := ne_of_none h3 he
    have h1' : (upd H1 e (.lst [])) s = _ := (upd_ne n1).trans h1
    have h2' : (upd H1 e (.lst [])) A = _ := (upd_ne n2).trans h2
    have h3' : (upd H1 e (.lst [])) B = _ := (upd_ne n3).trans h3
    have sm : Same H1 (upd H1 e (.lst [])) := same_upd he
    refine ⟨.list (big.map .int), .list [], .lst (SqL.of h2') (dp_ints big), .lst (SqL.of upd_same) .nil, shaped_list big, shaped_list [], _, rfl, ?_⟩
    rw [eqv_nil]
    cases big with
    | nil =>
      refine iteF ?_
      -- turn = s[2] + 1; s[2] = turn
      refine ⟨_, rfl, s, _, _, _, rfl, rfl, SqL.of h1', atI2, _, _, rfl, rfl, ?_⟩
      refine ⟨_, rfl, _, rfl, s, _, _, 2, rfl, rfl, h1', rfl, ?_⟩
      have h3s : (upd (upd H1 e (.lst [])) s (.lst ([V.ref A, V.ref B, V.int cnt].set 2 (V.int (cnt + 1))))) B = _ := (upd_ne hS1.nsB.symm).trans h3'
      have h2s : (upd (upd H1 e (.lst [])) s (.lst ([V.ref A, V.ref B, V.int cnt].set 2 (V.int (cnt + 1))))) A = _ := (upd_ne hS1.nsA.symm).trans h2'
      have hS2 : StreamAt (upd (upd H1 e (.lst [])) s (.lst ([V.ref A, V.ref B, V.int cnt].set 2 (V.int (cnt + 1))))) s A B (c + 1) :=
        ⟨⟨[], cells, cnt + 1, upd_same, h2s, h3s, p1, p2, l0, l1, l2, by omega, by omega⟩, hS1.nAB, hS1.nsA, hS1.nsB⟩
      have fr2 : Fr s A H (upd (upd H1 e (.lst [])) s (.lst ([V.ref A, V.ref B, V.int cnt].set 2 (V.int (cnt + 1))))) := fun b o z1 z2 z3 => by
        rw [upd_ne z1]
        exact sm _ _ (fr1 b o z1 z2 z3)
      have h1s : (upd (upd H1 e (.lst [])) s (.lst ([V.ref A, V.ref B, V.int cnt].set 2 (V.int (cnt + 1))))) s = some (.lst [V.ref A, V.ref B, V.int (cnt + 1)]) := upd_same
      have hl : (0 : Int) < (cells.length : Nat) := by omega
      obtain ⟨g0, g1⟩ := fm (cnt + 1) ((cells.length : Nat) : Int) hl
      have hj : ((cnt + 1).fmod ((cells.length : Nat) : Int)).toNat < cells.length := by omega
      have hat : atI (vi cells) ((cnt + 1).fmod (((vi cells).length : Nat) : Int)) = some (V.int cells[((cnt + 1).fmod ((cells.length : Nat) : Int)).toNat]) := by
        rw [List.length_map]
        have := atI_nat (xs := vi cells) (j := ((cnt + 1).fmod ((cells.length : Nat) : Int)).toNat) (v := V.int cells[((cnt + 1).fmod ((cells.length : Nat) : Int)).toNat]) (by rw [List.getElem?_map, List.getElem?_eq_getElem hj]; rfl)
        rw [show ((((cnt + 1).fmod ((cells.length : Nat) : Int)).toNat : Nat) : Int) = (cnt + 1).fmod ((cells.length : Nat) : Int) by omega] at this
        exact this
      refine ⟨_, rfl, s, _, _, _, rfl, rfl, SqL.of h1s, atI1, _, rfl, _, rfl, s, _, _, _, rfl, rfl, SqL.of h1s, atI1, B, _, rfl, .inl (SqL.of h3s), _, _, rfl, rfl, by rw [List.length_map]; omega, B, _, _, _, rfl, rfl, SqL.of h3s, hat, _, _, rfl, rfl, (by show (2147483647 : Int) ≠ 0; decide), ?_⟩
      generalize cells[((cnt + 1).fmod ((cells.length : Nat) : Int)).toNat] = x
      obtain ⟨x0, x1⟩ := fm x 2147483647 (by decide)
      refine ⟨_, rfl, _, rfl, _, _, rfl, rfl, .inl ⟨by decide, by decide⟩, _, _, rfl, rfl, _, _, rfl, rfl, .inl ⟨by omega, by omega⟩, ?_⟩
      refine ⟨_, rfl, _, _, rfl, rfl, .inl ⟨by decide, by decide⟩, _, rfl, _, _, rfl, rfl, .inr ⟨by omega, by omega⟩, _, _, rfl, rfl, _, _, rfl, rfl, ?_⟩
      refine ⟨_, rfl, _, _, rfl, rfl, (by show (2147483629 : Int) ≠ 0; decide), ?_⟩
      refine ⟨_, rfl, _, rfl, _, _, rfl, rfl, .inl ?_, _, _, rfl, rfl, (by show (2147483587 : Int) ≠ 0; decide), _, _, rfl, rfl, ⟨by decide, by decide⟩, _, rfl, _, _, rfl, rfl, by omega, ?_⟩
      · generalize (x.fmod 2147483647 * _ + _ + _ : Int) = y
        obtain ⟨y0, y1⟩ := fm y 2147483629 (by decide)
        exact ⟨by omega, by omega⟩
      · exact q _ _ hS2 fr2 (fm _ m hm0).1 (fm _ m hm0).2
    | cons x r =>
      refine iteT ⟨_, fun _ _ h => h, ?_⟩
      refine ⟨_, rfl, s, _, _, _, rfl, rfl, SqL.of h1', atI0, A, _, _, _, rfl, rfl, SqL.of h2', atI0, ?_⟩
      refine ⟨_, rfl, _, _, rfl, rfl, _, rfl, ?_⟩
      have hx : 0 ≤ x := p1 x (List.mem_cons_self ..)
      have hr' : ∀ y ∈ r, 0 ≤ y := fun y hy => p1 y (List.mem_cons_of_mem _ hy)
      refine ite2 (fun cx => ?_) (fun cx => ?_)
      · refine ⟨_, rfl, _, rfl, _, _, rfl, rfl, ⟨hm0, lg60 hm0 hm1⟩, ?_⟩
        refine ⟨_, rfl, s, _, _, _, rfl, rfl, SqL.of h1', atI0, A, _, _, 0, rfl, rfl, h2', ix0 _, ?_⟩
        refine ⟨_, rfl, _, rfl, _, _, rfl, rfl, by omega, ?_⟩
        refine q _ _ ⟨⟨x / m :: r, cells, cnt, (upd_ne hS1.nsA).trans h1', upd_same, (upd_ne hS1.nAB.symm).trans h3', ?_, p2, l0, l1, l2, c0, by omega⟩, hS1.nAB, hS1.nsA, hS1.nsB⟩ ?_ (fm x m hm0).1 (fm x m hm0).2
        · intro y hy
          rcases List.mem_cons.mp hy with rfl | hy
          · exact Int.ediv_nonneg hx (Int.le_of_lt hm0)
          · exact hr' y hy
        · intro b o z1 z2 z3
          rw [upd_ne z2]
          exact sm _ _ (fr1 b o z1 z2 z3)
      · refine ⟨_, rfl, s, _, _, _, rfl, rfl, SqL.of h1', atI0, .inl ⟨rfl, _, SqL.of h2'⟩, A, _, _, 0, _, rfl, rfl, h2', by decide, by decide, (ixN_seq (ix0 _)).1, rfl, ?_⟩
        refine ⟨r.length, by simp, _, rfl, ⟨⟨r, cells, cnt, (upd_ne hS1.nsA).trans h1', upd_same, (upd_ne hS1.nAB.symm).trans h3', hr', p2, l0, l1, by simp at l2; omega, c0, c1⟩, hS1.nAB, hS1.nsA, hS1.nsB⟩, ?_, r, upd_same, rfl⟩
        intro b o z1 z2 z3
        rw [upd_ne z2]
        exact sm _ _ (fr1 b o z1 z2 z3)
end
end Fw
namespace Fw
open PySem PySem.Spec PyProof.Rows L2

structure Def (K : PySem.W.Frag) (mg : Str → Option Value) (x : Str) (st : Stmt) (f : Addr) (fd : FuncData) (ps : List Str) : Prop where
  F : Fun K x x st f fd
  b : Binds K fd ps []
  g : mg x = some (.ref f)

section
variable {s A B : Addr} {H H1 H2 : Hp} {c : Nat}
theorem StreamAt.ne (hS : StreamAt H s A B c) {L : Addr} (h : H L = none) : s ≠ L ∧ A ≠ L ∧ B ≠ L := by
  obtain ⟨big, cells, cnt, h1, h2, h3, _⟩ := hS.ex
  exact ⟨ne_of_none h1 h, ne_of_none h2 h, ne_of_none h3 h⟩
theorem StreamAt.put (hS : StreamAt H s A B c) {L : Addr} {o : HO} (n : s ≠ L ∧ A ≠ L ∧ B ≠ L) : StreamAt (upd H L o) s A B c := by
  obtain ⟨big, cells, cnt, h1, h2, h3, r⟩ := hS.ex
  exact ⟨⟨big, cells, cnt, (upd_ne n.1).trans h1, (upd_ne n.2.1).trans h2, (upd_ne n.2.2).trans h3, r⟩, hS.nAB, hS.nsA, hS.nsB⟩
theorem StreamAt.mono (hS : StreamAt H s A B c) {c' : Nat} (h : c ≤ c') : StreamAt H s A B c' := by
  obtain ⟨big, cells, cnt, h1, h2, h3, p1, p2, l0, l1, l2, c0, c1⟩ := hS.ex
  exact ⟨⟨big, cells, cnt, h1, h2, h3, p1, p2, l0, l1, l2, c0, by omega⟩, hS.nAB, hS.nsA, hS.nsB⟩
theorem StreamAt.same (hS : StreamAt H s A B c) (e : Same H H1) : StreamAt H1 s A B c := by
  obtain ⟨big, cells, cnt, h1, h2, h3, r⟩ := hS.ex
  exact ⟨⟨big, cells, cnt, e _ _ h1, e _ _ h2, e _ _ h3, r⟩, hS.nAB, hS.nsA, hS.nsB⟩
theorem StreamAt.tup (hS : StreamAt H s A B c) {t : Addr} {xs : List V} (h : H t = some (.tup xs)) : t ≠ s ∧ t ≠ A ∧ t ≠ B := by
  obtain ⟨big, cells, cnt, h1, h2, h3, _⟩ := hS.ex
  exact ⟨ne_of h h1 (by intro q; cases q), ne_of h h2 (by intro q; cases q), ne_of h h3 (by intro q; cases q)⟩
theorem Fr.refl : Fr s A H H := fun _ _ _ _ e => e
theorem Fr.free (f : Fr s A H H1) (hS : StreamAt H1 s A B c) {L : Addr} (h : H1 L = none) : H L = none := by
  obtain ⟨n1, n2, _⟩ := hS.ne h
  cases e : H L with
  | none => rfl
  | some o =>
    rw [f L o n1.symm n2.symm e] at h
    cases h
theorem Fr.put (f : Fr s A H H1) {L : Addr} {o : HO} (h : H L = none) : Fr s A H (upd H1 L o) := fun b u z1 z2 e => by
  rw [upd_ne (ne_of_none e h)]
  exact f b u z1 z2 e
theorem Fr.tup (f : Fr s A H H1) (hS : StreamAt H s A B c) {t : Addr} {xs : List V} (h : H t = some (.tup xs)) : H1 t = some (.tup xs) :=
  f t _ (hS.tup h).1 (hS.tup h).2.1 h
end

/-- a house, as it stands in memory -/
def HouseAt (H : Hp) (h : Addr) (n : Int) (D : List (Int × Int)) : Prop := ∃ (q : Addr) (ps : List (Addr × Int × Int)),
  H h = some (.tup [.int n, .ref q]) ∧ H q = some (.tup (ps.map fun p => V.ref p.1)) ∧ D = ps.map (·.2) ∧ ∀ p ∈ ps, H p.1 = some (.tup [.int p.2.1, .int p.2.2])
theorem HouseAt.same {H H' : Hp} {h : Addr} {n : Int} {D : List (Int × Int)} (x : HouseAt H h n D) (e : Same H H') : HouseAt H' h n D := by
  obtain ⟨q, ps, h1, h2, h3, h4⟩ := x
  exact ⟨q, ps, e _ _ h1, e _ _ h2, h3, fun p hp => e _ _ (h4 p hp)⟩
theorem HouseAt.fr {s A B : Addr} {c : Nat} {H H' : Hp} {h : Addr} {n : Int} {D : List (Int × Int)} (x : HouseAt H h n D) (hS : StreamAt H s A B c) (e : Fr s A H H') : HouseAt H' h n D := by
  obtain ⟨q, ps, h1, h2, h3, h4⟩ := x
  exact ⟨q, ps, e.tup hS h1, e.tup hS h2, h3, fun p hp => e.tup hS (h4 p hp)⟩

theorem perm_map_inv {α β : Type} {f : α → β} : ∀ {ys zs : List β}, ys.Perm zs → ∀ {ps : List α}, zs = ps.map f → ∃ ps' : List α, ps'.Perm ps ∧ ys = ps'.map f := by
  intro ys zs h
  induction h with
  | nil =>
    intro ps e
    cases ps with
    | nil => exact ⟨[], .nil, rfl⟩
    | cons p r => cases e
  | cons x _ ih =>
    intro ps e
    cases ps with
    | nil => cases e
    | cons p r =>
      rw [List.map_cons] at e
      injection e with e1 e2
      obtain ⟨ps', hp, he⟩ := ih e2
      exact ⟨p :: ps', hp.cons p, by rw [he, List.map_cons, e1]⟩
  | swap x y l =>
    intro ps e
    match ps, e with
    | p :: q :: r, e =>
      rw [List.map_cons, List.map_cons] at e
      injection e with e1 e2
      injection e2 with e2 e3
      exact ⟨q :: p :: r, List.Perm.swap p q r, by rw [List.map_cons, List.map_cons, e1, e2, e3]⟩
  | trans _ _ ih1 ih2 =>
    intro ps e
    obtain ⟨p2, h2, e2⟩ := ih2 e
    obtain ⟨p1, h1, e1⟩ := ih1 e2
    exact ⟨p1, h1.trans h2, e1⟩

theorem rg_vi (n : Int) : rgV 0 n = vi ((List.range n.toNat).map fun (i : Nat) => (i : Int)) := by
  unfold rgV vi
  rw [List.map_map, Int.sub_zero]
  refine List.map_congr_left fun i _ => ?_
  show V.int (0 + (i : Int)) = V.int (i : Int)
  rw [Int.zero_add]
def rg (n : Int) : List Int := (List.range n.toNat).map fun (i : Nat) => (i : Int)
theorem mem_rg {n x : Int} : x ∈ rg n ↔ 0 ≤ x ∧ x < n := by
  unfold rg
  rw [List.mem_map]
  constructor
  · rintro ⟨i, hi, rfl⟩
    rw [List.mem_range] at hi
    omega
  · rintro ⟨h0, h1⟩
    exact ⟨x.toNat, List.mem_range.mpr (by omega), by omega⟩
theorem rg_len (n : Int) : (rg n).length = n.toNat := by simp [rg]
theorem rg_nodup (n : Int) : (rg n).Nodup := (range_up n.toNat).imp fun h => by omega

theorem vi_erase (ns : List Int) (i : Nat) : (vi ns).eraseIdx i = vi (ns.eraseIdx i) := by
  induction ns generalizing i with
  | nil => rfl
  | cons n ns ih =>
    cases i with
    | zero => rfl
    | succ i =>
      show V.int n :: (vi ns).eraseIdx i = V.int n :: vi (ns.eraseIdx i)
      rw [ih]
theorem erase_perm : ∀ {ns : List Int} {i : Nat} (h : i < ns.length), (ns[i] :: ns.eraseIdx i).Perm ns
  | n :: ns, 0, _ => List.Perm.refl _
  | n :: ns, i + 1, h => by
    have h' : i < ns.length := by simpa using h
    show (ns[i] :: n :: ns.eraseIdx i).Perm (n :: ns)
    exact (List.Perm.swap _ _ _).trans ((erase_perm (by simpa using h)).cons n)
theorem lacks {r : Int} (h0 : 0 ≤ r) (h1 : r < 3) : ∃ lk : Int, atI [V.int 0, V.int 0, V.int 6] r = some (.int lk) ∧ (lk = 0 ∨ lk = 6) := by
  have : r = 0 ∨ r = 1 ∨ r = 2 := by omega
  rcases this with rfl | rfl | rfl
  · exact ⟨0, atI0, .inl rfl⟩
  · exact ⟨0, atI1, .inl rfl⟩
  · exact ⟨6, atI2, .inr rfl⟩
theorem pick3 {r r1 : Int} {i : Nat} (h0 : 0 ≤ r) (h1 : r < 3) (a0 : 0 ≤ r1) (a1 : r1 < 1 + (i : Int)) : ∃ ix : Int, atI [V.int (1 + (i : Int) - 1), V.int 0, V.int r1] r = some (.int ix) ∧ 0 ≤ ix ∧ ix ≤ i := by
  have : r = 0 ∨ r = 1 ∨ r = 2 := by omega
  rcases this with rfl | rfl | rfl
  · exact ⟨_, atI0, by omega, by omega⟩
  · exact ⟨_, atI1, by omega, by omega⟩
  · exact ⟨_, atI2, by omega, by omega⟩
/-- the two ints of a pair in memory -/
def twoOf (H : Hp) (x : V) : Int × Int := match x with
  | .ref t => match H t with
    | some (.tup [.int i, .int j]) => (i, j)
    | _ => (0, 0)
  | _ => (0, 0)
theorem twoOf_eq {H : Hp} {t : Addr} {d : Int × Int} (h : H t = some (.tup [.int d.1, .int d.2])) : twoOf H (.ref t) = d := by
  unfold twoOf
  simp only [h]
theorem Dlt_of {x y : Int × Int} (h : ¬ (y.1 < x.1 ∨ (y.1 = x.1 ∧ y.2 < x.2))) (n : x ≠ y) : Dlt x y := by
  unfold Dlt
  have : ¬ (x.1 = y.1 ∧ x.2 = y.2) := fun e => n (Prod.ext e.1 e.2)
  omega
/-- what stands while the doors are made -/
structure Mid (H : Hp) (s A B O R : Addr) (ord : List Int) (c : Nat) (ps : List (Addr × Int × Int)) (H' : Hp) : Prop where
  st : StreamAt H' s A B c
  frm : Fr s A H H'
  eO : H' O = some (.lst (vi ord))
  eR : H' R = some (.lst (ps.map fun p => V.ref p.1))
  eP : ∀ p ∈ ps, H' p.1 = some (.tup [.int p.2.1, .int p.2.2])
theorem Mid.fr {H H1 H2 : Hp} {s A B O R : Addr} {ord : List Int} {c c' : Nat} {ps : List (Addr × Int × Int)} (m : Mid H s A B O R ord c ps H1) (hS : StreamAt H2 s A B c') (f : Fr s A H1 H2) (zO : s ≠ O ∧ A ≠ O ∧ B ≠ O) (zR : s ≠ R ∧ A ≠ R ∧ B ≠ R) : Mid H s A B O R ord c' ps H2 :=
  ⟨hS, m.frm.trans f, f _ _ zO.1.symm zO.2.1.symm m.eO, f _ _ zR.1.symm zR.2.1.symm m.eR, fun p hp => f.tup m.st (m.eP p hp)⟩
theorem Mid.new {H H1 : Hp} {s A B O R : Addr} {ord : List Int} {c : Nat} {ps : List (Addr × Int × Int)} (m : Mid H s A B O R ord c ps H1) {N : Addr} {o : HO} (h : H1 N = none) : Mid H s A B O R ord c ps (upd H1 N o) :=
  ⟨m.st.same (same_upd h), m.frm.put (m.frm.free m.st h), same_upd h _ _ m.eO, same_upd h _ _ m.eR, fun p hp => same_upd h _ _ (m.eP p hp)⟩
theorem if_by {t : TT} {tb te : TS} {D : Ends} {σ : L2.St} {H : Hp} (Good : Bool → Hp → Prop) (hb : ∀ H', Good true H' → tb D σ H') (he : ∀ H', Good false H' → te D σ H')
    (h : ∀ Q : Bool → Hp → Prop, (∀ b H', Good b H' → Q b H') → t σ H Q) : tIfS t tb te D σ H := h _ fun b H' g => by
  cases b with
  | true => exact iteT (hb _ g)
  | false => exact iteF (he _ g)
section
variable {P : Program} {w : World} {K : PySem.W.Frag} {mg : Str → Option Value} {base : Heap}
def spHouse : Sp := fun vs H Q _ => ∃ (s A B : Addr) (c : Nat) (least most : Int), vs = [.ref s, .int least, .int most] ∧ StreamAt H s A B c ∧ c < 2 ^ 30 ∧ 1 ≤ least ∧ least ≤ most ∧ most ≤ 8 ∧
  ∀ H' h n D, StreamAt H' s A B (c + 40) → Fr s A H H' → HouseAt H' h n D → Forest n D → least ≤ n → n ≤ most → Q (.ref h) H'

abbrev nHouse : List Str := ["_law_stream_here", "_law_least", "_law_most", "_law_rooms", "_law_left", "_law_order", "_law_doors", "_law_lacks", "_law_k", "_law_on"]
theorem scHouse : FnScope nHouse ["_law_stream_here", "_law_least", "_law_most"] (defScope sHouse) := ⟨rfl, rfl, rfl, by decide +kernel, rfl, by decide +kernel, by decide +kernel⟩
theorem ok_house {f fD : Addr} {fd fdD : FuncData} (F : Fun K "_law_house" "_law_house" sHouse f fd) (T : Nm mg) (D : Def K mg "_law_draw" sDraw fD fdD ["_law_stream_here", "_law_many"]) : FnOk P w K mg base CX0 2 f fd ["_law_stream_here", "_law_least", "_law_most"] spHouse := by
  have GD : FnOk P w K mg base CX0 1 fD fdD ["_law_stream_here", "_law_many"] spDraw := ok_draw D.F T
  refine F.ok scHouse (fun vs H Q E h => ?_) (fun cdv A outer s H vs Q E hr h => ?_)
  · obtain ⟨s, A, B, c, least, most, rfl, _⟩ := h
    rfl
  · obtain ⟨s, A, B, c, least, most, rfl, hS, hc, hl1, hl2, hl3, q⟩ := h
    refine ⟨_, pss_cons (ps_set (i := 3) scHouse.nd rfl (.inl rfl) (pe_op op_add (pv 1) (pe_call GD hr (by rfl) D.g D.F.kp D.b .nil pass0 (pa_cons (pv 0) (pa_cons (pe_op op_add (pe_op op_sub (pv 2) (pv 1)) pe_int) pa_nil)))))
      (pss_cons (ps_par3 (i := 4) (j := 5) (l := 6) (by rfl) scHouse.nd rfl rfl rfl (by decide) (by decide) (by decide) rfl rfl rfl (pa_cons (pe_listRg (by rfl) (by rfl) T.list (prg_1 (by rfl) T.range (pv 3))) (pa_cons (pe_lst pa_nil) (pa_cons (pe_lst pa_nil) pa_nil))) (by rfl))
      (pss_cons (ps_while PassesOwn.never (pt_cmpR (op_neD hr.units) (pv 4) (pe_lst pa_nil) (nomark _))
        (pss_one (ps_expr (pe_bm PySem.F.plainAttrs_list PySem.F.slot_list_append PySem.F.type_list_append mt_append (pv 5) (pa_cons
          (pe_bm PySem.F.plainAttrs_list PySem.F.slot_list_pop PySem.F.type_list_pop mt_popAt (pv 4) (pa_cons
            (pe_call GD hr (by rfl) D.g D.F.kp D.b .nil pass0 (pa_cons (pv 0) (pa_cons (pe_callB call_len_seq (by rfl) T.len PySem.boot_len (pa_cons (pv 4) pa_nil)) pa_nil))) pa_nil)) pa_nil)))))
      (pss_cons (ps_set (i := 7) scHouse.nd rfl (.inl rfl) (pe_ix ix_list (pe_lst (pa_cons pe_int (pa_cons pe_int (pa_cons pe_int pa_nil)))) (pe_call GD hr (by rfl) D.g D.F.kp D.b .nil pass0 (pa_cons (pv 0) (pa_cons pe_int pa_nil))) (fun _ _ => rfl)))
      (pss_cons (ps_for PassesOwn.never rfl (pi_range2 (by rfl) T.range (pa_cons pe_int (pa_cons (pv 3) pa_nil))) (pg_name (i := 8) scHouse.nd rfl (Or.inl rfl))
        (pss_cons (ps_set (i := 9) scHouse.nd rfl (.inl rfl) (pe_ix ix_list (pv 5) (pe_ix ix_list (pe_lst (pa_cons (pe_op op_sub (pv 8) pe_int) (pa_cons pe_int (pa_cons (pe_call GD hr (by rfl) D.g D.F.kp D.b .nil pass0 (pa_cons (pv 0) (pa_cons (pv 8) pa_nil))) pa_nil))))
            (pe_call GD hr (by rfl) D.g D.F.kp D.b .nil pass0 (pa_cons (pv 0) (pa_cons pe_int pa_nil))) (fun _ _ => rfl)) (fun _ _ => rfl)))
        (pss_one (ps_if (PW.pt (pw_or (pt_cmpR op_eq (pv 7) pe_int (nomark _)) (pw_or1 (pt_cmpR op_gt (pe_call GD hr (by rfl) D.g D.F.kp D.b .nil pass0 (pa_cons (pv 0) (pa_cons (pv 7) pa_nil))) pe_int (nomark _)))))
          (pss_one (ps_expr (pe_bm PySem.F.plainAttrs_list PySem.F.slot_list_append PySem.F.type_list_append mt_append (pv 6) (pa_cons (pe_tup
            (pa_cons (pe_callB (call_min2 rfl) (by rfl) T.min (by decide +kernel) (pa_cons (pv 9) (pa_cons (pe_ix ix_list (pv 5) (pv 8) (fun _ _ => rfl)) pa_nil)))
            (pa_cons (pe_callB (call_max2 rfl) (by rfl) T.max (by decide +kernel) (pa_cons (pv 9) (pa_cons (pe_ix ix_list (pv 5) (pv 8) (fun _ _ => rfl)) pa_nil))) pa_nil))) pa_nil))))
          pss_nil))))
      (pss_one (ps_ret (pe_tup (pa_cons (pv 3) (pa_cons (pe_callTy call_tuple_of (by rfl) T.tuple (by decide +kernel) (pa_cons (pe_callB cr_sortedPO (by rfl) T.sorted (by decide +kernel) (pa_cons (pv 6) pa_nil)) pa_nil)) pa_nil))))))))), ?_⟩
    refine ⟨_, rfl, _, rfl, _, rfl, _, rfl, _, _, rfl, rfl, _, _, rfl, rfl, s, A, B, c, _, rfl, hS, by omega, by omega, by omega, fun H1 r hS1 fr1 r0 r1 => ⟨_, _, rfl, rfl, ?_⟩⟩
    show gName 3 (V.int (least + r)) _ _ _
    generalize hn : least + r = n
    have n0 : 1 ≤ n := by omega
    have n1 : n ≤ 8 := by omega
    have n2 : least ≤ n := by omega
    have n3 : n ≤ most := by omega
    clear hn r0 r1
    refine ⟨_, rfl, _, rfl, RgOk.of_le (by omega) (by omega) (by omega) (by omega), fun L hL => ⟨Nat.zero_le _, fun O hO => ⟨Nat.zero_le _, fun R hR => ⟨_, _, _, rfl, ?_⟩⟩⟩⟩
    rw [rg_vi] at hR hO ⊢
    rw [show ((List.range n.toNat).map fun (i : Nat) => (i : Int)) = rg n from rfl] at hR hO ⊢
    have nLO : O ≠ L := fun e => by rw [e, upd_same] at hO; cases hO
    have hO1 : H1 O = none := by rw [upd_ne nLO] at hO; exact hO
    have nOR : R ≠ O := fun e => by rw [e, upd_same] at hR; cases hR
    have nLR : R ≠ L := fun e => by rw [e, upd_ne nLO.symm, upd_same] at hR; cases hR
    have hR1 : H1 R = none := by rw [upd_ne nOR, upd_ne nLR] at hR; exact hR
    have zL := hS1.ne hL
    have zO := hS1.ne hO1
    have zR := hS1.ne hR1
    have gL := fr1.free hS1 hL
    have gO := fr1.free hS1 hO1
    have gR := fr1.free hS1 hR1
    have hS2 : StreamAt (upd (upd (upd H1 L (.lst (vi (rg n)))) O (.lst [])) R (.lst [])) s A B (c + 1) := ((hS1.put zL).put zO).put zR
    have fr2 : Fr s A H (upd (upd (upd H1 L (.lst (vi (rg n)))) O (.lst [])) R (.lst [])) := ((fr1.put gL).put gO).put gR
    -- while left != []: order.append(left.pop(draw(s, len(left))))
    refine ⟨fun m σ H' => ∃ (lft ord : List Int) (c' : Nat), σ = [some (.ref s), some (.int least), some (.int most), some (.int n), some (.ref L), some (.ref O), some (.ref R), none, none, none] ∧ StreamAt H' s A B c' ∧ c' + lft.length ≤ c + 1 + n.toNat ∧
        Fr s A H H' ∧ H' L = some (.lst (vi lft)) ∧ H' O = some (.lst (vi ord)) ∧ H' R = some (.lst []) ∧ (ord ++ lft).Perm (rg n) ∧ m = lft.length,
      ⟨_, rg n, [], c + 1, rfl, hS2, by rw [rg_len]; omega, fr2, ?_, ?_, upd_same, List.Perm.refl _, rfl⟩, ?_⟩
    · rw [upd_ne nLR.symm, upd_ne nLO.symm, upd_same]
    · rw [upd_ne nOR.symm, upd_same]
      rfl
    clear hS2 fr2 hR hO
    rintro m σ H2 ⟨lft, ord, c2, rfl, hS2, hc2, fr2, eL, eO, eR, pm, rfl⟩
    have plen : ord.length + lft.length = n.toNat := by
      have := pm.length_eq
      rw [List.length_append, rg_len] at this
      exact this
    refine ⟨_, rfl, Nat.zero_le _, fun e he => ?_⟩
    have sm : Same H2 (upd H2 e (.lst [])) := same_upd he
    have hS3 := hS2.same sm
    have fr3 := fr2.put (o := .lst []) (fr2.free hS2 he)
    have eL3 := sm _ _ eL
    have eO3 := sm _ _ eO
    have eR3 := sm _ _ eR
    refine ⟨.list (lft.map .int), .list [], .lst (SqL.of eL3) (dp_ints lft), .lst (SqL.of upd_same) .nil, shaped_list lft, shaped_list [], _, rfl, ?_⟩
    clear eL eO eR hS2 fr2
    generalize upd H2 e (.lst []) = H3 at *
    clear sm he
    rw [eqv_nil]
    cases lft with
    | cons x0 lft0 =>
      generalize hlf : x0 :: lft0 = lft at *
      have lpos : 0 < lft.length := by rw [← hlf]; simp
      have lem : lft.isEmpty = false := by rw [← hlf]; rfl
      rw [lem]
      clear lem hlf
      refine iteT ⟨_, fun _ _ h => h, ?_⟩
      refine ⟨_, rfl, .inl ⟨rfl, _, SqL.of eO3⟩, _, rfl, .inl ⟨rfl, _, SqL.of eL3⟩, _, rfl, _, rfl, L, _, rfl, .inl (SqL.of eL3), s, A, B, c2, _, rfl, hS3, by omega, ?_, ?_, fun H4 r hS4 fr4 r0 r1 => ?_⟩
      · rw [List.length_map]; omega
      · rw [List.length_map]; omega
      rw [List.length_map] at r1
      have eL4 := fr4 _ _ zL.1.symm zL.2.1.symm eL3
      have eO4 := fr4 _ _ zO.1.symm zO.2.1.symm eO3
      have eR4 := fr4 _ _ zR.1.symm zR.2.1.symm eR3
      have hj : r.toNat < lft.length := by omega
      have ixr : ixN (vi lft).length r = some r.toNat := by
        unfold ixN
        rw [List.length_map, if_pos r0, if_pos r1]
      have gx : (vi lft)[r.toNat]? = some (V.int lft[r.toNat]) := by
        rw [List.getElem?_map, List.getElem?_eq_getElem hj]
        rfl
      refine ⟨L, _, r, r.toNat, _, rfl, rfl, eL4, by omega, by omega, (ixN_seq ixr).1, gx, ?_⟩
      have eO5 : (upd H4 L (.lst ((vi lft).eraseIdx r.toNat))) O = some (.lst (vi ord)) := (upd_ne nLO).trans eO4
      refine ⟨O, _, _, rfl, rfl, eO5, ?_, ?_⟩
      · rw [List.length_map]
        exact small1000 (by omega)
      have el : (lft.eraseIdx r.toNat).length = lft.length - 1 := by
        rw [List.length_eraseIdx, if_pos hj]
      refine ⟨(lft.eraseIdx r.toNat).length, by omega, lft.eraseIdx r.toNat, ord ++ [lft[r.toNat]], c2 + 1, rfl, ((hS4.put zL).put zO), by omega, ((fr3.trans fr4).put gL).put gO, ?_, ?_, ?_, ?_, rfl⟩
      · rw [upd_ne nLO.symm, upd_same, vi_erase]
      · rw [upd_same, vi_app]
        rfl
      · rw [upd_ne nOR, upd_ne nLR]
        exact eR4
      · refine List.Perm.trans ?_ pm
        rw [List.append_assoc]
        refine List.Perm.append_left ord ?_
        exact erase_perm hj
    | nil =>
      refine iteF ?_
      rw [List.append_nil] at pm
      clear eL3 zL gL hL nLO nLR hS1 fr1 hO1 hR1
      simp only [List.length_nil, Nat.add_zero] at hc2 plen
      have zO3 := zO
      -- lacks = [0, 0, 6][draw(s, 3)]
      refine ⟨by show 3 ≤ sizeLine; decide, fun M hM => ?_⟩
      have sm : Same H3 (upd H3 M (.lst [.int 0, .int 0, .int 6])) := same_upd hM
      refine ⟨_, rfl, s, A, B, c2, 3, rfl, hS3.same sm, by omega, by decide, by decide, fun H4 r hS4 fr4 r0 r1 => ?_⟩
      have zM := hS3.ne hM
      have eM4 := fr4 M _ zM.1.symm zM.2.1.symm upd_same
      have eO4 := fr4 _ _ zO.1.symm zO.2.1.symm (sm _ _ eO3)
      have eR4 := fr4 _ _ zR.1.symm zR.2.1.symm (sm _ _ eR3)
      have fr4' : Fr s A H H4 := (fr3.put (fr3.free hS3 hM)).trans fr4
      obtain ⟨lk, elk, hlk⟩ := lacks r0 r1
      refine ⟨M, _, _, _, rfl, rfl, SqL.of eM4, elk, ?_⟩
      clear eM4 fr4 sm hM zM elk eO3 eR3 fr3 hS3
      -- for k in range(1, rooms)
      refine ⟨_, rfl, 1, n, rfl, ⟨by decide, by decide, by omega, by omega⟩, for_range (lo := 1) (n := (n - 1).toNat) (fun i σ H' => ∃ (cc : Nat) (y8 y9 : Option V) (ps : List (Addr × Int × Int)),
        σ = [some (.ref s), some (.int least), some (.int most), some (.int n), some (.ref L), some (.ref O), some (.ref R), some (.int lk), y8, y9] ∧ cc ≤ c2 + 1 + 3 * i ∧ Mid H s A B O R ord cc ps H' ∧
        ps.length ≤ i ∧ ∃ U E, Grown U E ∧ (∀ x, x ∈ U ↔ x ∈ ord.take (i + 1)) ∧ (ps.map (·.2)).Perm E ∧ U.length = i + 1) ⟨c2 + 1, none, none, [], rfl, by omega, ⟨hS4, fr4', eO4, eR4, fun p hp => nomatch hp⟩, Nat.le_refl _, ?_⟩ ?_ ?_⟩
      · have h0 : 0 < ord.length := by omega
        refine ⟨[ord[0]], [], .room _ .nil (by simp), fun x => ?_, .nil, rfl⟩
        rw [List.take_add_one, List.getElem?_eq_getElem h0]
        simp
      · rintro i σ H5 hi ⟨cc, y8, y9, ps, rfl, hcc, M5, hps, U, E, g, hU, pE, lU⟩
        have hi1 : i + 1 < ord.length := by omega
        refine ⟨_, rfl, _, rfl, _, _, rfl, rfl, _, rfl, _, rfl, s, A, B, cc, _, rfl, M5.st, by omega, by omega, by omega, fun H6 r1 hS6 fr6 r10 r11 => ?_⟩
        have M6 := M5.fr hS6 fr6 zO zR
        refine ⟨by show 3 ≤ sizeLine; decide, fun N hN => ?_⟩
        have M7 := M6.new (o := .lst [.int (1 + (i : Int) - 1), .int 0, .int r1]) hN
        refine ⟨_, rfl, s, A, B, cc + 1, 3, rfl, M7.st, by omega, by decide, by decide, fun H8 r2 hS8 fr8 r20 r21 => ?_⟩
        have M8 := M7.fr hS8 fr8 zO zR
        have zN := M6.st.ne hN
        have eN8 := fr8 N _ zN.1.symm zN.2.1.symm upd_same
        obtain ⟨ix, eix, hix0, hix1⟩ := pick3 (i := i) r20 r21 r10 r11
        have hixl : ix.toNat < ord.length := by omega
        have eon : atI (vi ord) ix = some (V.int ord[ix.toNat]) := by
          have := atI_nat (xs := vi ord) (j := ix.toNat) (v := V.int ord[ix.toNat]) (by rw [List.getElem?_map, List.getElem?_eq_getElem hixl]; rfl)
          rw [show ((ix.toNat : Nat) : Int) = ix by omega] at this
          exact this
        have ekk : atI (vi ord) (1 + (i : Int)) = some (V.int ord[i + 1]) := by
          have := atI_nat (xs := vi ord) (j := i + 1) (v := V.int ord[i + 1]) (by rw [List.getElem?_map, List.getElem?_eq_getElem hi1]; rfl)
          rw [show ((i + 1 : Nat) : Int) = 1 + (i : Int) by omega] at this
          exact this
        refine ⟨N, _, _, _, rfl, rfl, SqL.of eN8, eix, O, _, _, _, rfl, rfl, SqL.of M8.eO, eon, ?_⟩
        clear eN8 fr8 zN hN M7 M6 fr6 eix
        have nd : ord.Nodup := pm.nodup_iff.mpr (rg_nodup n)
        have nv : ord[i + 1] ∉ U := fun m => by
          obtain ⟨j, hj, e⟩ := List.mem_take_iff_getElem.mp ((hU _).mp m)
          exact (List.pairwise_iff_getElem.mp nd) j (i + 1) (by omega) hi1 (by omega) e
        have mu : ord[ix.toNat] ∈ U := (hU _).mpr (List.mem_take_iff_getElem.mpr ⟨ix.toNat, by omega, rfl⟩)
        have hU' : ∀ x, x ∈ (ord[i + 1] :: U) ↔ x ∈ ord.take (i + 1 + 1) := fun x => by
          rw [List.take_add_one (i := i + 1), List.getElem?_eq_getElem hi1, List.mem_append, List.mem_cons, hU]
          simp [or_comm]
        dsimp only [gName]
        refine if_by (fun _ H' => ∃ c9, c9 ≤ cc + 3 ∧ Mid H s A B O R ord c9 ps H') ?_ ?_ ?_
        · rintro H9 ⟨c9, hc9, M9⟩
          refine ⟨_, rfl, .inl ⟨rfl, _, SqL.of M9.eR⟩, _, rfl, _, rfl, _, rfl, O, _, _, _, rfl, rfl, SqL.of M9.eO, ekk, _, _, rfl, _, rfl, _, rfl, _, rfl, O, _, _, _, rfl, rfl, SqL.of M9.eO, ekk, _, _, rfl, by show 2 ≤ sizeLine; decide, fun t ht => ?_⟩
          generalize hu : ord[ix.toNat] = u at *
          generalize hv : ord[i + 1] = v at *
          have M10 := M9.new (o := .tup [.int (if v < u then v else u), .int (if v > u then v else u)]) ht
          refine ⟨R, _, _, rfl, rfl, M10.eR, ?_, ?_⟩
          · rw [List.length_map]
            exact small1000 (by omega)
          refine ⟨c9, _, _, ps ++ [(t, if v < u then v else u, if v > u then v else u)], rfl, by omega, ⟨M10.st.put zR, M10.frm.put gR, ?_, ?_, ?_⟩, ?_, v :: U, _, .door v u (if v < u then v else u) (if v > u then v else u) g nv mu ?_, hU', ?_, ?_⟩
          · rw [upd_ne nOR.symm]
            exact M10.eO
          · rw [upd_same, List.map_append]
            rfl
          · intro p hp
            rcases List.mem_append.mp hp with hp | hp
            · have h1 := M10.eP p hp
              rw [upd_ne (ne_of h1 M10.eR (by intro q; cases q))]
              exact h1
            · rw [List.mem_singleton.mp hp]
              have h1 : (upd H9 t (.tup [.int (if v < u then v else u), .int (if v > u then v else u)])) t = some (.tup [.int (if v < u then v else u), .int (if v > u then v else u)]) := upd_same
              rw [upd_ne (ne_of h1 M10.eR (by intro q; cases q))]
              exact h1
          · rw [List.length_append, List.length_singleton]
            omega
          · constructor
            · split <;> omega
            · split <;> omega
          · rw [List.map_append]
            exact (List.perm_append_comm).trans (pE.cons _)
          · rw [List.length_cons, lU]
        · rintro H9 ⟨c9, hc9, M9⟩
          exact ⟨c9, _, _, ps, rfl, by omega, M9, by omega, _, _, .room _ g nv, hU', pE, by rw [List.length_cons, lU]⟩
        · intro QQ hQ
          refine ⟨_, rfl, rfl, _, rfl, ?_⟩
          refine ite2 (fun _ => ?_) (fun hz => ?_)
          · exact hQ _ _ ⟨cc + 2, by omega, M8⟩
          · have hlk6 : lk = 6 := by
              rcases hlk with e | e
              · subst e
                exact absurd (decide_eq_true rfl) hz
              · exact e
            subst hlk6
            refine ⟨_, rfl, _, rfl, s, A, B, cc + 2, 6, rfl, M8.st, by omega, by decide, by decide, fun H9 r3 hS9 fr9 _ _ => ?_⟩
            exact ⟨_, _, rfl, rfl, _, rfl, hQ _ _ ⟨cc + 3, by omega, M8.fr hS9 fr9 zO zR⟩⟩
      · rintro σ H5 ⟨cc, y8, y9, ps, rfl, hcc, M5, hps, U, E, g, hU, pE, lU⟩
        have kz : ∀ z ∈ ps, twoOf H5 (.ref z.1) = z.2 := fun z hz => twoOf_eq (M5.eP z hz)
        refine ⟨_, rfl, _, rfl, R, _, twoOf H5, rfl, SqL.of M5.eR, ?_, fun ys p hsrt hstb hp => ?_⟩
        · intro x hx
          obtain ⟨z, hz, rfl⟩ := List.mem_map.mp hx
          refine ⟨z.1, rfl, ?_⟩
          rw [kz z hz]
          exact M5.eP z hz
        obtain ⟨ps', pp, rfl⟩ := perm_map_inv hstb.perm rfl
        have upD : (ps'.map (·.2)).Pairwise Dlt := by
          have nd : (ps'.map (·.2)).Nodup := ((pp.map _).trans pE).nodup_iff.mpr g.nodup
          rw [List.nodup_iff_pairwise_ne, List.pairwise_map] at nd
          rw [List.pairwise_map]
          have hs : ps'.Pairwise fun x y => ltP (twoOf H5) (.ref y.1) (.ref x.1) = false := List.pairwise_map.mp hsrt
          refine (hs.and nd).imp_of_mem fun {x y} hx hy h => ?_
          have h1 : SrtO.lexB y.2 x.2 = false := by
            have := h.1
            unfold ltP at this
            rw [kz x (pp.mem_iff.mp hx), kz y (pp.mem_iff.mp hy)] at this
            exact this
          exact Dlt_of (SrtO.lexB_no.mp h1) h.2
        have M6 := M5.new (o := .lst (ps'.map fun p => V.ref p.1)) hp
        refine ⟨p, _, rfl, .inl ⟨SqL.of upd_same, fun d hd => ?_⟩⟩
        have M7 := M6.new (o := .tup (ps'.map fun p => V.ref p.1)) hd
        refine ⟨by show 2 ≤ sizeLine; decide, fun h hh => ?_⟩
        have M8 := M7.new (o := .tup [.int n, .ref d]) hh
        have tk : ord.take ((n - 1).toNat + 1) = ord := List.take_of_length_le (by omega)
        refine q _ h n (ps'.map (·.2)) (M8.st.mono (by omega)) M8.frm ⟨d, ps', upd_same, ?_, rfl, fun z hz => M8.eP z (pp.mem_iff.mp hz)⟩ ⟨U, E, g, fun x => ?_, (pp.map _).trans pE, by omega, upD⟩ n2 n3
        · rw [upd_ne (fun e => ?_), upd_same]
          rw [← e, upd_same] at hh
          cases hh
        · rw [hU, tk, pm.mem_iff, mem_rg]
end
end Fw
namespace Fw
open PySem PySem.Spec PyProof.Rows L2

/-! ### x in a tuple, by data -/
def rInT (K : PySem.W.Frag) : R2 := fun x y H Q => ∃ d ds, Dp K H x d ∧ Dp K H y (.tuple ds) ∧ SeqAt.shaped d = true ∧ SeqAt.shaped (.tuple ds) = true ∧ Q (.bl (ds.any fun z => PyData.eqv z d)) H
theorem op_inT {X : Cx} (hu : X.A.units + 65 < cLine) : OpR X (compareOp .In) (rInT X.K) := by
  intro pins s σ H x y v u Q I rx ry h
  obtain ⟨d, ds, hd, he, sd, se, q⟩ := h
  obtain ⟨as, r1⟩ := Dp.reads I d x v hd rx
  obtain ⟨bs, r2⟩ := Dp.reads I (.tuple ds) y u he ry
  exact SeqAt.in_tuple_reads r2 r1 (SeqAt.canLay_of_shaped se) (SeqAt.canLay_of_shaped sd) (room_in_shaped sd hu) ⟨.bl _, H, I, rfl, q⟩
theorem units65 {k : Nat} {A : Around} (r : Room k A) : A.units + 65 < cLine := by have := r.un; omega

/-- a door as data -/
def pd (d : Int × Int) : PyData := .tuple [.int d.1, .int d.2]
theorem pd_lay : ∀ D : List (Int × Int), PyData.canLayAll0 (D.map pd) = true
  | [] => by simp [PyData.canLayAll0]
  | d :: D => by
    rw [List.map_cons, PyData.canLayAll0, pd_lay D]
    simp [pd, PyData.canLay0, PyData.canLayAll0]
theorem pd_deep : ∀ D : List (Int × Int), PyData.depthAll (D.map pd) ≤ 1
  | [] => by simp [PyData.depthAll]
  | d :: D => by
    rw [List.map_cons, PyData.depthAll]
    have := pd_deep D
    simp [pd, PyData.depth, PyData.depthAll]
    omega
theorem pd_shaped (d : Int × Int) : SeqAt.shaped (pd d) = true := shaped_tup [d.1, d.2]
theorem pds_shaped (D : List (Int × Int)) : SeqAt.shaped (.tuple (D.map pd)) = true := by
  unfold SeqAt.shaped
  rw [PyData.canLay0, pd_lay, PyData.depth]
  have := pd_deep D
  simp
  omega
theorem pd_eqv (a b : Int × Int) : PyData.eqv (pd a) (pd b) = decide (a = b) := by
  obtain ⟨a1, a2⟩ := a
  obtain ⟨b1, b2⟩ := b
  simp only [pd, PyData.eqv, PyData.eqvAll, Bool.and_true]
  rw [Bool.eq_iff_iff]
  simp
theorem any_pd (D : List (Int × Int)) (d : Int × Int) : ((D.map pd).any fun z => PyData.eqv z (pd d)) = decide (d ∈ D) := by
  rw [Bool.eq_iff_iff, List.any_eq_true, decide_eq_true_eq]
  constructor
  · rintro ⟨z, hz, e⟩
    obtain ⟨y, hy, rfl⟩ := List.mem_map.mp hz
    rw [pd_eqv, decide_eq_true_eq] at e
    exact e ▸ hy
  · intro h
    exact ⟨pd d, List.mem_map_of_mem h, by rw [pd_eqv]; simp⟩
theorem dp_pair {K : PySem.W.Frag} {H : Hp} {t : Addr} {d : Int × Int} (h : H t = some (.tup [.int d.1, .int d.2])) : Dp K H (.ref t) (pd d) :=
  .tup (SqT.of h) (.cons (.int _) (.cons (.int _) .nil))
theorem dp_pairs {K : PySem.W.Frag} {H : Hp} : ∀ {ps : List (Addr × Int × Int)}, (∀ p ∈ ps, H p.1 = some (.tup [.int p.2.1, .int p.2.2])) → DpAll K H (ps.map fun p => V.ref p.1) ((ps.map (·.2)).map pd)
  | [], _ => .nil
  | p :: ps, h => .cons (dp_pair (h p (List.mem_cons_self ..))) (dp_pairs fun q hq => h q (List.mem_cons_of_mem _ hq))
theorem tt_by {t : TT} {Q : Bool → Hp → Prop} {σ : L2.St} {H : Hp} (Good : Bool → Hp → Prop) (h : ∀ Q' : Bool → Hp → Prop, (∀ b H', Good b H' → Q' b H') → t σ H Q') (hq : ∀ b H', Good b H' → Q b H') : t σ H Q := h _ hq

def pr (D : List (Int × Int)) (r : Int) : Int → Bool := fun o => decide ((r, o) ∈ D) || decide ((o, r) ∈ D)
def nbk (D : List (Int × Int)) (r : Int) (i : Nat) : List Int := ((List.range i).map fun (j : Nat) => 0 + (j : Int)).filter (pr D r)
theorem nbk_succ (D : List (Int × Int)) (r : Int) (i : Nat) : nbk D r (i + 1) = nbk D r i ++ if pr D r (0 + (i : Int)) = true then [0 + (i : Int)] else [] := by
  unfold nbk
  rw [List.range_succ, List.map_append, List.filter_append]
  congr 1
  by_cases c : pr D r (0 + (i : Int)) = true
  · rw [if_pos c]
    show List.filter (pr D r) [0 + (i : Int)] = _
    rw [List.filter_cons_of_pos c]
    rfl
  · rw [if_neg c]
    show List.filter (pr D r) [0 + (i : Int)] = _
    rw [List.filter_cons_of_neg c]
    rfl
theorem nbk_len (D : List (Int × Int)) (r : Int) (i : Nat) : (nbk D r i).length ≤ i := by
  refine Nat.le_trans (List.length_filter_le _ _) ?_
  simp
theorem nbk_nb (n : Int) (D : List (Int × Int)) (r : Int) : nbk D r n.toNat = nb n D r := by
  unfold nbk nb
  congr 1
  refine List.map_congr_left fun i _ => ?_
  omega

theorem get_ref {ps : List (Addr × Int × Int)} {i : Nat} {x : V} (h : (ps.map fun p => V.ref p.1)[i]? = some x) : ∃ p, ps[i]? = some p ∧ x = .ref p.1 := by
  rw [List.getElem?_map] at h
  cases e : ps[i]? with
  | none => rw [e] at h; cases h
  | some v => rw [e] at h; exact ⟨v, rfl, (Option.some.inj h).symm⟩
theorem outs_succ {D : List (Int × Int)} {r : Int} {i : Nat} {d : Int × Int} (h : D[i]? = some d) : outs (D.take (i + 1)) r = outs (D.take i) r ++ if d.1 = r then [d.2] else [] := by
  unfold outs
  rw [List.take_add_one, h, List.filter_append, List.map_append]
  congr 1
  by_cases c : d.1 = r
  · rw [if_pos c]
    show List.map _ (List.filter _ [d]) = _
    rw [List.filter_cons_of_pos (by simpa using c)]
    rfl
  · rw [if_neg c]
    show List.map _ (List.filter _ [d]) = _
    rw [List.filter_cons_of_neg (by simpa using c)]
    rfl
theorem ins_succ {D : List (Int × Int)} {r : Int} {i : Nat} {d : Int × Int} (h : D[i]? = some d) : ins (D.take (i + 1)) r = ins (D.take i) r ++ if d.2 = r then [d.1] else [] := by
  unfold ins
  rw [List.take_add_one, h, List.filter_append, List.map_append]
  congr 1
  by_cases c : d.2 = r
  · rw [if_pos c]
    show List.map _ (List.filter _ [d]) = _
    rw [List.filter_cons_of_pos (by simpa using c)]
    rfl
  · rw [if_neg c]
    show List.map _ (List.filter _ [d]) = _
    rw [List.filter_cons_of_neg (by simpa using c)]
    rfl
theorem outs_len (D : List (Int × Int)) (r : Int) : (outs D r).length ≤ D.length := by
  unfold outs
  rw [List.length_map]
  exact List.length_filter_le _ _
theorem ins_len (D : List (Int × Int)) (r : Int) : (ins D r).length ≤ D.length := by
  unfold ins
  rw [List.length_map]
  exact List.length_filter_le _ _
section
variable {P : Program} {w : World} {K : PySem.W.Frag} {mg : Str → Option Value} {base : Heap}
def spNb : Sp := fun vs H Q _ => ∃ (h : Addr) (n : Int) (D : List (Int × Int)) (r : Int), vs = [.ref h, .int r] ∧ HouseAt H h n D ∧ Forest n D ∧
  ∀ H' t, Same H H' → H' t = some (.tup (vi (nb n D r))) → Q (.ref t) H'

abbrev nNb : List Str := ["house", "room", "doors", "a", "b"]
abbrev gAB : PySem.W.Frag → TG := fun K => gTup K 2 (gCons (gName 3) (gCons (gName 4) gNil))
theorem scNb : FnScope nNb ["house", "room"] (defScope sNb) := ⟨rfl, rfl, rfl, by decide +kernel, rfl, by decide +kernel, by decide +kernel⟩
theorem ok_nb {f : Addr} {fd : FuncData} {k : Nat} (F : Fun K "neighbors" "neighbors" sNb f fd) (T : Nm mg) : FnOk P w K mg base CX0 (k + 1) f fd ["house", "room"] spNb := by
  refine F.ok scNb (fun vs H Q E h => ?_) (fun cdv A outer s H vs Q E hr h => ?_)
  · obtain ⟨h, n, D, r, rfl, _⟩ := h
    rfl
  · obtain ⟨h, n, D, r, rfl, ⟨q0, ps, h1, h2, h3, h4⟩, hF, q⟩ := h
    refine ⟨_, pss_cons (ps_set (i := 2) scNb.nd rfl (.inl rfl) (pe_ix ix_tup (pv 0) pe_int (fun _ _ => rfl)))
      (pss_one (ps_ret (pe_callTy call_tuple_of (by rfl) T.tuple (by decide +kernel) (pa_cons (pe_op op_cat
        (pe_lc (own := [("a", 3), ("b", 4)]) (g := gAB K) (by rfl) scNb.nd (pi_tup (pv 2))
          (blkOk_by (own := [("a", 3), ("b", 4)]) (N := nNb) (sc := defScope sNb) (by decide +kernel))
          (fun _ _ _ _ _ => pg_tup (by rfl) (pgs_cons (pg_name (i := 3) scNb.nd rfl (Or.inl rfl)) (pgs_cons (pg_name (i := 4) scNb.nd rfl (Or.inl rfl)) pgs_nil)))
          (fun _ _ _ _ _ => pts_one (pt_cmpR op_eq (pv 4) (pv 1) (nomark _)))
          (fun _ _ _ _ _ => pv 3))
        (pe_lc (own := [("a", 3), ("b", 4)]) (g := gAB K) (by rfl) scNb.nd (pi_tup (pv 2))
          (blkOk_by (own := [("a", 3), ("b", 4)]) (N := nNb) (sc := defScope sNb) (by decide +kernel))
          (fun _ _ _ _ _ => pg_tup (by rfl) (pgs_cons (pg_name (i := 3) scNb.nd rfl (Or.inl rfl)) (pgs_cons (pg_name (i := 4) scNb.nd rfl (Or.inl rfl)) pgs_nil)))
          (fun _ _ _ _ _ => pts_one (pt_cmpR op_eq (pv 3) (pv 1) (nomark _)))
          (fun _ _ _ _ _ => pv 4))) pa_nil)))), ?_⟩
    have el := hF.len
    have eD : D.take (ps.map fun p => V.ref p.1).length = D := by
      rw [h3, List.length_map, ← List.length_map (f := fun x : Addr × Int × Int => x.2), List.take_length]
    refine ⟨_, rfl, h, _, _, _, rfl, rfl, SqT.of h1, atI1, ?_⟩
    refine ⟨_, rfl, q0, rfl, ⟨_, SqT.of h2⟩, fun L hL => lc_tup (K := K) (a := q0) (xs := ps.map fun p => V.ref p.1) (fun i H1 => Same H H1 ∧ H1 L = some (.lst (vi (ins (D.take i) r))))
      ⟨same_upd hL, upd_same⟩ (fun i H1 _ hh => SqT.of (hh.1 _ _ h2)) ?_ ?_⟩
    · rintro i x H1 hx ⟨s1, e1⟩
      obtain ⟨p, hp, rfl⟩ := get_ref hx
      have ed : D[i]? = some p.2 := by rw [h3, List.getElem?_map, hp]; rfl
      refine ⟨p.1, _, rfl, SqT.of (s1 _ _ (h4 p (List.mem_of_getElem? hp))), rfl, _, _, rfl, _, _, rfl, rfl, rfl, _, rfl, _, rfl, rfl, _, rfl, ?_⟩
      refine ite2 (fun c => ?_) (fun c => ?_)
      · have c : p.2.2 = r := V.int.inj (of_decide_eq_true c)
        refine ⟨_, rfl, _, e1, ?_, same_put s1 hL, ?_⟩
        · rw [List.length_map]
          exact small1000 (Nat.le_trans (ins_len _ _) (by rw [List.length_take]; omega))
        · rw [upd_same, ins_succ ed, if_pos c, vi_app]
          rfl
      · have c : ¬ p.2.2 = r := fun e => c (decide_eq_true (by rw [e]))
        refine ⟨s1, ?_⟩
        rw [ins_succ ed, if_neg c, List.append_nil]
        exact e1
    · rintro H1 ⟨s1, e1⟩
      rw [eD] at e1
      refine ⟨_, rfl, q0, rfl, ⟨_, SqT.of (s1 _ _ h2)⟩, fun M hM => lc_tup (K := K) (a := q0) (xs := ps.map fun p => V.ref p.1) (fun i H2 => Same H1 H2 ∧ H2 M = some (.lst (vi (outs (D.take i) r))))
        ⟨same_upd hM, upd_same⟩ (fun i H2 _ hh => SqT.of (hh.1 _ _ (s1 _ _ h2))) ?_ ?_⟩
      · rintro i x H2 hx ⟨s2, e2⟩
        obtain ⟨p, hp, rfl⟩ := get_ref hx
        have ed : D[i]? = some p.2 := by rw [h3, List.getElem?_map, hp]; rfl
        refine ⟨p.1, _, rfl, SqT.of (s2 _ _ (s1 _ _ (h4 p (List.mem_of_getElem? hp)))), rfl, _, _, rfl, _, _, rfl, rfl, rfl, _, rfl, _, rfl, rfl, _, rfl, ?_⟩
        refine ite2 (fun c => ?_) (fun c => ?_)
        · have c : p.2.1 = r := V.int.inj (of_decide_eq_true c)
          refine ⟨_, rfl, _, e2, ?_, same_put s2 hM, ?_⟩
          · rw [List.length_map]
            exact small1000 (Nat.le_trans (outs_len _ _) (by rw [List.length_take]; omega))
          · rw [upd_same, outs_succ ed, if_pos c, vi_app]
            rfl
        · have c : ¬ p.2.1 = r := fun e => c (decide_eq_true (by rw [e]))
          refine ⟨s2, ?_⟩
          rw [outs_succ ed, if_neg c, List.append_nil]
          exact e2
      · rintro H2 ⟨s2, e2⟩
        rw [eD] at e2
        refine ⟨L, M, _, _, rfl, rfl, s2 _ _ e1, e2, ?_, fun N hN => ?_⟩
        · rw [List.length_map, List.length_map]
          have h1 := outs_len D r
          have h2 := ins_len D r
          exact Nat.le_of_lt (small1000 (by omega))
        rw [← vi_app, hF.nb_eq r]
        refine ⟨N, _, rfl, .inl ⟨SqL.of upd_same, fun t ht => q _ t ?_ upd_same⟩⟩
        exact ((s1.trans s2).trans (same_upd hN)).trans (same_upd ht)
def spLNb : Sp := fun vs H Q _ => ∃ (h : Addr) (n : Int) (D : List (Int × Int)) (r : Int), vs = [.ref h, .int r] ∧ HouseAt H h n D ∧ Forest n D ∧
  ∀ H' l, Same H H' → H l = none → H' l = some (.lst (vi (nb n D r))) → Q (.ref l) H'

abbrev nLNb : List Str := ["_law_house_here", "_law_room", "_law_found", "_law_one", "_law_other"]
abbrev gOO : PySem.W.Frag → TG := fun K => gTup K 2 (gCons (gName 3) (gCons (gName 4) gNil))
theorem scLNb : FnScope nLNb ["_law_house_here", "_law_room"] (defScope sLNb) := ⟨rfl, rfl, rfl, by decide +kernel, rfl, by decide +kernel, by decide +kernel⟩
theorem ok_lnb {f : Addr} {fd : FuncData} {k : Nat} (F : Fun K "_law_neighbors" "_law_neighbors" sLNb f fd) (T : Nm mg) : FnOk P w K mg base CX0 (k + 1) f fd ["_law_house_here", "_law_room"] spLNb := by
  refine F.ok scLNb (fun vs H Q E h => ?_) (fun cdv A outer s H vs Q E hr h => ?_)
  · obtain ⟨h, n, D, r, rfl, _⟩ := h
    rfl
  · obtain ⟨h, n, D, r, rfl, ⟨q0, ps, h1, h2, h3, h4⟩, hF, q⟩ := h
    refine ⟨_, pss_cons (ps_setLc (i := 2) (own := [("_law_one", 3), ("_law_other", 4)]) (g := gOO K) (by rfl) scLNb.nd rfl rfl (sw_true rfl rfl rfl (by decide +kernel)) (pi_tup (pe_ix ix_tup (pv 0) pe_int (fun _ _ => rfl)))
        (blkOk_by (own := [("_law_one", 3), ("_law_other", 4)]) (N := nLNb) (sc := defScope sLNb) (by decide +kernel))
        (fun _ _ _ _ _ => pg_tup (by rfl) (pgs_cons (pg_name (i := 3) scLNb.nd rfl (Or.inl rfl)) (pgs_cons (pg_name (i := 4) scLNb.nd rfl (Or.inl rfl)) pgs_nil)))
        (fun _ _ _ _ _ => pts_one (pt_cmpR op_eq (pv 3) (pv 1) (nomark _)))
        (fun _ _ _ _ _ => pv 4))
      (pss_one (ps_ret (pe_callB cr_sortedI (by rfl) T.sorted (by decide +kernel) (pa_cons (pe_op op_cat (pv 2)
        (pe_lc (own := [("_law_one", 3), ("_law_other", 4)]) (g := gOO K) (by rfl) scLNb.nd (pi_tup (pe_ix ix_tup (pv 0) pe_int (fun _ _ => rfl)))
          (blkOk_by (own := [("_law_one", 3), ("_law_other", 4)]) (N := nLNb) (sc := defScope sLNb) (by decide +kernel))
          (fun _ _ _ _ _ => pg_tup (by rfl) (pgs_cons (pg_name (i := 3) scLNb.nd rfl (Or.inl rfl)) (pgs_cons (pg_name (i := 4) scLNb.nd rfl (Or.inl rfl)) pgs_nil)))
          (fun _ _ _ _ _ => pts_one (pt_cmpR op_eq (pv 4) (pv 1) (nomark _)))
          (fun _ _ _ _ _ => pv 3))) pa_nil)))), ?_⟩
    refine ⟨_, rfl, h, _, _, _, rfl, rfl, SqT.of h1, atI1, q0, rfl, ⟨_, SqT.of h2⟩, fun L hL => lc_tup (K := K) (a := q0) (xs := ps.map fun p => V.ref p.1) (fun i H1 => Same H H1 ∧ H1 L = some (.lst (vi (outs (D.take i) r))))
      ⟨same_upd hL, upd_same⟩ (fun i H1 _ hh => SqT.of (hh.1 _ _ h2)) ?_ ?_⟩
    · rintro i x H1 hx ⟨s1, e1⟩
      obtain ⟨p, hp, rfl⟩ := get_ref hx
      have ed : D[i]? = some p.2 := by rw [h3, List.getElem?_map, hp]; rfl
      have em := List.mem_of_getElem? hp
      refine ⟨p.1, _, rfl, SqT.of (s1 _ _ (h4 p em)), rfl, _, _, rfl, _, _, rfl, rfl, rfl, _, rfl, _, rfl, rfl, _, rfl, ?_⟩
      refine ite2 (fun c => ?_) (fun c => ?_)
      · have c : p.2.1 = r := V.int.inj (of_decide_eq_true c)
        refine ⟨_, rfl, _, e1, ?_, same_put s1 hL, ?_⟩
        · rw [List.length_map]
          exact small1000 (Nat.le_trans (outs_len _ _) (by have := hF.len; rw [List.length_take]; omega))
        · rw [upd_same, outs_succ ed, if_pos c, vi_app]
          rfl
      · have c : ¬ p.2.1 = r := fun e => c (decide_eq_true (by rw [e]))
        refine ⟨s1, ?_⟩
        rw [outs_succ ed, if_neg c, List.append_nil]
        exact e1
    · rintro H1 ⟨s1, e1⟩
      have eD : D.take (ps.map fun p => V.ref p.1).length = D := by
        rw [h3, List.length_map, ← List.length_map (f := fun x : Addr × Int × Int => x.2), List.take_length]
      rw [eD] at e1
      refine ⟨_, rfl, _, rfl, h, _, _, _, rfl, rfl, SqT.of (s1 _ _ h1), atI1, q0, rfl, ⟨_, SqT.of (s1 _ _ h2)⟩, fun M hM => lc_tup (K := K) (a := q0) (xs := ps.map fun p => V.ref p.1) (fun i H2 => Same H1 H2 ∧ H2 M = some (.lst (vi (ins (D.take i) r))))
        ⟨same_upd hM, upd_same⟩ (fun i H2 _ hh => SqT.of (hh.1 _ _ (s1 _ _ h2))) ?_ ?_⟩
      · rintro i x H2 hx ⟨s2, e2⟩
        obtain ⟨p, hp, rfl⟩ := get_ref hx
        have ed : D[i]? = some p.2 := by rw [h3, List.getElem?_map, hp]; rfl
        have em := List.mem_of_getElem? hp
        refine ⟨p.1, _, rfl, SqT.of (s2 _ _ (s1 _ _ (h4 p em))), rfl, _, _, rfl, _, _, rfl, rfl, rfl, _, rfl, _, rfl, rfl, _, rfl, ?_⟩
        refine ite2 (fun c => ?_) (fun c => ?_)
        · have c : p.2.2 = r := V.int.inj (of_decide_eq_true c)
          refine ⟨_, rfl, _, e2, ?_, same_put s2 hM, ?_⟩
          · rw [List.length_map]
            exact small1000 (Nat.le_trans (ins_len _ _) (by have := hF.len; rw [List.length_take]; omega))
          · rw [upd_same, ins_succ ed, if_pos c, vi_app]
            rfl
        · have c : ¬ p.2.2 = r := fun e => c (decide_eq_true (by rw [e]))
          refine ⟨s2, ?_⟩
          rw [ins_succ ed, if_neg c, List.append_nil]
          exact e2
      · rintro H2 ⟨s2, e2⟩
        rw [eD] at e2
        have el := hF.len
        refine ⟨L, M, _, _, rfl, rfl, s2 _ _ e1, e2, ?_, fun N hN => ?_⟩
        · rw [List.length_map, List.length_map]
          have h1 := outs_len D r
          have h2 := ins_len D r
          exact Nat.le_of_lt (small1000 (by omega))
        · rw [← vi_app]
          refine ⟨N, _, rfl, SqL.of upd_same, fun ys Z hp hup hZ => ?_⟩
          refine q _ Z ((s1.trans s2).trans ((same_upd hN).trans (same_upd hZ))) (s1.free (s2.free ((same_upd hN).free hZ))) ?_
          rw [upd_same, hF.sorted_nb hp hup]
end
end Fw
namespace Fw
open PySem PySem.Spec PyProof.Rows L2

/-! ### repr, where no repr is under way -/
def rRepr (K : PySem.W.Frag) : List V → Hp → VK → Prop := fun vs H Q => ∃ (a : Addr) (d : PyData), vs = [.ref a] ∧ Dp K H (.ref a) d ∧ d.showable = true ∧ d.hasDict = false ∧ d.depth ≤ 60 ∧ d.shown.length ≤ sizeLine ∧ Q (.str d.shown) H
theorem call_repr {X : Cx} (hg : X.A.guards = some []) (hu : X.A.units + 65 < cLine) : CallR X (.builtin "repr") (rRepr X.K) := by
  intro pins s σ H vs us Q I r h
  obtain ⟨a, d, rfl, hd, hs, hn, hp, hz, q⟩ := h
  obtain ⟨u, rfl, ru⟩ := vals1 r
  obtain rfl : u = Value.ref a := ru
  obtain ⟨as, rd⟩ := Dp.reads I d _ _ hd rfl
  refine repr_of_reads' rd hs (fun z => ?_) hg (by omega) (fun _ _ e => e) (fun h' t tk hk => ?_) hz
  · rw [hn] at z
    cases z
  · exact ⟨.str _, H, I.kept hk, ⟨_, rfl⟩, q⟩

/-! ### a def that is run where no repr is under way -/
structure FnG (P : Program) (w : World) (K : PySem.W.Frag) (mg : Str → Option Value) (base : Heap) (k : Nat) (f : Addr) (fd : FuncData) (ps : List Str) (sp : Sp) : Prop where
  len : ∀ vs H Q E, sp vs H Q E → vs.length = ps.length
  go : ∀ (A : Around) (out : List Env) (st : Shared) (H : Hp) (as : Args) (us : List Value) (vs : List V) (Q : VK), A.guards = some [] → Room k A → Env0 P w K mg base A out st H → BindsTo st fd as (ps.zip us) → Vals vs us → sp vs H Q E0 →
    codeAny (model P w) A (.call (.ref f) as) (CR CX0 out P w H st Q E0) st

section
variable {P : Program} {w : World} {K : PySem.W.Frag} {mg : Str → Option Value} {base : Heap}
theorem Fun.okG {x : Str} {st : Stmt} {f : Addr} {fd : FuncData} {N ps : List Str} {k : Nat} {sp : Sp} (F : Fun K x x st f fd) (S : FnScope N ps (defScope st)) (len : ∀ vs H Q E, sp vs H Q E → vs.length = ps.length)
    (bd : ∀ (c : Value) (A : Around) (out : List Env) (z : Shared) (H : Hp) (vs : List V) (Q : VK), (A.deeper (envOfC x (defScope st) z.heap.objs.size f c)).guards = some [] → Room k (A.deeper (envOfC x (defScope st) z.heap.objs.size f c)) → sp vs H Q E0 →
      ∃ t, PSs (cxOf CX0 P w K mg base N x (defScope st) f c A out z H E0).nox (defBody st) t ∧ t { nx := fun _ H' => Q .non H', rt := Q } (L2.start N vs) H) : FnG P w K mg base (k + 1) f fd ps sp := by
  obtain ⟨oc, od, kV, doc, pm, an, c, ct, osl, rfl, lk, hc⟩ := F.ex
  refine ⟨len, fun A out z H as us vs Q gd room en bi rel hs => ?_⟩
  have kin : K.In z.heap := fun b o e => (en.bs b o (en.mod.kin b o e)).1
  refine codeAny_call_function room.depth (kin _ _ lk) rfl S.co S.gen rfl (PySem.W.codeRec_of kin hc) (bi _ _ _ _ ?_)
  have kinds : ∀ y ∈ ps.zip us, (defScope st).names.lookup y.1 = some .local ∨ ((defScope st).names.lookup y.1 = some .cell ∧ ((cellsFrom (z.heap.objs.size + 1) (defScope st).names []).lookup y.1).isSome = true) := by
    rintro ⟨n, v⟩ hy
    exact (S.par n (List.of_mem_zip hy).1).imp id fun q => ⟨q, PySem.W.cellsFrom_some _ _ _ (.inl q)⟩
  refine wpAny_newFunctionEnv_cells S.kind kinds fun env ee z1 ic => ?_
  subst ee
  refine ⟨(en.mod.nolimit.keeps fun b o e => (en.bs b o e).1).keeps ic.toInCall.keep, codeAny_func ?_⟩
  obtain ⟨t, d, rd⟩ := bd c A out z H vs Q gd (room.deeper _) hs
  have inv := inv_start (CX := CX0) (E := E0) S room.hd en (len _ _ _ _ hs) rel ic
  refine wpAny_mono (d.nox.run [] z1 _ H _ inv rd) (fun fl z2 e => ?_) fun _ _ e => e
  match fl, e with
  | .ret u, ⟨v, σ', H', J, rv, q⟩ => exact ⟨v, H', J.os, J.bare, J.base, J.hok, rv, q⟩
  | .next, ⟨σ', H', J, q⟩ => exact ⟨.non, H', J.os, J.bare, J.base, J.hok, rfl, q⟩
  | .brk, ⟨_, _, _, q⟩ => exact q.elim
  | .cont, ⟨_, _, _, q⟩ => exact q.elim

/-- a call of such a def -/
theorem pe_callG {X : Cx} {k : Nat} {f : Addr} {fd : FuncData} {ps : List Str} {sp : Sp} {x : Str} {p pos : Pos} {e : Expr} {es : List Expr} {t : TA} (F : FnG X.prog X.w X.K X.mg X.base k f fd ps sp) (gd : X.A.guards = some []) (hr : Room k X.A)
    (hg : Gl X x) (hm : X.mg x = some (.ref f)) (hk : PySem.W.keepIn X.K (.ref f) = true) (hb : Binds X.K fd ps []) (ha : PA X (e :: es) t) (hdb : (x == ("__debug__" : Str)) = false := by decide)
    (h1 : starEach (e :: es) X.env = (false, eval e X.env) :: starEach es X.env := by rfl) (h2 : (backTo pos (starEach es X.env)).any (·.1) = false := by rfl) : PE X (.Call (.Name x p) (e :: es) [] pos) (tCall sp [] E0 t) := by
  constructor
  intro pins z σ H Q I h
  refine wpAny_Call_Name_kw (ld_glob I hg hm (PySem.W.callWith_K (h₀ := X.base) I.ok.mod.kin hk (thn (ha.run pos pins z σ H _ I h) ?_) h1 h2) hdb)
  rintro us z1 ⟨vs, H1, I1, r, q⟩
  refine ⟨I1.kIn, wpAny_call (codeAny_mono (F.go X.A X.stack z1 H1 ⟨us, []⟩ (us ++ []) (vs ++ []) Q gd hr I1.env0 (hb z1 us I1.kIn ?_) (r.append .nil) q) fun a z2 hq => ?_)⟩
  · rw [← (r.append .nil).length]
    exact F.len _ _ _ _ q
  · match a, hq with
    | .error _, hq => exact hq.elim
    | .ok (.ret u), hq => exact I1.after hq
    | .ok .next, hq => exact hq.elim
    | .ok .brk, hq => exact hq.elim
    | .ok .cont, hq => exact hq.elim
end
end Fw
namespace Fw
open PySem PySem.Spec PyProof.Rows L2

/-- the state at the law's own call: only the script is tracked -/
theorem top_state {P : Program} {w : World} {K : PySem.W.Frag} {mg mb : Str → Option Value} {a : Addr} {z : Shared} {vs : List Value} {ns : List Int} (kin : K.In z.heap) (gl : z.heap.Ns mainGlobals mg) (bl : z.heap.Ns builtinsNs mb)
    (bb : ∀ x : Str, x ≠ "__name__" → mb x = bootBuiltins x) (lim : z.heap.NoLimit) (ge : z.gens = #[]) (obj : z.heap.get? a = some { cls := .type "list", data := .seq vs.toArray }) (hi : IntsAre vs ns) (hl : ns.length ≤ sizeLine) :
    ∃ (H : Hp) (base : Heap), SqL K H a (vi ns) ∧ K.In base ∧ base.Ns mainGlobals mg ∧ Env0 P w K mg base callerA [] z H ∧ ∀ (H' : Hp) (z' : Shared), Un (frs []) [] H H' z.heap z'.heap → HOk P w H' z'.heap → OldK z.heap z'.heap := by
  have rel : Vals (vi ns) vs := vals_ints hi
  -- what is tracked: nothing, or the script alone
  have pick : ∃ H : Hp, SqL K H a (vi ns) ∧ HOk P w H z.heap ∧ (∀ b, H b = none ∨ (b = a ∧ K.lookup a = none ∧ ∃ xs, H b = some (.frz { cls := .type "list", data := .seq vs.toArray } (.lst xs)))) := by
    cases e : K.lookup a with
    | some o =>
      have e2 : o = { cls := .type "list", data := .seq vs.toArray } := by
        have := kin a o e
        rw [obj] at this
        exact (Option.some.inj this).symm
      subst e2
      refine ⟨fun _ => none, .inr ⟨_, vs.toArray, _, e, rfl, rfl, rfl, ?_, rel⟩, fun b u q => ?_, fun b => .inl rfl⟩
      · rw [List.size_toArray, hi.length]
        exact hl
      · cases (show (none : Option HO) = some u from q)
    | none =>
      refine ⟨upd (fun _ => none) a (.frz { cls := .type "list", data := .seq vs.toArray } (.lst (vi ns))), .inl (.inr ⟨_, upd_same⟩), fun b u q => ?_, fun b => ?_⟩
      · by_cases eb : b = a
        · rw [eb, upd_same] at q
          cases q
          rw [eb]
          exact ⟨obj, by rw [List.length_map]; exact hl, vs, _, rel, obj⟩
        · rw [upd_ne eb] at q
          cases q
      · by_cases eb : b = a
        · exact .inr ⟨eb, rfl, _, by rw [eb]; exact upd_same⟩
        · exact .inl (upd_ne eb)
  obtain ⟨H, hS, hok, only⟩ := pick
  have low : ∀ {b : Addr} {o : Obj}, z.heap.get? b = some o → (b = a → K.lookup a ≠ none) → (hidT z.heap H).get? b = some o := fun {b o} e q => hidT_get e (by
    rcases only b with n | ⟨eb, n, _⟩
    · exact n
    · exact absurd n (q eb))
  have dic : ∀ {b : Addr} {m : Str → Option Value}, z.heap.Ns b m → (hidT z.heap H).Ns b m := fun {b m} h => by
    obtain ⟨o, es, ep, e, d, r⟩ := h
    refine ⟨o, es, ep, hidT_get e ?_, d, r⟩
    rcases only b with n | ⟨eb, _, _⟩
    · exact n
    · rw [eb, obj] at e
      cases e
      cases (show Data.seq vs.toArray _ = Data.dict es ep from d)
  have kb : K.In (hidT z.heap H) := fun b o e => low (kin b o e) fun eb n => by
    rw [eb, n] at e
    cases e
  refine ⟨H, hidT z.heap H, hS, kb, dic gl, ?_, fun H' z' un ok' => OldK.of_keep fun b o e => ?_⟩
  · refine { frames := rfl, mod := ⟨kb, dic gl, ⟨mb, dic bl, bb⟩, ?_⟩, bs := fun b o e => of_hidT e, bsz := Nat.le_of_eq (hidT_size _ _), funs := trivial, frf := fun b hb => ?_, hok := hok, bare := .of_eq ge }
    · obtain ⟨mc, h1, h2⟩ := lim
      exact ⟨mc, dic h1, h2⟩
    · cases (show b ∈ ([] : List Addr) from hb)
  · rcases only b with n | ⟨eb, _, xs, fz⟩
    · refine un.keep b o e n (fun hb => ?_) (fun hb => ?_)
      · cases (show b ∈ ([] : List Addr) from hb)
      · cases hb
    · have f2 := (ok' b _ (un.frzs b _ _ fz)).1
      rw [eb, obj] at e
      cases e
      exact f2

/-- the law's def takes the script alone -/
abbrev Takes1 (fd : FuncData) : Prop := ∀ (z : Shared) (v : Value), BindsTo z fd ⟨[v], []⟩ [("_law_script", v)]
/-- the law's def, at fa, keeps sp over whatever holds the written part -/
def LawAt (P : Program) (w : World) (K : PySem.W.Frag) (mg : Str → Option Value) (k : Nat) (fa : Addr) (sp : Sp) : Prop :=
  ∃ fd, Takes1 fd ∧ ∀ b : Heap, K.In b → b.Ns mainGlobals mg → FnG P w K mg b k fa fd ["_law_script"] sp
/-- a promise that says True of every script -/
def Tells (sp : PySem.W.Frag → Sp) : Prop := ∀ K H a ns, ns.length ≤ 63 → SqL K H a (vi ns) → sp K [.ref a] H (fun v _ => v = .bl true) E0
/-- how a call that keeps such a promise ends -/
structure Told (P : Program) (w : World) (H : Hp) (z : Shared) (r : Result) (z' : Shared) : Prop where
  res : r = .ok (.ret (.bool true))
  os : z'.os = z.os
  bare : AllBare z'.gens
  st : ∃ H', Un (frs []) [] H H' z.heap z'.heap ∧ HOk P w H' z'.heap
theorem told {P : Program} {w : World} {H : Hp} {z z' : Shared} {r : Result} (e : CR CX0 [] P w H z (fun v _ => v = .bl true) E0 r z') : Told P w H z r z' := by
  rcases r with _ | f
  · exact False.elim e
  cases f
  all_goals first | exact False.elim e | skip
  rename_i u
  obtain ⟨v, H', o1, o2, un, ok, rv, qv⟩ := e
  have qv : v = .bl true := qv
  rw [qv] at rv
  exact ⟨by rw [show u = Value.bool true from rv], o1, o2, H', un, ok⟩
/-- the end of a law whose def wants that no repr is under way -/
theorem walkG {l : PySem.W.OpenLaw} {k : Nat} {q : Program} {ls : List Str} {XP : (Str → Option Value) → Heap → Prop} {Y : World → Heap → Prop} {d : DefRec} {K : Params → PySem.W.Frag} {sp : PySem.W.Frag → Sp} (t : Tells sp) (m : l.most = some 63) (nd : d.params.defaults = []) (room : Room k callerA)
    (inK : ∀ w h, Y w h → (K w.params).In h) (L : ∀ w mg fa h, (K w.params).In h → h.Ns mainGlobals mg → mg d.name = some (.ref fa) → LawAt l.prog w (K w.params) mg k fa (sp (K w.params))) :
    PySem.W.WalkO q ls XP Y l.row.toRowW d [] (fun f vs => PySem.call f vs) := by
  apply Att.attach_call m nd
  intro w _ z mg _ fa _ _ _ _ a vs ns G y _ _ _ here obj hi few gens
  obtain ⟨fd, one, keeps⟩ := L w mg fa _ (inK w _ y) G.T.g here
  obtain ⟨H, b, hS, kb, gb, en, old⟩ := top_state (P := l.prog) (w := w) (inK w _ y) G.T.g G.T.b G.T.builtins G.T.nolimit gens obj hi (Nat.le_trans few (by decide))
  have c := (keeps b kb gb).go callerA [] z H ⟨[.ref a], []⟩ [.ref a] [.ref a] (fun v _ => v = .bl true) rfl room en (one z (.ref a)) (.cons rfl .nil) (t _ H a ns few hS)
  exact codeAny_mono c fun r z' e => by
    have e := told e
    obtain ⟨H', un, ok⟩ := e.st
    exact ⟨e.res, old H' z' un ok, e.os, e.bare⟩
end Fw
namespace Fw
open PySem PySem.Spec PyProof.Rows L2
/-- a house as data -/
def hd (n : Int) (D : List (Int × Int)) : PyData := .tuple [.int n, .tuple (D.map pd)]
theorem log_small {i : Int} (h0 : 0 ≤ i) (h1 : i ≤ 100) : i.natAbs.log2 < 1920 := by
  by_cases h : i.natAbs = 0
  · rw [h]; decide
  · exact (Nat.log2_lt h).mpr (Nat.lt_of_le_of_lt (show i.natAbs ≤ 2 ^ 7 by omega) (Nat.pow_lt_pow_right (by decide) (by decide)))
theorem pds_show : ∀ {D : List (Int × Int)}, (∀ d ∈ D, 0 ≤ d.1 ∧ d.1 ≤ 100 ∧ 0 ≤ d.2 ∧ d.2 ≤ 100) → PyData.showableAll (D.map pd) = true ∧ PyData.leavesShortAll 13 (D.map pd) = true
  | [], _ => by simp [PyData.showableAll, PyData.leavesShortAll]
  | d :: D, h => by
    obtain ⟨i1, i2⟩ := pds_show (D := D) fun x hx => h x (List.mem_cons_of_mem _ hx)
    obtain ⟨a0, a1, b0, b1⟩ := h d (List.mem_cons_self ..)
    have s1 := PyData.shown_int_le2 (i := d.1) (by omega) (by omega)
    have s2 := PyData.shown_int_le2 (i := d.2) (by omega) (by omega)
    rw [List.map_cons, PyData.showableAll, PyData.leavesShortAll, i1, i2]
    simp only [pd, PyData.showable, PyData.showableAll, PyData.leavesShort, PyData.leavesShortAll, Bool.and_true]
    exact ⟨by rw [decide_eq_true (log_small a0 a1), decide_eq_true (log_small b0 b1)]; rfl, by rw [decide_eq_true s1, decide_eq_true s2]; rfl⟩
theorem pds_nodict : ∀ D : List (Int × Int), PyData.hasDictAll (D.map pd) = false
  | [] => by simp [PyData.hasDictAll]
  | d :: D => by
    rw [List.map_cons, PyData.hasDictAll, pds_nodict D]
    simp [pd, PyData.hasDict, PyData.hasDictAll]
theorem pds_bulk : ∀ D : List (Int × Int), PyData.bulkAll (D.map pd) = 3 * D.length
  | [] => by simp [PyData.bulkAll]
  | d :: D => by
    rw [List.map_cons, PyData.bulkAll, pds_bulk D]
    simp [pd, PyData.bulk, PyData.bulkAll]
    omega
structure Shows (d : PyData) : Prop where
  s : d.showable = true
  n : d.hasDict = false
  p : d.depth ≤ 60
  z : d.shown.length ≤ sizeLine
theorem hd_shows {n : Int} {D : List (Int × Int)} (n0 : 0 ≤ n) (n1 : n ≤ 100) (h : ∀ d ∈ D, 0 ≤ d.1 ∧ d.1 ≤ 100 ∧ 0 ≤ d.2 ∧ d.2 ≤ 100) (hl : D.length ≤ 100) : Shows (hd n D) := by
  obtain ⟨i1, i2⟩ := pds_show h
  have s1 := PyData.shown_int_le2 (i := n) (by omega) (by omega)
  have dp := pd_deep D
  refine ⟨?_, ?_, ?_, PyData.shown_fits_bulk (B := 13) (by decide) (by decide) ?_ ?_⟩
  · simp only [hd, PyData.showable, PyData.showableAll, Bool.and_true, i1]
    rw [decide_eq_true (log_small n0 n1)]
  · simp only [hd, PyData.hasDict, PyData.hasDictAll, Bool.or_false, Bool.false_or]
    exact pds_nodict D
  · simp only [hd, PyData.depth, PyData.depthAll]
    omega
  · simp only [hd, PyData.leavesShort, PyData.leavesShortAll, Bool.and_true, i2]
    rw [decide_eq_true s1]
  · simp only [hd, PyData.bulk, PyData.bulkAll, pds_bulk]
    omega
theorem Forest.shows {n : Int} {D : List (Int × Int)} (f : Forest n D) (n0 : 0 ≤ n) (n1 : n ≤ 8) : Shows (hd n D) := by
  refine hd_shows n0 (by omega) (fun d hd => ?_) (Nat.le_trans f.len (by decide))
  have := f.ends (a := d.1) (b := d.2) hd
  omega
theorem HouseAt.dp {K : PySem.W.Frag} {H : Hp} {h : Addr} {n : Int} {D : List (Int × Int)} (x : HouseAt H h n D) : Dp K H (.ref h) (hd n D) := by
  obtain ⟨q, ps, h1, h2, h3, h4⟩ := x
  rw [h3]
  exact .tup (SqT.of h1) (.cons (.int n) (.cons (.tup (SqT.of h2) (dp_pairs h4)) .nil))
end Fw
namespace Fw
open PySem PySem.Spec PyProof.Rows L2
/-- a def of the text, wherever it stands -/
def DefE (K : PySem.W.Frag) (mg : Str → Option Value) (x : Str) (st : Stmt) (ps : List Str) : Prop := ∃ f fd, Def K mg x st f fd ps
/-- a def that keeps a promise, by its name -/
def Cal (P : Program) (w : World) (K : PySem.W.Frag) (mg : Str → Option Value) (base : Heap) (k : Nat) (x : Str) (ps : List Str) (sp : Sp) : Prop :=
  ∃ f fd, mg x = some (.ref f) ∧ PySem.W.keepIn K (.ref f) = true ∧ Binds K fd ps [] ∧ FnOk P w K mg base CX0 k f fd ps sp
def CalG (P : Program) (w : World) (K : PySem.W.Frag) (mg : Str → Option Value) (base : Heap) (k : Nat) (x : Str) (ps : List Str) (sp : Sp) : Prop :=
  ∃ f fd, mg x = some (.ref f) ∧ PySem.W.keepIn K (.ref f) = true ∧ Binds K fd ps [] ∧ FnG P w K mg base k f fd ps sp
section
variable {P : Program} {w : World} {K : PySem.W.Frag} {mg : Str → Option Value} {base : Heap}
theorem Def.cal {x : Str} {st : Stmt} {f : Addr} {fd : FuncData} {ps : List Str} {k : Nat} {sp : Sp} (D : Def K mg x st f fd ps) (h : FnOk P w K mg base CX0 k f fd ps sp) : Cal P w K mg base k x ps sp :=
  ⟨f, fd, D.g, D.F.kp, D.b, h⟩
theorem Def.calG {x : Str} {st : Stmt} {f : Addr} {fd : FuncData} {ps : List Str} {k : Nat} {sp : Sp} (D : Def K mg x st f fd ps) (h : FnG P w K mg base k f fd ps sp) : CalG P w K mg base k x ps sp :=
  ⟨f, fd, D.g, D.F.kp, D.b, h⟩
theorem DefE.cal {x : Str} {st : Stmt} {ps : List Str} {k : Nat} {sp : Sp} (D : DefE K mg x st ps) (h : ∀ f fd, Def K mg x st f fd ps → FnOk P w K mg base CX0 k f fd ps sp) : Cal P w K mg base k x ps sp := by
  obtain ⟨f, fd, d⟩ := D
  exact d.cal (h f fd d)
theorem DefE.calG {x : Str} {st : Stmt} {ps : List Str} {k : Nat} {sp : Sp} (D : DefE K mg x st ps) (h : ∀ f fd, Def K mg x st f fd ps → FnG P w K mg base k f fd ps sp) : CalG P w K mg base k x ps sp := by
  obtain ⟨f, fd, d⟩ := D
  exact d.calG (h f fd d)
theorem Cal.imp {x : Str} {ps : List Str} {k : Nat} {sp sp' : Sp} (C : Cal P w K mg base k x ps sp) (h : ∀ vs H Q E, sp' vs H Q E → sp vs H Q E) : Cal P w K mg base k x ps sp' := by
  obtain ⟨f, fd, a, b, c, d⟩ := C
  exact ⟨f, fd, a, b, c, d.imp h⟩
theorem Cal.up {x : Str} {ps : List Str} {j k : Nat} {sp : Sp} (C : Cal P w K mg base j x ps sp) (h : j ≤ k) : Cal P w K mg base k x ps sp := by
  obtain ⟨f, fd, a, b, c, d⟩ := C
  exact ⟨f, fd, a, b, c, d.mono h⟩
theorem pe_cal {X : Cx} {k : Nat} {ps : List Str} {sp : Sp} {x : Str} {p pos : Pos} {e : Expr} {es : List Expr} {t : TA} (C : Cal X.prog X.w X.K X.mg X.base k x ps sp) (hr : Room k X.A) (hg : Gl X x) (ha : PA X (e :: es) t) (hdb : (x == ("__debug__" : Str)) = false := by decide)
    (h1 : starEach (e :: es) X.env = (false, eval e X.env) :: starEach es X.env := by rfl) (h2 : (backTo pos (starEach es X.env)).any (·.1) = false := by rfl) : PE X (.Call (.Name x p) (e :: es) [] pos) (tCall sp [] E0 t) := by
  obtain ⟨f, fd, a, b, c, d⟩ := C
  exact pe_call d hr hg a b c .nil pass0 ha hdb h1 h2
theorem pe_calG {X : Cx} {k : Nat} {ps : List Str} {sp : Sp} {x : Str} {p pos : Pos} {e : Expr} {es : List Expr} {t : TA} (C : CalG X.prog X.w X.K X.mg X.base k x ps sp) (gd : X.A.guards = some []) (hr : Room k X.A) (hg : Gl X x) (ha : PA X (e :: es) t) (hdb : (x == ("__debug__" : Str)) = false := by decide)
    (h1 : starEach (e :: es) X.env = (false, eval e X.env) :: starEach es X.env := by rfl) (h2 : (backTo pos (starEach es X.env)).any (·.1) = false := by rfl) : PE X (.Call (.Name x p) (e :: es) [] pos) (tCall sp [] E0 t) := by
  obtain ⟨f, fd, a, b, c, d⟩ := C
  exact pe_callG d gd hr hg a b c ha hdb h1 h2
end
def tTru (K : PySem.W.Frag) (ta : TE) : TT := fun σ H Q => ta σ H fun x H' => ∃ k, TruV K x H' k ∧ Q k H'
/-! ### the rules with the written part told (so that they can stand in a comprehension) -/
section
variable {X : Cx} (K : PySem.W.Frag) (h : X.K = K)
include h
theorem op_inK : OpR X (compareOp .In) (rIn K false) := by subst h; exact op_in_seq
theorem op_notInK : OpR X (compareOp .NotIn) (rIn K true) := by subst h; exact op_notIn_seq
theorem ix_listK : IxR X (rIxL K) := by subst h; exact ix_list
theorem ix_tupK : IxR X (rIxT K) := by subst h; exact ix_tup
theorem call_lenK : CallR X (.builtin "len") (fun xs H Q => ∃ p ys, xs = [.ref p] ∧ (SqL K H p ys ∨ SqT K H p ys) ∧ Q (.int ys.length) H) := by subst h; exact call_len_seq
theorem call_listK : CallR X (.type "list") (fun xs H Q => ∃ p ys, xs = [.ref p] ∧ (SqL K H p ys ∨ SqT K H p ys) ∧ ∀ l, H l = none → Q (.ref l) (upd H l (.lst ys))) := by subst h; exact call_list_of
theorem call_tupleK : CallR X (.type "tuple") (fun xs H Q => ∃ p ys, xs = [.ref p] ∧ ((SqL K H p ys ∧ ∀ l, H l = none → Q (.ref l) (upd H l (.tup ys))) ∨ (SqT K H p ys ∧ Q (.ref p) H))) := by subst h; exact call_tuple_of
theorem call_tupleF : CallR X (.type "tuple") (fun xs H Q => ∃ p ys, xs = [.ref p] ∧ SqL K H p ys ∧ ∀ (l : Addr) (ob : Obj), H l = none → ob.dict = none → Q (.ref l) (upd H l (.frz ob (.tup ys)))) := by
  subst h
  intro pins s σ H xs us Q I r h
  obtain ⟨p, ys, rfl, hq, q⟩ := h
  obtain ⟨u, rfl, ru⟩ := vals1 r
  cases ru
  obtain ⟨its, rel, pl, hz⟩ := I.list hq
  have hlen := rel.length
  refine call_tuple_list pl.isList (fun h' kp => ?_) (by simp only [List.size_toArray] <;> omega)
  have I1 : Inv X pins σ H { s with heap := h' } := I.kept (t' := s.toks) kp
  have J : Inv X pins σ (upd H h'.objs.size (.frz { cls := .type "tuple", data := .seq its.toArray } (.tup ys))) { s with heap := h'.push { cls := .type "tuple", data := .seq its.toArray } } :=
    I1.laid (t' := s.toks) (fun b o e => Heap.get?_push_of_some _ e) (Nat.le_refl _) (show ObjOk X.prog X.w _ _ _ (.frz _ (.tup ys)) from ⟨Heap.get?_push_size _ rfl, hz, its, rel, IsTup.new _ _⟩)
  exact ⟨.ref h'.objs.size, _, J, rfl, q _ _ (I1.hok.fresh (Nat.le_refl _)) rfl⟩
theorem pi_tupK {tg l : Expr} {tl : TE} (hl : PE X l tl) : PI X tg l (iTup K tl) := by subst h; exact pi_tup hl
theorem pi_listK {tg l : Expr} {tl : TE} (hl : PE X l tl) : PI X tg l (iList K tl) := by subst h; exact pi_list hl
theorem op_eqDK (hu : X.A.units + 64 < cLine) : OpR X (compareOp .Eq) (rEqD K) := by subst h; exact op_eqD hu
theorem op_neDK (hu : X.A.units + 64 < cLine) : OpR X (compareOp .NotEq) (rNeD K) := by subst h; exact op_neD hu
theorem pt_truthK {a : Expr} {ta : TE} (ha : PE X a ta) (he : ∀ whole, isTrue a X.env whole = (do let v ← whole; standAt a.pos; holding [v] (truthy v))) : PT X a (tTru K ta) := by subst h; exact pt_truth ha he
end
end Fw
namespace Fw
open PySem PySem.Spec PyProof.Rows L2
/-! ### names: texts of small letters -/
def Low (m : Nat) (s : Str) : Prop := s.length ≤ m ∧ ∀ c ∈ s.cps.toList, 97 ≤ c ∧ c ≤ 122
def Nam (s : Str) : Prop := 1 ≤ s.length ∧ Low 8 s
def ltS (a b : Str) : Prop := a.cps.toList < b.cps.toList
structure Names (ns : List Str) : Prop where
  nam : ∀ x ∈ ns, Nam x
  up : ns.Pairwise ltS
theorem str_ext {a b : Str} (h : a.cps.toList = b.cps.toList) : a = b := by
  cases a with
  | mk x => cases b with
    | mk y =>
      have : x = y := Array.toList_inj.mp h
      rw [this]
theorem app_list (a b : Str) : (a ++ b).cps.toList = a.cps.toList ++ b.cps.toList := by
  show (a.cps ++ b.cps).toList = _
  rw [Array.toList_append]
theorem app_len (a b : Str) : (a ++ b).length = a.length + b.length := Str.length_append a b
theorem len_list (a : Str) : a.length = a.cps.toList.length := by
  show a.cps.size = _
  rw [Array.length_toList]
theorem Low.app {m n : Nat} {a b : Str} (h : Low m a) (k : Low n b) : Low (m + n) (a ++ b) := by
  refine ⟨by rw [app_len]; have := h.1; have := k.1; omega, fun c hc => ?_⟩
  rw [app_list, List.mem_append] at hc
  exact hc.elim (h.2 c) (k.2 c)
theorem Low.mono {m n : Nat} {a : Str} (h : Low m a) (k : m ≤ n) : Low n a := ⟨Nat.le_trans h.1 k, h.2⟩
def let1 (i : Int) : Str := ⟨#[97 + i.toNat]⟩
theorem let1_low {i : Int} (h0 : 0 ≤ i) (h1 : i < 26) : Low 1 (let1 i) := by
  refine ⟨Nat.le_refl _, fun c hc => ?_⟩
  have : c = 97 + i.toNat := by simpa [let1] using hc
  omega
theorem join_low {sep : Str} (hs : sep.cps.toList = []) : ∀ {ys : List Str}, (∀ y ∈ ys, Low 1 y) → Low ys.length (Txt.join sep ys) := by
  intro ys h
  show Low ys.length (Builtin.Str.glued sep ys)
  rw [StrLaws.glued_eq_join]
  induction ys with
  | nil => exact ⟨Nat.le_refl _, fun c hc => by cases (show c ∈ ([] : List Nat) from hc)⟩
  | cons y r ih =>
    cases r with
    | nil => exact h y (List.mem_cons_self ..)
    | cons z r =>
      have i1 := ih fun x hx => h x (List.mem_cons_of_mem _ hx)
      have i0 := h y (List.mem_cons_self ..)
      have e : Str.join sep (y :: z :: r) = y ++ sep ++ Str.join sep (z :: r) := rfl
      have e2 : y ++ sep = y := str_ext (by rw [app_list, hs, List.append_nil])
      rw [e, e2]
      refine ((i0.app i1).mono ?_)
      simp only [List.length_cons]
      omega
theorem join_fits {sep : Str} (hs : sep.cps.toList = []) {ys : List Str} (h : ∀ y ∈ ys, Low 1 y) (hl : ys.length ≤ 100) : (ys.map (·.length)).sum + ys.length * sep.length ≤ 16777216 := by
  have e : sep.length = 0 := by rw [len_list, hs]; rfl
  rw [e, Nat.mul_zero, Nat.add_zero]
  have : ∀ zs : List Str, (∀ y ∈ zs, Low 1 y) → (zs.map (·.length)).sum ≤ zs.length := by
    intro zs hz
    induction zs with
    | nil => exact Nat.le_refl _
    | cons z r ih =>
      have := ih fun x hx => hz x (List.mem_cons_of_mem _ hx)
      have := (hz z (List.mem_cons_self ..)).1
      simp only [List.map_cons, List.sum_cons, List.length_cons]
      omega
  have := this ys h
  omega
def nmk (h t : Str) (r : Int) (k : Nat) : Str := h ++ let1 ((r + 7 * (0 + (k : Int))).fmod 26) ++ t
theorem fm26 (x : Int) : 0 ≤ x.fmod 26 ∧ x.fmod 26 < 26 := by
  rw [Int.fmod_eq_emod_of_nonneg x (by decide)]
  omega
theorem nmk_nam {h t : Str} {r : Int} {k : Nat} (a : Low 3 h) (b : Low 3 t) : Nam (nmk h t r k) := by
  have l := let1_low (fm26 (r + 7 * (0 + (k : Int)))).1 (fm26 _).2
  have := ((a.app l).app b).mono (show 3 + 1 + 3 ≤ 8 by decide)
  refine ⟨?_, this⟩
  unfold nmk
  rw [app_len, app_len]
  show 1 ≤ h.length + 1 + t.length
  omega
theorem nmk_len {h t : Str} {r : Int} {k : Nat} (a : Low 3 h) (b : Low 3 t) : (nmk h t r k).length ≤ 7 := ((a.app (let1_low (fm26 (r + 7 * (0 + (k : Int)))).1 (fm26 _).2)).app b).1
theorem nmk_inj {h t : Str} {r : Int} {i j : Nat} (hi : i < 26) (hj : j < 26) (e : nmk h t r i = nmk h t r j) : i = j := by
  have e1 := congrArg (fun s : Str => s.cps.toList) e
  simp only [nmk, app_list] at e1
  have e2 := List.append_cancel_right e1
  have e3 := List.append_cancel_left e2
  have e4 : 97 + ((r + 7 * (0 + (i : Int))).fmod 26).toNat = 97 + ((r + 7 * (0 + (j : Int))).fmod 26).toNat := by simpa [let1] using e3
  have a := fm26 (r + 7 * (0 + (i : Int)))
  have b := fm26 (r + 7 * (0 + (j : Int)))
  rw [Int.fmod_eq_emod_of_nonneg _ (by decide)] at a b e4
  rw [Int.fmod_eq_emod_of_nonneg _ (by decide)] at e4
  omega
theorem nmk_nodup {h t : Str} {r : Int} {m : Nat} (hm : m ≤ 26) : ((List.range m).map (nmk h t r)).Nodup := by
  rw [List.nodup_iff_pairwise_ne, List.pairwise_map]
  refine (List.nodup_iff_pairwise_ne.mp List.nodup_range).imp_of_mem fun {a b} ha hb ne e => ne ?_
  rw [List.mem_range] at ha hb
  exact nmk_inj (by omega) (by omega) e
theorem risingS_le : ∀ {ys : List Str} {p : Str}, risingS p ys = true → (∀ x ∈ ys, ¬ ltS x p) ∧ ys.Pairwise (fun a b => ¬ ltS b a)
  | [], _, _ => ⟨fun _ h => absurd h List.not_mem_nil, .nil⟩
  | x :: r, p, h => by
    rw [risingS, Bool.and_eq_true, Bool.not_eq_true', ltCps_eq, decide_eq_false_iff_not] at h
    obtain ⟨h1, h2⟩ := h
    obtain ⟨i1, i2⟩ := risingS_le h2
    refine ⟨fun y hy => ?_, .cons i1 i2⟩
    rcases List.mem_cons.mp hy with rfl | hy
    · exact h1
    · have h3 := i1 y hy
      exact fun z => List.le_trans (α := Nat) (Std.not_lt.mp h1) (Std.not_lt.mp h3) z
theorem sortedS_le {ys : List Str} (h : sortedS ys = true) : ys.Pairwise (fun a b => ¬ ltS b a) := by
  cases ys with
  | nil => exact .nil
  | cons x r => exact .cons (risingS_le h).1 (risingS_le h).2
theorem ltS_of {a b : Str} (h : ¬ ltS b a) (n : a ≠ b) : ltS a b := by
  have h : a.cps.toList ≤ b.cps.toList := Std.not_lt.mp h
  by_cases l : ltS a b
  · exact l
  · exact absurd (str_ext (List.le_antisymm h (Std.not_lt.mp l))) n
theorem sorted_names {ns ys : List Str} (p : ys.Perm ns) (h : sortedS ys = true) (n : ns.Nodup) (a : ∀ x ∈ ns, Nam x) : Names ys := by
  refine ⟨fun x hx => a x (p.mem_iff.mp hx), ?_⟩
  have nd : ys.Nodup := p.nodup_iff.mpr n
  exact ((sortedS_le h).and (List.nodup_iff_pairwise_ne.mp nd)).imp fun {a b} h => ltS_of h.1 h.2
theorem ltS_irr (a : Str) : ¬ ltS a a := fun h => List.lt_irrefl _ h
theorem ltS_trans {a b c : Str} (h : ltS a b) (k : ltS b c) : ltS a c := List.lt_trans h k
theorem Names.nodup {ns : List Str} (h : Names ns) : ns.Nodup := List.nodup_iff_pairwise_ne.mpr (h.up.imp fun {a b} l => fun (e : a = b) => ltS_irr b (by rw [e] at l; exact l))
theorem vs_app (a b : List Str) : (a ++ b).map V.str = a.map V.str ++ b.map V.str := List.map_append
theorem get_vs {ns : List Str} {i : Nat} {x : V} (h : (ns.map V.str)[i]? = some x) : ∃ v, ns[i]? = some v ∧ x = .str v := by
  rw [List.getElem?_map] at h
  cases e : ns[i]? with
  | none => rw [e] at h; cases h
  | some v => rw [e] at h; exact ⟨v, rfl, (Option.some.inj h).symm⟩
theorem abc_at {z : Str} (hz : z.cps.toList = (List.range 26).map (97 + ·)) {i : Int} (h0 : 0 ≤ i) (h1 : i < 26) : atI z.cps.toList i = some (97 + i.toNat) := by
  have := atI_nat (xs := z.cps.toList) (j := i.toNat) (v := 97 + i.toNat) (by rw [hz, List.getElem?_map, List.getElem?_range (by omega)]; rfl)
  rw [show ((i.toNat : Nat) : Int) = i by omega] at this
  exact this

theorem nam_ok {s : Str} (h : Nam s) : PyData.strOk s = true := by
  unfold PyData.strOk
  rw [Array.all_eq_true_iff_forall_mem]
  intro c hc
  have := h.2.2 c (by rw [Array.mem_toList_iff]; exact hc)
  exact decide_eq_true (by omega)
/-! ### a placement, as it stands in memory -/
/-- a tuple that is to be read (the second way: one that is known to have no attributes of its own) -/
def TpAt (H : Hp) (p : Addr) (xs : List V) : Prop := H p = some (.tup xs) ∨ ∃ o : Obj, o.dict = none ∧ H p = some (.frz o (.tup xs))
theorem TpAt.same {H H' : Hp} {p : Addr} {xs : List V} (x : TpAt H p xs) (e : Same H H') : TpAt H' p xs := x.elim (fun h => .inl (e _ _ h)) fun ⟨o, d, h⟩ => .inr ⟨o, d, e _ _ h⟩
theorem TpAt.sq {K : PySem.W.Frag} {H : Hp} {p : Addr} {xs : List V} (x : TpAt H p xs) : SqT K H p xs := x.elim (fun h => SqT.of h) fun ⟨o, _, h⟩ => .inl (.inr ⟨o, h⟩)
def PlAt (H : Hp) (p : Addr) (P : List (Str × Int)) : Prop := ∃ ps : List (Addr × Str × Int), TpAt H p (ps.map fun q => V.ref q.1) ∧ P = ps.map (·.2) ∧ ∀ q ∈ ps, H q.1 = some (.tup [.str q.2.1, .int q.2.2])
theorem PlAt.same {H H' : Hp} {p : Addr} {P : List (Str × Int)} (x : PlAt H p P) (e : Same H H') : PlAt H' p P := by
  obtain ⟨ps, h1, h2, h3⟩ := x
  exact ⟨ps, h1.same e, h2, fun q hq => e _ _ (h3 q hq)⟩
/-- the same, of a tuple of the second way -/
def PlD (H : Hp) (p : Addr) (P : List (Str × Int)) : Prop := ∃ (ps : List (Addr × Str × Int)) (o : Obj), o.dict = none ∧ H p = some (.frz o (.tup (ps.map fun q => V.ref q.1))) ∧ P = ps.map (·.2) ∧ ∀ q ∈ ps, H q.1 = some (.tup [.str q.2.1, .int q.2.2])
theorem PlD.pl {H : Hp} {p : Addr} {P : List (Str × Int)} (x : PlD H p P) : PlAt H p P := by
  obtain ⟨ps, o, d, h1, h2, h3⟩ := x
  exact ⟨ps, .inr ⟨o, d, h1⟩, h2, h3⟩
theorem PlD.same {H H' : Hp} {p : Addr} {P : List (Str × Int)} (x : PlD H p P) (e : Same H H') : PlD H' p P := by
  obtain ⟨ps, o, d, h1, h2, h3⟩ := x
  exact ⟨ps, o, d, e _ _ h1, h2, fun q hq => e _ _ (h3 q hq)⟩
/-- a placement of n rooms -/
structure Pl (n : Int) (P : List (Str × Int)) : Prop where
  nm : Names (P.map (·.1))
  rm : ∀ x ∈ P, 0 ≤ x.2 ∧ x.2 < n
theorem Pl.nodup {n : Int} {P : List (Str × Int)} (h : Pl n P) : (P.map (·.1)).Nodup := h.nm.nodup
/-! ### parameters -/
abbrev pDraw : List Str := ["_law_stream_here", "_law_many"]
abbrev pHP : List Str := ["house", "placement"]
abbrev pIsAsc : List Str := ["sequence"]
abbrev pIsInt : List Str := ["value"]
abbrev pIsRoom : List Str := ["house", "value"]
abbrev pLMoved : List Str := ["_law_placement_here", "_law_name", "_law_room"]
abbrev pLMoves : List Str := ["_law_house_here", "_law_placement_here"]
abbrev pLNb : List Str := ["_law_house_here", "_law_room"]
abbrev pMove : List Str := ["house", "placement", "name", "room"]
abbrev pLeav : List Str := ["placement", "target", "region"]
abbrev pSurp : List Str := ["placement", "region"]
abbrev pLHP : List Str := ["_law_house_here", "_law_placement_here"]
abbrev pFree : List Str := ["house", "placement", "target", "region"]
abbrev pLFree : List Str := ["_law_house_here", "_law_placement_here", "_law_target", "_law_piece"]
abbrev pWith : List Str := ["placement", "name", "room"]
abbrev pNamesOf : List Str := ["placement"]
abbrev pPIn : List Str := ["placement", "room"]
abbrev pPWi : List Str := ["placement", "rooms"]
abbrev pPl : List Str := ["_law_stream_here", "_law_house_here", "_law_most"]
abbrev pRegOf : List Str := ["house", "placement", "room"]
abbrev pRoomOf : List Str := ["placement", "name"]
abbrev pLWithin : List Str := ["_law_one", "_law_others"]
abbrev pLWalk : List Str := ["_law_stream_here", "_law_house_here", "_law_placement_here", "_law_many"]
abbrev pLTarget : List Str := ["_law_stream_here", "_law_house_here", "_law_placement_here"]
abbrev pHPT : List Str := ["house", "placement", "target"]
abbrev pLHPT : List Str := ["_law_house_here", "_law_placement_here", "_law_target"]
abbrev pConn : List Str := ["_law_house_here", "_law_rooms", "_law_room"]
abbrev pPTgt : List Str := ["house", "placement", "target", "name"]
abbrev pPassing : List Str := ["house", "placement", "target", "room"]
abbrev pLPassing : List Str := ["_law_house_here", "_law_placement_here", "_law_target", "_law_room", "_law_some"]
abbrev pSame : List Str := ["_law_found", "_law_expected"]
end Fw
namespace Fw
open PySem PySem.Spec PyProof.Rows L2
section
variable {P : Program} {w : World} {K : PySem.W.Frag} {mg : Str → Option Value} {base : Heap}
theorem cal_draw (D : DefE K mg "_law_draw" sDraw pDraw) (T : Nm mg) : Cal P w K mg base 1 "_law_draw" pDraw spDraw := D.cal fun _ _ d => ok_draw d.F T
theorem StreamAt.frz {s A B : Addr} {c : Nat} {H : Hp} (hS : StreamAt H s A B c) {t : Addr} {o : Obj} {u : HO} (h : H t = some (.frz o u)) : t ≠ s ∧ t ≠ A ∧ t ≠ B := by
  obtain ⟨big, cells, cnt, h1, h2, h3, _⟩ := hS.ex
  exact ⟨ne_of h h1 (by intro q; cases q), ne_of h h2 (by intro q; cases q), ne_of h h3 (by intro q; cases q)⟩
theorem Fr.frz {s A B : Addr} {c : Nat} {H H1 : Hp} (f : Fr s A H H1) (hS : StreamAt H s A B c) {t : Addr} {o : Obj} {u : HO} (h : H t = some (.frz o u)) : H1 t = some (.frz o u) := f t _ (hS.frz h).1 (hS.frz h).2.1 h
theorem TpAt.fr {s A B : Addr} {c : Nat} {H H' : Hp} {p : Addr} {xs : List V} (x : TpAt H p xs) (hS : StreamAt H s A B c) (e : Fr s A H H') : TpAt H' p xs := x.elim (fun h => .inl (e.tup hS h)) fun ⟨o, d, h⟩ => .inr ⟨o, d, e.frz hS h⟩
theorem PlAt.fr {s A B : Addr} {c : Nat} {H H' : Hp} {p : Addr} {P : List (Str × Int)} (x : PlAt H p P) (hS : StreamAt H s A B c) (e : Fr s A H H') : PlAt H' p P := by
  obtain ⟨ps, h1, h2, h3⟩ := x
  exact ⟨ps, h1.fr hS e, h2, fun q hq => e.tup hS (h3 q hq)⟩
theorem PlD.fr {s A B : Addr} {c : Nat} {H H' : Hp} {p : Addr} {P : List (Str × Int)} (x : PlD H p P) (hS : StreamAt H s A B c) (e : Fr s A H H') : PlD H' p P := by
  obtain ⟨ps, o, d, h1, h2, h3⟩ := x
  exact ⟨ps, o, d, e.frz hS h1, h2, fun q hq => e.tup hS (h3 q hq)⟩
def spNames : Sp := fun vs H Q _ => ∃ (s A B : Addr) (c : Nat) (m : Int), vs = [.ref s, .int m] ∧ StreamAt H s A B c ∧ c < 2 ^ 30 ∧ 0 ≤ m ∧ m ≤ 20 ∧
  ∀ H' l ns, StreamAt H' s A B (c + 10) → Fr s A H H' → H l = none → H' l = some (.lst (ns.map V.str)) → ns.length = m.toNat → Names ns → Q (.ref l) H'
/-- the same, with more known of each name -/
def spNamesR (R : Str → Prop) : Sp := fun vs H Q _ => ∃ (s A B : Addr) (c : Nat) (m : Int), vs = [.ref s, .int m] ∧ StreamAt H s A B c ∧ c < 2 ^ 30 ∧ 0 ≤ m ∧ m ≤ 20 ∧
  ∀ H' l ns, StreamAt H' s A B (c + 10) → Fr s A H H' → H l = none → H' l = some (.lst (ns.map V.str)) → ns.length = m.toNat → Names ns → (∀ x ∈ ns, R x) → Q (.ref l) H'
abbrev nNames : List Str := ["_law_stream_here", "_law_many", "_law_letters", "_law_first", "_law_head", "_law_k", "_law_tail"]
theorem scNames : FnScope nNames ["_law_stream_here", "_law_many"] (defScope sNames) := ⟨rfl, rfl, rfl, by decide +kernel, rfl, by decide +kernel, by decide +kernel⟩
theorem ok_names7 {f : Addr} {fd : FuncData} (F : Fun K "_law_names" "_law_names" sNames f fd) (T : Nm mg) (C_law_draw : Cal P w K mg base 1 "_law_draw" pDraw spDraw) : FnOk P w K mg base CX0 2 f fd ["_law_stream_here", "_law_many"] (spNamesR fun x => x.length ≤ 7) := by
  refine F.ok scNames (fun vs H Q E h => ?_) (fun cdv A outer s H vs Q E hr h => ?_)
  · obtain ⟨s, A, B, c, m, rfl, _⟩ := h
    rfl
  · obtain ⟨s, A, B, c, m, rfl, hS, hc, hm0, hm1, q⟩ := h
    refine ⟨_, (pss_cons (ps_set (i := 2) scNames.nd rfl (.inr rfl) pe_str)
      (pss_cons (ps_set (i := 3) scNames.nd rfl (.inr rfl) (pe_cal C_law_draw (hr.mono (by decide)) (by rfl) (pa_cons (pv 0) (pa_cons pe_int pa_nil))))
      (pss_cons (ps_set (i := 4) scNames.nd rfl (.inr rfl) (pe_join pe_str (pe_lc (own := [("_law_k", 5)]) (g := gName 5) (by rfl) scNames.nd (pi_range1 (by rfl) T.range (pa_cons (pe_cal C_law_draw (hr.mono (by decide)) (by rfl) (pa_cons (pv 0) (pa_cons pe_int pa_nil))) pa_nil))
 (blkOk_by (own := [("_law_k", 5)]) (N := nNames) (sc := defScope sNames) (by decide +kernel))
 (fun _ _ _ _ _ => (pg_name (i := 5) scNames.nd rfl (.inl rfl))) (fun _ _ _ _ _ => pts_nil) (fun _ _ _ _ _ => (pe_ix ix_str (pv 2) (pe_cal C_law_draw (hr.mono (by decide)) (by rfl) (pa_cons (pv 0) (pa_cons pe_int pa_nil))) (fun _ _ => rfl))))))
      (pss_cons (ps_set (i := 6) scNames.nd rfl (.inr rfl) (pe_join pe_str (pe_lc (own := [("_law_k", 5)]) (g := gName 5) (by rfl) scNames.nd (pi_range1 (by rfl) T.range (pa_cons (pe_cal C_law_draw (hr.mono (by decide)) (by rfl) (pa_cons (pv 0) (pa_cons pe_int pa_nil))) pa_nil))
 (blkOk_by (own := [("_law_k", 5)]) (N := nNames) (sc := defScope sNames) (by decide +kernel))
 (fun _ _ _ _ _ => (pg_name (i := 5) scNames.nd rfl (.inl rfl))) (fun _ _ _ _ _ => pts_nil) (fun _ _ _ _ _ => (pe_ix ix_str (pv 2) (pe_cal C_law_draw (hr.mono (by decide)) (by rfl) (pa_cons (pv 0) (pa_cons pe_int pa_nil))) (fun _ _ => rfl))))))
      (pss_one (ps_ret (pe_callB cr_sortedS (by rfl) T.sorted (by decide +kernel) (pa_cons (pe_lc (own := [("_law_k", 5)]) (g := gName 5) (by rfl) scNames.nd (pi_range1 (by rfl) T.range (pa_cons (pv 1) pa_nil))
 (blkOk_by (own := [("_law_k", 5)]) (N := nNames) (sc := defScope sNames) (by decide +kernel))
 (fun _ _ _ _ _ => (pg_name (i := 5) scNames.nd rfl (.inl rfl))) (fun _ _ _ _ _ => pts_nil) (fun _ _ _ _ _ => (pe_op op_add_str (pe_op op_add_str (pv 4) (pe_ix ix_str (pv 2) (pe_op op_modN (pe_op op_add (pv 3) (pe_op op_mul pe_int (pv 5))) pe_int) (fun _ _ => rfl))) (pv 6)))) pa_nil)))))))), ?_⟩
    refine ⟨_, rfl, s, A, B, c, _, rfl, hS, by omega, by decide, by decide, fun H1 r hS1 fr1 r0 r1 => ?_⟩
    refine ⟨⟨_, rfl⟩, _, rfl, s, A, B, c + 1, _, rfl, hS1, by omega, by decide, by decide, fun H2 r2 hS2 fr2 r20 r21 => ?_⟩
    have abc : (Str.ofString "abcdefghijklmnopqrstuvwxyz").cps.toList = (List.range 26).map (97 + ·) := by decide +kernel
    have nil : (Str.ofString "").cps.toList = [] := by decide +kernel
    refine ⟨r2, rfl, by omega, by omega, fun L hL => lc_range (lo := 0) (n := r2.toNat) (fun i H' => ∃ ys : List Str, StreamAt H' s A B (c + 1 + 1 + i) ∧ Fr s A H2 H' ∧ H' L = some (.lst (ys.map V.str)) ∧ ys.length = i ∧ ∀ y ∈ ys, Low 1 y)
      ⟨[], hS2.same (same_upd hL), Fr.of (same_upd hL), upd_same, rfl, fun y hy => absurd hy List.not_mem_nil⟩ ?_ ?_⟩
    · rintro i H' hi ⟨ys, hS', fr', e', l', p'⟩
      refine ⟨rfl, ?_⟩
      unfold tYes
      refine iteT ⟨_, rfl, _, rfl, s, A, B, c + 1 + 1 + i, _, rfl, hS', by omega, by decide, by decide, fun H'' x hS'' fr'' x0 x1 => ?_⟩
      have z := hS2.ne hL
      refine ⟨_, x, _, rfl, rfl, by decide +kernel, abc_at abc x0 x1, _, fr'' _ _ z.1.symm z.2.1.symm e', ?_, ys ++ [let1 x], hS''.put z, (fr'.trans fr'').put hL, ?_, ?_, ?_⟩
      · rw [List.length_map]
        exact small1000 (by omega)
      · rw [upd_same, vs_app]
        rfl
      · rw [List.length_append, l']
        rfl
      · intro y hy
        rcases List.mem_append.mp hy with hy | hy
        · exact p' y hy
        · rw [List.mem_singleton.mp hy]
          exact let1_low x0 x1
    rintro H3 ⟨ys, hS3, fr3, e3, l3, p3⟩
    refine ⟨_, L, ys, rfl, rfl, .inl (SqL.of e3), join_fits nil p3 (by omega), ?_⟩
    have hd : Low 3 (Txt.join (Str.ofString "") ys) := (join_low nil p3).mono (by omega)
    generalize Txt.join (Str.ofString "") ys = hd' at *
    have hS3 := hS3.mono (show _ ≤ c + 5 by omega)
    have fr3 : Fr s A H H3 := (fr1.trans fr2).trans fr3
    clear e3 l3 p3 hL fr2 hS2
    refine ⟨⟨_, rfl⟩, _, rfl, s, A, B, c + 5, _, rfl, hS3, by omega, by decide, by decide, fun H4 r4 hS4 fr4 r40 r41 => ?_⟩
    refine ⟨r4, rfl, by omega, by omega, fun M hM => lc_range (lo := 0) (n := r4.toNat) (fun i H' => ∃ ys : List Str, StreamAt H' s A B (c + 5 + 1 + i) ∧ Fr s A H4 H' ∧ H' M = some (.lst (ys.map V.str)) ∧ ys.length = i ∧ ∀ y ∈ ys, Low 1 y)
      ⟨[], hS4.same (same_upd hM), Fr.of (same_upd hM), upd_same, rfl, fun y hy => absurd hy List.not_mem_nil⟩ ?_ ?_⟩
    · rintro i H' hi ⟨ys, hS', fr', e', l', p'⟩
      refine ⟨rfl, ?_⟩
      unfold tYes
      refine iteT ⟨_, rfl, _, rfl, s, A, B, c + 5 + 1 + i, _, rfl, hS', by omega, by decide, by decide, fun H'' x hS'' fr'' x0 x1 => ?_⟩
      have z := hS4.ne hM
      refine ⟨_, x, _, rfl, rfl, by decide +kernel, abc_at abc x0 x1, _, fr'' _ _ z.1.symm z.2.1.symm e', ?_, ys ++ [let1 x], hS''.put z, (fr'.trans fr'').put hM, ?_, ?_, ?_⟩
      · rw [List.length_map]
        exact small1000 (by omega)
      · rw [upd_same, vs_app]
        rfl
      · rw [List.length_append, l']
        rfl
      · intro y hy
        rcases List.mem_append.mp hy with hy | hy
        · exact p' y hy
        · rw [List.mem_singleton.mp hy]
          exact let1_low x0 x1
    rintro H5 ⟨zs, hS5, fr5, e5, l5, p5⟩
    refine ⟨_, M, zs, rfl, rfl, .inl (SqL.of e5), join_fits nil p5 (by omega), ?_⟩
    have td : Low 3 (Txt.join (Str.ofString "") zs) := (join_low nil p5).mono (by omega)
    generalize Txt.join (Str.ofString "") zs = tl' at *
    have hS5 := hS5.mono (show _ ≤ c + 10 by omega)
    have fr5 : Fr s A H H5 := (fr3.trans fr4).trans fr5
    clear e5 l5 p5 hM fr4 hS4 hS3 fr3 fr1 hS1
    refine ⟨_, rfl, m, rfl, by omega, by omega, fun N hN => lc_range (lo := 0) (n := m.toNat) (fun i H' => Same H5 H' ∧ H' N = some (.lst (((List.range i).map (nmk hd' tl' r)).map V.str)))
      ⟨same_upd hN, upd_same⟩ ?_ ?_⟩
    · rintro i H' hi ⟨sm, e'⟩
      refine ⟨rfl, ?_⟩
      unfold tYes
      have g := fm26 (r + 7 * (0 + (i : Int)))
      refine iteT ⟨_, rfl, _, rfl, _, rfl, _, rfl, _, _, rfl, rfl, .inl ⟨by decide, by decide⟩, _, _, rfl, rfl, _, _, rfl, rfl, (by show (26 : Int) ≠ 0; decide), _, _, _, rfl, rfl, by decide +kernel, abc_at abc g.1 g.2, _, _, rfl, rfl, ?_, _, rfl, _, _, rfl, rfl, ?_, _, e', ?_, same_put sm hN, ?_⟩
      · show hd'.length + 1 ≤ sizeLine
        have := hd.1
        exact Nat.le_of_lt (small1000 (by omega))
      · rw [app_len]
        show hd'.length + 1 + tl'.length ≤ sizeLine
        have := hd.1
        have := td.1
        exact Nat.le_of_lt (small1000 (by omega))
      · rw [List.length_map, List.length_map, List.length_range]
        exact small1000 (by omega)
      · rw [upd_same, List.range_succ, List.map_append, vs_app]
        rfl
    rintro H6 ⟨sm6, e6⟩
    refine ⟨N, _, rfl, SqL.of e6, ?_, fun zs p hp hs hpn => ?_⟩
    · rw [List.length_map, List.length_range]
      omega
    have fr7 : Fr s A H (upd H6 p (.lst (zs.map V.str))) := fr5.trans (Fr.of (sm6.trans (same_upd hpn)))
    refine q _ p zs (hS5.same (sm6.trans (same_upd hpn))) fr7 (fr5.free hS5 (sm6.free hpn)) upd_same ?_ (sorted_names hp hs (nmk_nodup (by omega)) ?_) (fun x hx => ?_)
    · rw [hp.length_eq, List.length_map, List.length_range]
    · intro x hx
      obtain ⟨k, _, rfl⟩ := List.mem_map.mp hx
      exact nmk_nam hd td
    · obtain ⟨k, _, rfl⟩ := List.mem_map.mp (hp.mem_iff.mp hx)
      exact nmk_len hd td
theorem names_all {R : Str → Prop} {x : Str} {ps : List Str} {k : Nat} (C : Cal P w K mg base k x ps spNames) (h : ∀ z, R z) : Cal P w K mg base k x ps (spNamesR R) :=
  C.imp fun vs H Q E ⟨s, A, B, c, m, e, hS, hc, m0, m1, q⟩ => ⟨s, A, B, c, m, e, hS, hc, m0, m1, fun H' l ns a b c d e f => q H' l ns a b c d e f fun _ _ => h _⟩
theorem ok_names {f : Addr} {fd : FuncData} (F : Fun K "_law_names" "_law_names" sNames f fd) (T : Nm mg) (C_law_draw : Cal P w K mg base 1 "_law_draw" pDraw spDraw) : FnOk P w K mg base CX0 2 f fd ["_law_stream_here", "_law_many"] spNames :=
  (ok_names7 F T C_law_draw).imp fun vs H Q E ⟨s, A, B, c, m, e, hS, hc, m0, m1, q⟩ => ⟨s, A, B, c, m, e, hS, hc, m0, m1, fun H' l ns a b c d e f _ => q H' l ns a b c d e f⟩
end
end Fw
namespace Fw
open PySem PySem.Spec PyProof.Rows L2
theorem cut_vi (ns : List Int) (lo hi : Option Int) : ∃ ms : List Int, cutV (vi ns) lo hi = vi ms ∧ (∀ x ∈ ms, x ∈ ns) := by
  refine ⟨(ns.drop (HT.sIx (vi ns).length 0 lo)).take (HT.sIx (vi ns).length (vi ns).length hi - HT.sIx (vi ns).length 0 lo), ?_, fun x hx => List.mem_of_mem_drop (List.mem_of_mem_take hx)⟩
  unfold cutV vi
  rw [List.map_take, List.map_drop]
theorem cut_le (xs : List V) {m : Int} (h : 0 ≤ m) : (cutV xs none (some m)).length ≤ m.toNat := by
  unfold cutV
  rw [List.length_take]
  refine Nat.le_trans (Nat.min_le_left _ _) ?_
  show (if m < 0 then _ else min m.toNat xs.length) - 0 ≤ m.toNat
  rw [if_neg (by omega)]
  omega
theorem atI_in {xs : List Int} {r : Int} (h0 : 0 ≤ r) (h1 : r < (xs.length : Nat)) : ∃ x, x ∈ xs ∧ atI (vi xs) r = some (V.int x) := by
  have hj : r.toNat < xs.length := by omega
  refine ⟨xs[r.toNat], List.getElem_mem hj, ?_⟩
  have := atI_nat (xs := vi xs) (j := r.toNat) (v := V.int xs[r.toNat]) (by rw [List.getElem?_map, List.getElem?_eq_getElem hj]; rfl)
  rw [show ((r.toNat : Nat) : Int) = r by omega] at this
  exact this
theorem seq_by {a b : TS} {D : Ends} {σ : L2.St} {H : Hp} (M : L2.St → Hp → Prop) (h1 : ∀ N : L2.St → Hp → Prop, (∀ σ' H', M σ' H' → N σ' H') → a { D with nx := N } σ H) (h2 : ∀ σ' H', M σ' H' → b D σ' H') : tSeq a b D σ H := h1 _ h2
section
variable {P : Program} {w : World} {K : PySem.W.Frag} {mg : Str → Option Value} {base : Heap}
theorem HouseAt.room0 {H : Hp} {h : Addr} {n : Int} {D : List (Int × Int)} (x : HouseAt H h n D) : ∃ q, H h = some (.tup [.int n, .ref q]) := by
  obtain ⟨q, ps, h1, _⟩ := x
  exact ⟨q, h1⟩
def spPl : Sp := fun vs H Q _ => ∃ (s A B h : Addr) (c : Nat) (n : Int) (D : List (Int × Int)) (m : Int), vs = [.ref s, .ref h, .int m] ∧ StreamAt H s A B c ∧ c < 2 ^ 29 ∧ HouseAt H h n D ∧ 1 ≤ n ∧ n ≤ 8 ∧ 0 ≤ m ∧ m ≤ 12 ∧
  ∀ H' p P, StreamAt H' s A B (c + 60) → Fr s A H H' → PlD H' p P → Pl n P → P.length ≤ m.toNat → Q (.ref p) H'
/-- the same, with more known of each name -/
def spPlR (R : Str → Prop) : Sp := fun vs H Q _ => ∃ (s A B h : Addr) (c : Nat) (n : Int) (D : List (Int × Int)) (m : Int), vs = [.ref s, .ref h, .int m] ∧ StreamAt H s A B c ∧ c < 2 ^ 29 ∧ HouseAt H h n D ∧ 1 ≤ n ∧ n ≤ 8 ∧ 0 ≤ m ∧ m ≤ 12 ∧
  ∀ H' p P, StreamAt H' s A B (c + 60) → Fr s A H H' → PlD H' p P → Pl n P → P.length ≤ m.toNat → (∀ x ∈ P, R x.1) → Q (.ref p) H'
abbrev nPl : List Str := ["_law_stream_here", "_law_house_here", "_law_most", "_law_share", "_law_held", "_law_room", "_law_spots", "_law_k", "_law_found", "_law_name"]
theorem scPl : FnScope nPl ["_law_stream_here", "_law_house_here", "_law_most"] (defScope sPl) := ⟨rfl, rfl, rfl, by decide +kernel, rfl, by decide +kernel, by decide +kernel⟩
theorem ok_plR {R : Str → Prop} {f : Addr} {fd : FuncData} (F : Fun K "_law_placement" "_law_placement" sPl f fd) (T : Nm mg) (C_law_draw : Cal P w K mg base 1 "_law_draw" pDraw spDraw) (C_law_names : Cal P w K mg base 2 "_law_names" pDraw (spNamesR R)) : FnOk P w K mg base CX0 3 f fd pPl (spPlR R) := by
  refine F.ok scPl (fun vs H Q E h => ?_) (fun cdv A outer s H vs Q E hr h => ?_)
  · obtain ⟨s, A, B, h, c, n, D, m, rfl, _⟩ := h
    rfl
  · obtain ⟨s, A, B, h, c, n, D, m, rfl, hS, hc, hH, n0, n1, m0, m1, q⟩ := h
    refine ⟨_, (pss_cons (ps_set (i := 3) scPl.nd rfl (.inr rfl) (pe_cal C_law_draw (hr.mono (by decide)) (by rfl) (pa_cons (pv 0) (pa_cons pe_int pa_nil))))
      (pss_cons (ps_set (i := 4) scPl.nd rfl (.inl rfl) (pe_slice sl_list (pe_lc (own := [("_law_room", 5)]) (g := gName 5) (by rfl) scPl.nd (pi_range1 (by rfl) T.range (pa_cons (pe_ix ix_tup (pv 1) pe_int (fun _ _ => rfl)) pa_nil))
 (blkOk_by (own := [("_law_room", 5)]) (N := nPl) (sc := defScope sPl) (by decide +kernel))
 (fun _ _ _ _ _ => (pg_name (i := 5) scPl.nd rfl (.inl rfl))) (fun _ _ _ _ _ => pts_one (PW.pt (pw_or (pt_cmpR op_eq (pv 3) pe_int (nomark _)) (pw_or1 (pt_cmpR op_gt (pe_cal C_law_draw (hr.mono (by decide)) (by rfl) (pa_cons (pv 0) (pa_cons pe_int pa_nil))) pe_int (nomark _)))))) (fun _ _ _ _ _ => (pv 5))) po_none (po_some (pv 2))))
      (pss_cons (ps_set (i := 6) scPl.nd rfl (.inl rfl) (pe_callTy call_list_of (by rfl) T.list (by decide +kernel) (pa_cons (pv 4) pa_nil)))
      (pss_cons (ps_if (PW.pt (pw_and (pt_cmpR (op_neD hr.units) (pv 4) (pe_lst pa_nil) (nomark _)) (pw_and1 (pt_cmpR op_eq (pe_cal C_law_draw (hr.mono (by decide)) (by rfl) (pa_cons (pv 0) (pa_cons pe_int pa_nil))) pe_int (nomark _)))))
      (pss_one (ps_for PassesOwn.never rfl (pi_range1 (by rfl) T.range (pa_cons (pe_cal C_law_draw (hr.mono (by decide)) (by rfl) (pa_cons (pv 0) (pa_cons (pe_op op_add (pe_op op_sub (pv 2) (pe_callB call_len_seq (by rfl) T.len (by decide +kernel) (pa_cons (pv 4) pa_nil))) pe_int) pa_nil))) pa_nil)) (pg_name (i := 7) scPl.nd rfl (.inl rfl))
       (pss_one (ps_expr (pe_bm PySem.F.plainAttrs_list PySem.F.slot_list_append PySem.F.type_list_append mt_append (pv 6) (pa_cons (pe_ix ix_list (pv 4) (pe_cal C_law_draw (hr.mono (by decide)) (by rfl) (pa_cons (pv 0) (pa_cons (pe_callB call_len_seq (by rfl) T.len (by decide +kernel) (pa_cons (pv 4) pa_nil)) pa_nil))) (fun _ _ => rfl)) pa_nil))))))
      pss_nil)
      (pss_cons (ps_set (i := 8) scPl.nd rfl (.inl rfl) (pe_lst pa_nil))
      (pss_cons (ps_for PassesOwn.never rfl (pi_list (pe_cal C_law_names (hr.mono (by decide)) (by rfl) (pa_cons (pv 0) (pa_cons (pe_callB call_len_seq (by rfl) T.len (by decide +kernel) (pa_cons (pv 6) pa_nil)) pa_nil)))) (pg_name (i := 9) scPl.nd rfl (.inl rfl))
      (pss_one (ps_expr (pe_bm PySem.F.plainAttrs_list PySem.F.slot_list_append PySem.F.type_list_append mt_append (pv 8) (pa_cons (pe_tup (pa_cons (pv 9) (pa_cons (pe_bm PySem.F.plainAttrs_list PySem.F.slot_list_pop PySem.F.type_list_pop mt_popAt (pv 6) (pa_cons (pe_cal C_law_draw (hr.mono (by decide)) (by rfl) (pa_cons (pv 0) (pa_cons (pe_callB call_len_seq (by rfl) T.len (by decide +kernel) (pa_cons (pv 6) pa_nil)) pa_nil))) pa_nil)) pa_nil))) pa_nil)))))
      (pss_one (ps_ret (pe_callTy (call_tupleF K rfl) (by rfl) T.tuple (by decide +kernel) (pa_cons (pv 8) pa_nil)))))))))), ?_⟩
    refine ⟨_, rfl, s, A, B, c, _, rfl, hS, by omega, by decide, by decide, fun H1 sh hS1 fr1 _ _ => ?_⟩
    have hH1 := hH.fr hS fr1
    obtain ⟨qd, eh1⟩ := hH1.room0
    -- held
    refine ⟨_, rfl, h, _, _, _, rfl, rfl, SqT.of eh1, atI0, n, rfl, by omega, by omega, fun L hL => lc_range (lo := 0) (n := n.toNat) (fun i H' => ∃ ys : List Int, StreamAt H' s A B (c + 1 + i) ∧ Fr s A H1 H' ∧ H' L = some (.lst (vi ys)) ∧ ys.length ≤ i ∧ ∀ y ∈ ys, 0 ≤ y ∧ y < n)
      ⟨[], hS1.same (same_upd hL), Fr.of (same_upd hL), upd_same, Nat.le_refl _, fun y hy => absurd hy List.not_mem_nil⟩ ?_ ?_⟩
    · rintro i H' hi ⟨ys, hS', fr', e', l', p'⟩
      have z := hS1.ne hL
      refine ⟨rfl, tt_by (fun b H3 => StreamAt H3 s A B (c + 1 + (i + 1)) ∧ Fr s A H' H3) ?_ ?_⟩
      · intro Q' hQ'
        refine ⟨_, rfl, rfl, _, rfl, ?_⟩
        refine ite2 (fun _ => ?_) (fun _ => ?_)
        · exact hQ' _ _ ⟨hS'.mono (by omega), Fr.refl⟩
        · refine ⟨_, rfl, s, A, B, c + 1 + i, _, rfl, hS', by omega, by decide, by decide, fun H'' x hS'' fr'' x0 x1 => ⟨_, _, rfl, rfl, _, rfl, ?_⟩⟩
          exact hQ' _ _ ⟨hS'', fr''⟩
      · rintro b H3 ⟨hS3, fr3⟩
        have e3 := fr3 _ _ z.1.symm z.2.1.symm e'
        refine ite2 (fun _ => ?_) (fun _ => ?_)
        · refine ⟨_, rfl, _, e3, ?_, ys ++ [0 + (i : Int)], hS3.put z, (fr'.trans fr3).put hL, ?_, ?_, ?_⟩
          · rw [List.length_map]
            exact small1000 (by omega)
          · rw [upd_same, vi_app]
            rfl
          · rw [List.length_append, List.length_singleton]
            omega
          · intro y hy
            rcases List.mem_append.mp hy with hy | hy
            · exact p' y hy
            · rw [List.mem_singleton.mp hy]
              omega
        · exact ⟨ys, hS3, fr'.trans fr3, e3, by omega, p'⟩
    rintro H2 ⟨ys, hS2, fr2, e2, l2, p2⟩
    have hS2 := hS2.mono (show _ ≤ c + 9 by omega)
    refine ⟨_, rfl, m, rfl, L, _, rfl, SqL.of e2, fun M hM => ?_⟩
    have zM := hS2.ne hM
    obtain ⟨held, eh, ph⟩ := cut_vi ys none (some m)
    have lh : held.length ≤ m.toNat := by
      have := cut_le (vi ys) m0
      rw [eh, List.length_map] at this
      exact this
    have ph : ∀ y ∈ held, 0 ≤ y ∧ y < n := fun y hy => p2 y (ph y hy)
    rw [show cutV (vi ys) none (some m) = vi held from eh]
    clear eh
    have hS3 := hS2.same (same_upd (o := .lst (vi held)) hM)
    have fr3 : Fr s A H (upd H2 M (.lst (vi held))) := (fr1.trans fr2).trans (Fr.of (same_upd hM))
    have e3 : (upd H2 M (.lst (vi held))) M = some (.lst (vi held)) := upd_same
    generalize upd H2 M (.lst (vi held)) = H3 at *
    clear e2 p2 l2 fr2 hS2
    -- spots
    refine ⟨_, rfl, M, _, rfl, .inl (SqL.of e3), fun S hS' => ?_⟩
    have fS := fr3.free hS3 hS'
    have zS := hS3.ne hS'
    have nMS : M ≠ S := ne_of_none e3 hS'
    have hS4 := hS3.same (same_upd (o := .lst (vi held)) hS')
    have fr4 : Fr s A H (upd H3 S (.lst (vi held))) := fr3.trans (Fr.of (same_upd hS'))
    have e4 : (upd H3 S (.lst (vi held))) M = some (.lst (vi held)) := same_upd hS' _ _ e3
    have es4 : (upd H3 S (.lst (vi held))) S = some (.lst (vi held)) := upd_same
    generalize upd H3 S (.lst (vi held)) = H4 at *
    clear hS' hS3 fr3 e3
    dsimp only [gName]
    refine seq_by (fun σ' H' => ∃ (y5 y7 : Option V) (c' : Nat) (spots : List Int), σ' = [some (.ref s), some (.ref h), some (.int m), some (.int sh), some (.ref M), y5, some (.ref S), y7, none, none] ∧ StreamAt H' s A B c' ∧ c' ≤ c + 30 ∧ Fr s A H H' ∧ H' S = some (.lst (vi spots)) ∧ spots.length ≤ m.toNat ∧ ∀ y ∈ spots, 0 ≤ y ∧ y < n) ?_ ?_
    · intro N hN
      refine if_by (fun b H' => ∃ c', StreamAt H' s A B c' ∧ c' ≤ c + 10 ∧ Fr s A H H' ∧ H' S = some (.lst (vi held)) ∧ H' M = some (.lst (vi held)) ∧ (b = true → held ≠ [])) ?_ ?_ ?_
      · rintro H5 ⟨c5, hS5, hc5, fr5, es5, e5, ne⟩
        have ne := ne rfl
        have l0 : 0 < held.length := List.length_pos_iff.mpr ne
        refine ⟨_, rfl, _, rfl, _, rfl, M, _, rfl, .inl (SqL.of e5), _, _, rfl, rfl, _, _, rfl, rfl, s, A, B, c5, _, rfl, hS5, by omega, ?_, ?_, fun H6 x hS6 fr6 x0 x1 => ?_⟩
        · rw [List.length_map]; omega
        · rw [List.length_map]; omega
        rw [List.length_map] at x1
        refine ⟨x, rfl, by omega, by omega, for_range (lo := 0) (n := x.toNat) (fun i σ' H' => ∃ (y7 : Option V) (c' : Nat) (spots : List Int), σ' = [some (.ref s), some (.ref h), some (.int m), some (.int sh), some (.ref M), none, some (.ref S), y7, none, none] ∧ StreamAt H' s A B c' ∧ c' ≤ c5 + 1 + i ∧ Fr s A H H' ∧ H' S = some (.lst (vi spots)) ∧ H' M = some (.lst (vi held)) ∧ spots.length = held.length + i ∧ ∀ y ∈ spots, 0 ≤ y ∧ y < n)
          ⟨_, c5 + 1, held, rfl, hS6, by omega, fr5.trans fr6, fr6 _ _ zS.1.symm zS.2.1.symm es5, fr6 _ _ zM.1.symm zM.2.1.symm e5, rfl, ph⟩ ?_ ?_⟩
        · rintro i σ' H7 hi ⟨y7, c7, spots, rfl, hS7, hc7, fr7, es7, e7, l7, p7⟩
          refine ⟨_, rfl, .inl ⟨rfl, _, SqL.of es7⟩, _, rfl, _, rfl, _, rfl, M, _, rfl, .inl (SqL.of e7), s, A, B, c7, _, rfl, hS7, by omega, ?_, ?_, fun H8 y hS8 fr8 y0 y1 => ?_⟩
          · rw [List.length_map]; omega
          · rw [List.length_map]; omega
          rw [List.length_map] at y1
          obtain ⟨v, hv, ev⟩ := atI_in y0 y1
          have es8 := fr8 _ _ zS.1.symm zS.2.1.symm es7
          refine ⟨M, _, _, _, rfl, rfl, SqL.of (fr8 _ _ zM.1.symm zM.2.1.symm e7), ev, S, _, _, rfl, rfl, es8, ?_, _, c7 + 1, spots ++ [v], rfl, hS8.put zS, by omega, (fr7.trans fr8).put fS, ?_, ?_, ?_, ?_⟩
          · rw [List.length_map]
            exact small1000 (by omega)
          · rw [upd_same, vi_app]
            rfl
          · rw [upd_ne nMS]
            exact fr8 _ _ zM.1.symm zM.2.1.symm e7
          · rw [List.length_append, List.length_singleton]
            omega
          · intro z hz
            rcases List.mem_append.mp hz with hz | hz
            · exact p7 z hz
            · rw [List.mem_singleton.mp hz]
              exact ph v hv
        · rintro σ' H7 ⟨y7, c7, spots, rfl, hS7, hc7, fr7, es7, e7, l7, p7⟩
          exact hN _ _ ⟨_, _, c7, spots, rfl, hS7, by omega, fr7, es7, by omega, p7⟩
      · rintro H5 ⟨c5, hS5, hc5, fr5, es5, e5, ne⟩
        exact hN _ _ ⟨_, _, c5, held, rfl, hS5, by omega, fr5, es5, lh, ph⟩
      · intro Q' hQ'
        refine ⟨_, rfl, Nat.zero_le _, fun e he => ?_⟩
        have sm : Same H4 (upd H4 e (.lst [])) := same_upd he
        have hS5 := hS4.same sm
        have fr5 := fr4.trans (Fr.of sm)
        have e5 := sm _ _ e4
        have es5 := sm _ _ es4
        refine ⟨.list (held.map .int), .list [], .lst (SqL.of e5) (dp_ints held), .lst (SqL.of upd_same) .nil, shaped_list held, shaped_list [], _, rfl, ?_⟩
        rw [eqv_nil]
        generalize upd H4 e (.lst []) = H5 at *
        cases held with
        | nil => exact iteF (hQ' _ _ ⟨c + 9, hS5, by omega, fr5, es5, e5, fun h => nomatch h⟩)
        | cons x0 hr0 =>
          refine iteT ⟨_, rfl, s, A, B, c + 9, _, rfl, hS5, by omega, by decide, by decide, fun H6 x hS6 fr6 x0 x1 => ⟨rfl, _, rfl, ?_⟩⟩
          exact hQ' _ _ ⟨c + 9 + 1, hS6, by omega, fr5.trans fr6, fr6 _ _ zS.1.symm zS.2.1.symm es5, fr6 _ _ zM.1.symm zM.2.1.symm e5, fun _ => List.cons_ne_nil _ _⟩
    clear e4 es4 fr4 hS4
    rintro σ' H5 ⟨y5, y7, c5, spots, rfl, hS5, hc5, fr5, es5, l5, p5⟩
    refine ⟨Nat.zero_le _, fun R hR => ?_⟩
    have zR := hS5.ne hR
    have gR := fr5.free hS5 hR
    have nSR : S ≠ R := ne_of_none es5 hR
    have hS6 := hS5.same (same_upd (o := .lst []) hR)
    have fr6 := fr5.trans (Fr.of (same_upd (o := .lst []) hR))
    have es6 := same_upd (o := .lst []) hR _ _ es5
    have eR6 : (upd H5 R (.lst [])) R = some (.lst []) := upd_same
    generalize upd H5 R (.lst []) = H6 at *
    clear hS5 fr5 es5 hR
    refine ⟨_, rfl, _, rfl, S, _, rfl, .inl (SqL.of es6), s, A, B, c5, _, rfl, hS6, by omega, by omega, ?_, fun H7 NL ns hS7 fr7 hNL eN lN nN nR => ?_⟩
    · rw [List.length_map]; omega
    have zN := hS6.ne hNL
    have gN := fr6.free hS6 hNL
    have nSN : S ≠ NL := ne_of_none es6 hNL
    have nRN : R ≠ NL := ne_of_none eR6 hNL
    rw [List.length_map] at lN
    have lN : ns.length = spots.length := by omega
    refine ⟨NL, rfl, ⟨_, SqL.of eN⟩, for_list (K := K) (a := NL) (xs := ns.map V.str) (fun i σ' H' => ∃ (y9 : Option V) (sp : List Int) (ps : List (Addr × Str × Int)), σ' = [some (.ref s), some (.ref h), some (.int m), some (.int sh), some (.ref M), y5, some (.ref S), y7, some (.ref R), y9] ∧ StreamAt H' s A B (c5 + 10 + i) ∧ Fr s A H H' ∧ H' NL = some (.lst (ns.map V.str)) ∧ H' S = some (.lst (vi sp)) ∧ sp.length + i = ns.length ∧ (∀ y ∈ sp, 0 ≤ y ∧ y < n) ∧
        H' R = some (.lst (ps.map fun q => V.ref q.1)) ∧ (ps.map (·.2.1)) = ns.take i ∧ (∀ q ∈ ps, H' q.1 = some (.tup [.str q.2.1, .int q.2.2])) ∧ ∀ q ∈ ps, 0 ≤ q.2.2 ∧ q.2.2 < n)
      ⟨_, spots, [], rfl, hS7, fr6.trans fr7, eN, fr7 _ _ zS.1.symm zS.2.1.symm es6, by omega, p5, fr7 _ _ zR.1.symm zR.2.1.symm eR6, rfl, fun q hq => absurd hq List.not_mem_nil, fun q hq => absurd hq List.not_mem_nil⟩ ?_ ?_ ?_⟩
    · rintro i σ' H' _ ⟨y9, sp, ps, _, _, _, e', _⟩
      exact SqL.of e'
    · rintro i x σ' H8 hx ⟨y9, sp, ps, rfl, hS8, fr8, eN8, es8, l8, p8, eR8, en8, ep8, pr8⟩
      obtain ⟨nm, hnm, rfl⟩ := get_vs hx
      have hi : i < ns.length := (List.getElem?_eq_some_iff.mp hnm).1
      have hps : ps.length = i := by
        have := congrArg List.length en8
        rw [List.length_map, List.length_take] at this
        omega
      refine ⟨_, rfl, .inl ⟨rfl, _, SqL.of eR8⟩, _, rfl, _, rfl, .inl ⟨rfl, _, SqL.of es8⟩, _, rfl, _, rfl, S, _, rfl, .inl (SqL.of es8), s, A, B, c5 + 10 + i, _, rfl, hS8, by omega, ?_, ?_, fun H9 r hS9 fr9 r0 r1 => ?_⟩
      · rw [List.length_map]; omega
      · rw [List.length_map]; omega
      rw [List.length_map] at r1
      have hj : r.toNat < sp.length := by omega
      have ixr : ixN (vi sp).length r = some r.toNat := by
        unfold ixN
        rw [List.length_map, if_pos r0, if_pos r1]
      have gx : (vi sp)[r.toNat]? = some (V.int sp[r.toNat]) := by
        rw [List.getElem?_map, List.getElem?_eq_getElem hj]
        rfl
      have es9 := fr9 _ _ zS.1.symm zS.2.1.symm es8
      refine ⟨S, _, r, r.toNat, _, rfl, rfl, es9, by omega, by omega, (ixN_seq ixr).1, gx, by show 2 ≤ sizeLine; decide, fun t ht => ?_⟩
      have zt := (hS9.put (o := .lst ((vi sp).eraseIdx r.toNat)) zS).ne ht
      have hS10 := (hS9.put (o := .lst ((vi sp).eraseIdx r.toNat)) zS)
      have fr10 := (fr8.trans fr9).put (o := .lst ((vi sp).eraseIdx r.toNat)) fS
      have eR10 : (upd H9 S (.lst ((vi sp).eraseIdx r.toNat))) R = _ := (upd_ne nSR.symm).trans (fr9 _ _ zR.1.symm zR.2.1.symm eR8)
      have eN10 : (upd H9 S (.lst ((vi sp).eraseIdx r.toNat))) NL = _ := (upd_ne nSN.symm).trans (fr9 _ _ zN.1.symm zN.2.1.symm eN8)
      have es10 : (upd H9 S (.lst ((vi sp).eraseIdx r.toNat))) S = some (.lst (vi (sp.eraseIdx r.toNat))) := by rw [upd_same, vi_erase]
      have ep10 : ∀ q ∈ ps, (upd H9 S (.lst ((vi sp).eraseIdx r.toNat))) q.1 = some (.tup [.str q.2.1, .int q.2.2]) := fun q hq => by
        have := fr9.tup hS8 (ep8 q hq)
        rw [upd_ne (ne_of this es9 (by intro z; cases z))]
        exact this
      generalize upd H9 S (.lst ((vi sp).eraseIdx r.toNat)) = H10 at *
      have sm := same_upd (o := .tup [.str nm, .int sp[r.toNat]]) ht
      have eR11 := sm _ _ eR10
      have et : (upd H10 t (.tup [.str nm, .int sp[r.toNat]])) t = some (.tup [.str nm, .int sp[r.toNat]]) := upd_same
      have ep11 : ∀ q ∈ ps, (upd H10 t (.tup [.str nm, .int sp[r.toNat]])) q.1 = some (.tup [.str q.2.1, .int q.2.2]) := fun q hq => sm _ _ (ep10 q hq)
      have hS11 := hS10.same sm
      have fr11 := fr10.trans (Fr.of sm)
      have es11 := sm _ _ es10
      have eN11 := sm _ _ eN10
      generalize upd H10 t (.tup [.str nm, .int sp[r.toNat]]) = H11 at *
      refine ⟨R, _, _, rfl, rfl, eR11, ?_, _, sp.eraseIdx r.toNat, ps ++ [(t, nm, sp[r.toNat])], rfl, (hS11.put zR), fr11.put gR, ?_, ?_, ?_, ?_, ?_, ?_, ?_, ?_⟩
      · rw [List.length_map]
        exact small1000 (by omega)
      · rw [upd_ne nRN.symm]
        exact eN11
      · rw [upd_ne nSR]
        exact es11
      · rw [List.length_eraseIdx, if_pos hj]
        omega
      · intro y hy
        exact p8 y (List.mem_of_mem_eraseIdx hy)
      · rw [upd_same, List.map_append]
        rfl
      · rw [List.map_append, List.take_add_one, hnm, en8]
        rfl
      · intro q hq
        rcases List.mem_append.mp hq with hq | hq
        · rw [upd_ne (ne_of (ep11 q hq) eR11 (by intro z; cases z))]
          exact ep11 q hq
        · rw [List.mem_singleton.mp hq]
          rw [upd_ne (ne_of et eR11 (by intro z; cases z))]
          exact et
      · intro q hq
        rcases List.mem_append.mp hq with hq | hq
        · exact pr8 q hq
        · rw [List.mem_singleton.mp hq]
          exact p8 _ (List.getElem_mem hj)
    · rintro σ' H8 ⟨y9, sp, ps, rfl, hS8, fr8, eN8, es8, l8, p8, eR8, en8, ep8, pr8⟩
      rw [List.length_map, List.take_length] at en8
      rw [List.length_map] at hS8 l8
      refine ⟨_, rfl, R, _, rfl, SqL.of eR8, fun t ob ht od => ?_⟩
      have sm := same_upd (o := .frz ob (.tup (ps.map fun q => V.ref q.1))) ht
      refine q _ t (ps.map (·.2)) ((hS8.same sm).mono (by omega)) (fr8.trans (Fr.of sm)) ⟨ps, ob, od, upd_same, rfl, fun q hq => sm _ _ (ep8 q hq)⟩ ⟨?_, ?_⟩ ?_ (fun x hx => nR _ ?_)
      · rw [List.map_map]
        show Names (ps.map (·.2.1))
        rw [en8]
        exact nN
      · intro x hx
        obtain ⟨q, hq, rfl⟩ := List.mem_map.mp hx
        exact pr8 q hq
      · have := congrArg List.length en8
        rw [List.length_map] at this
        rw [List.length_map]
        omega
      · obtain ⟨q, hq, rfl⟩ := List.mem_map.mp hx
        rw [← en8]
        exact List.mem_map_of_mem (f := (·.2.1)) hq
theorem ok_pl {f : Addr} {fd : FuncData} (F : Fun K "_law_placement" "_law_placement" sPl f fd) (T : Nm mg) (C_law_draw : Cal P w K mg base 1 "_law_draw" pDraw spDraw) (C_law_names : Cal P w K mg base 2 "_law_names" pDraw spNames) : FnOk P w K mg base CX0 3 f fd pPl spPl :=
  (ok_plR (R := fun _ => True) F T C_law_draw (names_all C_law_names fun _ => trivial)).imp fun vs H Q E ⟨s, A, B, h, c, n, D, m, e, hS, hc, hH, n0, n1, m0, m1, q⟩ => ⟨s, A, B, h, c, n, D, m, e, hS, hc, hH, n0, n1, m0, m1, fun H' p P a b c d e _ => q H' p P a b c d e⟩
end
end Fw
namespace Fw
open PySem PySem.Spec PyProof.Rows L2
/-! ### what a walk over a placement needs: tuples stay -/
structure Tk (H H' : Hp) : Prop where
  t : ∀ {b : Addr} {xs : List V}, H b = some (.tup xs) → H' b = some (.tup xs)
  f : ∀ {b : Addr} {o : Obj} {xs : List V}, H b = some (.frz o (.tup xs)) → H' b = some (.frz o (.tup xs))
theorem Tk.refl {H : Hp} : Tk H H := ⟨fun e => e, fun e => e⟩
theorem Tk.of {H H' : Hp} (h : Same H H') : Tk H H' := ⟨fun e => h _ _ e, fun e => h _ _ e⟩
theorem Tk.trans {H H1 H2 : Hp} (a : Tk H H1) (b : Tk H1 H2) : Tk H H2 := ⟨fun e => b.t (a.t e), fun e => b.f (a.f e)⟩
theorem Tk.fr {s A B : Addr} {c : Nat} {H H' : Hp} (f : Fr s A H H') (hS : StreamAt H s A B c) : Tk H H' := ⟨fun e => f.tup hS e, fun e => f.frz hS e⟩
theorem Tk.put {H H' : Hp} (a : Tk H H') {L : Addr} {xs : List V} {o : HO} (h : H' L = some (.lst xs)) : Tk H (upd H' L o) := by
  refine ⟨fun e => ?_, fun e => ?_⟩
  · rw [upd_ne (ne_of (a.t e) h (by intro z; cases z))]
    exact a.t e
  · rw [upd_ne (ne_of (a.f e) h (by intro z; cases z))]
    exact a.f e
theorem Tk.putD {H H' : Hp} (a : Tk H H') {L : Addr} {xs : List (Key × V)} {o : HO} (h : H' L = some (.dK xs)) : Tk H (upd H' L o) := by
  refine ⟨fun e => ?_, fun e => ?_⟩
  · rw [upd_ne (ne_of (a.t e) h (by intro z; cases z))]
    exact a.t e
  · rw [upd_ne (ne_of (a.f e) h (by intro z; cases z))]
    exact a.f e
theorem Tk.new {H H' : Hp} (a : Tk H H') {L : Addr} {o : HO} (h : H' L = none) : Tk H (upd H' L o) := a.trans (Tk.of (same_upd h))
theorem HouseAt.tk {H H' : Hp} {h : Addr} {n : Int} {D : List (Int × Int)} (x : HouseAt H h n D) (e : Tk H H') : HouseAt H' h n D := by
  obtain ⟨q, ps, h1, h2, h3, h4⟩ := x
  exact ⟨q, ps, e.t h1, e.t h2, h3, fun p hp => e.t (h4 p hp)⟩
theorem TpAt.tk {H H' : Hp} {p : Addr} {xs : List V} (x : TpAt H p xs) (e : Tk H H') : TpAt H' p xs := x.elim (fun h => .inl (e.t h)) fun ⟨o, d, h⟩ => .inr ⟨o, d, e.f h⟩
theorem PlAt.tk {H H' : Hp} {p : Addr} {P : List (Str × Int)} (x : PlAt H p P) (e : Tk H H') : PlAt H' p P := by
  obtain ⟨ps, h1, h2, h3⟩ := x
  exact ⟨ps, h1.tk e, h2, fun q hq => e.t (h3 q hq)⟩
theorem PlD.tk {H H' : Hp} {p : Addr} {P : List (Str × Int)} (x : PlD H p P) (e : Tk H H') : PlD H' p P := by
  obtain ⟨ps, o, d, h1, h2, h3⟩ := x
  exact ⟨ps, o, d, e.f h1, h2, fun q hq => e.t (h3 q hq)⟩
theorem get_pl {ps : List (Addr × Str × Int)} {i : Nat} {x : V} (h : (ps.map fun p => V.ref p.1)[i]? = some x) : ∃ p, ps[i]? = some p ∧ x = .ref p.1 := by
  rw [List.getElem?_map] at h
  cases e : ps[i]? with
  | none => rw [e] at h; cases h
  | some v => rw [e] at h; exact ⟨v, rfl, (Option.some.inj h).symm⟩
/-- a comprehension over a placement -/
theorem lc_pl {K : PySem.W.Frag} {p : Addr} {P : List (Str × Int)} {i j : Nat} {tt : TT} {te : TE} {vs : List Nat} {σ : L2.St} {H1 : Hp} {D : Addr} {Qd : Hp → Prop} (x : PlAt H1 p P) (Pv : Nat → Hp → Prop) (h0 : Pv 0 (upd H1 D (.lst []))) (hl : ∀ k H, Pv k H → Tk H1 H)
    (hs : ∀ k nm r H, P[k]? = some (nm, r) → Pv k H → wipe (((wipe σ vs).set i (some (.str nm))).set j (some (.int r))) vs = wipe σ vs ∧ tt (((wipe σ vs).set i (some (.str nm))).set j (some (.int r))) H fun b H3 =>
      if b = true then te (((wipe σ vs).set i (some (.str nm))).set j (some (.int r))) H3 fun y H4 => ∃ acc, H4 D = some (.lst acc) ∧ acc.length < sizeLine ∧ Pv (k + 1) (upd H4 D (.lst (acc ++ [y]))) else Pv (k + 1) H3) (hd : ∀ H, Pv P.length H → Qd H) :
    ∃ W : Nat → Nat → Hp → Prop, (∃ m, W 0 m (upd H1 D (.lst []))) ∧ ∀ k m H, W k m H →
      ((Itt K p).stop k H ∧ Qd H) ∨ ((Itt K p).go k H ∧ ∃ Nx : Hp → Prop, (∀ H', Nx H' → ∃ m', m' < m ∧ W (k + 1) m' H') ∧ ∀ x H', (Itt K p).yld k H x H' → gTup K 2 (gCons (gName i) (gCons (gName j) gNil)) x (wipe σ vs) H' fun σ2 H2 => wipe σ2 vs = wipe σ vs ∧ tt σ2 H2 fun b H3 =>
        if b = true then te σ2 H3 fun y H4 => ∃ acc, H4 D = some (.lst acc) ∧ acc.length < sizeLine ∧ Nx (upd H4 D (.lst (acc ++ [y]))) else Nx H3) := by
  obtain ⟨ps, h1, rfl, h3⟩ := x
  refine lc_tup (K := K) (a := p) (xs := ps.map fun q => V.ref q.1) Pv h0 (fun i H _ hp => (h1.tk (hl i H hp)).sq) (fun k x H hx hp => ?_) (fun H hp => hd H (by rw [List.length_map] at hp ⊢; exact hp))
  obtain ⟨q, hq, rfl⟩ := get_pl hx
  refine ⟨q.1, _, rfl, SqT.of ((hl k H hp).t (h3 q (List.mem_of_getElem? hq))), rfl, _, _, rfl, _, _, rfl, rfl, ?_⟩
  exact hs k q.2.1 q.2.2 H (by rw [List.getElem?_map, hq]; rfl) hp
/-- a loop over a placement -/
theorem for_pl {K : PySem.W.Frag} {p : Addr} {P : List (Str × Int)} {i j : Nat} {tb : TS} {D : Ends} {σ : L2.St} {H0 H : Hp} (x : PlAt H0 p P) (Pv : Nat → L2.St → Hp → Prop) (h0 : Pv 0 σ H) (hl : ∀ k σ H, Pv k σ H → Tk H0 H)
    (hs : ∀ k nm r σ H, P[k]? = some (nm, r) → Pv k σ H → tb { D with nx := Pv (k + 1), ct := Pv (k + 1), bk := D.nx } ((σ.set i (some (.str nm))).set j (some (.int r))) H) (hd : ∀ σ H, Pv P.length σ H → D.nx σ H) :
    ∃ W : Nat → Nat → L2.St → Hp → Prop, (∃ m, W 0 m σ H) ∧ ∀ k m σ H, W k m σ H →
      ((Itt K p).stop k H ∧ D.nx σ H) ∨ ((Itt K p).go k H ∧ ∃ N : L2.St → Hp → Prop, (∀ σ' H', N σ' H' → ∃ m', m' < m ∧ W (k + 1) m' σ' H') ∧ ∀ x H', (Itt K p).yld k H x H' → gTup K 2 (gCons (gName i) (gCons (gName j) gNil)) x σ H' fun σ2 H2 => tb { D with nx := N, ct := N, bk := D.nx } σ2 H2) := by
  obtain ⟨ps, h1, rfl, h3⟩ := x
  refine for_tup (K := K) (a := p) (xs := ps.map fun q => V.ref q.1) Pv h0 (fun i σ H _ hp => (h1.tk (hl i σ H hp)).sq) (fun k x σ H hx hp => ?_) (fun σ H hp => hd σ H (by rw [List.length_map] at hp ⊢; exact hp))
  obtain ⟨q, hq, rfl⟩ := get_pl hx
  refine ⟨q.1, _, rfl, SqT.of ((hl k σ H hp).t (h3 q (List.mem_of_getElem? hq))), rfl, _, _, rfl, _, _, rfl, rfl, ?_⟩
  exact hs k q.2.1 q.2.2 σ H (by rw [List.getElem?_map, hq]; rfl) hp
theorem PlAt.sq {K : PySem.W.Frag} {H : Hp} {p : Addr} {P : List (Str × Int)} (x : PlAt H p P) : ∃ xs, SqT K H p xs := by
  obtain ⟨ps, h1, _⟩ := x
  exact ⟨_, h1.sq⟩
theorem inV_vi (x : Int) (R : List Int) : inV (.int x) (vi R) = decide (x ∈ R) := by
  unfold inV
  rw [Bool.eq_iff_iff, List.any_eq_true, decide_eq_true_eq]
  constructor
  · rintro ⟨y, hy, e⟩
    obtain ⟨z, hz, rfl⟩ := List.mem_map.mp hy
    have : z = x := by simpa [eqV] using e
    exact this ▸ hz
  · intro h
    exact ⟨.int x, List.mem_map_of_mem h, by simp [eqV]⟩
theorem flat_vi (R : List Int) : (vi R).all flatV = true := by
  rw [List.all_eq_true]
  intro x hx
  obtain ⟨z, _, rfl⟩ := List.mem_map.mp hx
  rfl
theorem take_snoc {α : Type} {xs : List α} {k : Nat} {x : α} (h : xs[k]? = some x) : xs.take (k + 1) = xs.take k ++ [x] := by
  rw [List.take_add_one, h]
  rfl
theorem filter_snoc {α : Type} (f : α → Bool) (xs : List α) (x : α) : (xs ++ [x]).filter f = xs.filter f ++ if f x = true then [x] else [] := by
  rw [List.filter_append]
  congr 1
  by_cases c : f x = true
  · rw [if_pos c, List.filter_cons_of_pos c]
    rfl
  · rw [if_neg c, List.filter_cons_of_neg c]
    rfl
theorem lt_of_get {α : Type} {xs : List α} {k : Nat} {x : α} (h : xs[k]? = some x) : k < xs.length := (List.getElem?_eq_some_iff.mp h).1
theorem sqT_same {K : PySem.W.Frag} {H H' : Hp} {a : Addr} {xs : List V} (e : Same H H') (h : SqT K H a xs) : SqT K H' a xs :=
  h.imp (Or.imp (e a _) fun ⟨o, x⟩ => ⟨o, e a _ x⟩) id
end Fw
namespace Fw
open PySem PySem.Spec PyProof.Rows L2
/-- who is in the rooms R -/
def inside (P : List (Str × Int)) (R : List Int) : List Str := (P.filter fun x => decide (x.2 ∈ R)).map (·.1)
theorem inside_snoc {P : List (Str × Int)} {R : List Int} {k : Nat} {nm : Str} {r : Int} (h : P[k]? = some (nm, r)) : inside (P.take (k + 1)) R = inside (P.take k) R ++ if r ∈ R then [nm] else [] := by
  unfold inside
  rw [take_snoc h, filter_snoc, List.map_append]
  congr 1
  by_cases c : r ∈ R
  · rw [if_pos c, if_pos (by simpa using c)]
    rfl
  · rw [if_neg c, if_neg (by simpa using c)]
    rfl
theorem inside_len (P : List (Str × Int)) (R : List Int) : (inside P R).length ≤ P.length := by
  unfold inside
  rw [List.length_map]
  exact List.length_filter_le _ _
theorem inside_nil {P : List (Str × Int)} {R : List Int} : inside P R = [] ↔ ∀ x ∈ P, x.2 ∉ R := by
  unfold inside
  rw [List.map_eq_nil_iff, List.filter_eq_nil_iff]
  simp
theorem key_uniq {P : List (Str × Int)} (nd : (P.map (·.1)).Nodup) {x y : Str × Int} (hx : x ∈ P) (hy : y ∈ P) (e : x.1 = y.1) : x = y := by
  induction P with
  | nil => cases hx
  | cons z P ih =>
    rw [List.map_cons, List.nodup_cons] at nd
    rcases List.mem_cons.mp hx with h1 | h1 <;> rcases List.mem_cons.mp hy with h2 | h2
    · rw [h1, h2]
    · exact absurd (List.mem_map_of_mem (f := (·.1)) h2) (by rw [← e, h1]; exact nd.1)
    · exact absurd (List.mem_map_of_mem (f := (·.1)) h1) (by rw [e, h2]; exact nd.1)
    · exact ih nd.2 h1 h2
section
variable {P : Program} {w : World} {K : PySem.W.Frag} {mg : Str → Option Value} {base : Heap}
def spPWi (K : PySem.W.Frag) : Sp := fun vs H Q _ => ∃ (p t : Addr) (P : List (Str × Int)) (R : List Int), vs = [.ref p, .ref t] ∧ PlAt H p P ∧ SqT K H t (vi R) ∧ P.length ≤ 100 ∧
  ∀ H' u, Same H H' → H' u = some (.tup ((inside P R).map V.str)) → Q (.ref u) H'
abbrev nPWi : List Str := ["placement", "rooms", "name", "room"]
theorem scPWi : FnScope nPWi ["placement", "rooms"] (defScope sPWi) := ⟨rfl, rfl, rfl, by decide +kernel, rfl, by decide +kernel, by decide +kernel⟩
theorem ok_pwi {f : Addr} {fd : FuncData} {k : Nat} (F : Fun K "people_within" "people_within" sPWi f fd) (T : Nm mg) : FnOk P w K mg base CX0 (k + 1) f fd pPWi (spPWi K) := by
  refine F.ok scPWi (fun vs H Q E h => ?_) (fun cdv A outer s H vs Q E hr h => ?_)
  · obtain ⟨p, t, P, R, rfl, _⟩ := h
    rfl
  · obtain ⟨p, t, P, R, rfl, hP, hR, hl, q⟩ := h
    refine ⟨_, (pss_one (ps_ret (pe_callTy call_tuple_of (by rfl) T.tuple (by decide +kernel) (pa_cons (pe_lc (own := [("name", 2), ("room", 3)]) (g := gTup K 2 (gCons (gName 2) (gCons (gName 3) gNil))) (by rfl) scPWi.nd (pi_tup (pv 0))
 (blkOk_by (own := [("name", 2), ("room", 3)]) (N := nPWi) (sc := defScope sPWi) (by decide +kernel))
 (fun _ _ _ _ _ => (pg_tup (by rfl) (pgs_cons (pg_name (i := 2) scPWi.nd rfl (.inl rfl)) (pgs_cons (pg_name (i := 3) scPWi.nd rfl (.inl rfl)) pgs_nil)))) (fun _ _ _ _ _ => pts_one (pt_cmpR (op_inK K rfl) (pv 3) (pv 1) (by rfl))) (fun _ _ _ _ _ => (pv 2))) pa_nil)))), ?_⟩
    refine ⟨_, rfl, p, rfl, hP.sq, fun L hL => lc_pl hP (fun i H1 => Same H H1 ∧ H1 L = some (.lst ((inside (P.take i) R).map V.str))) ⟨same_upd hL, upd_same⟩ (fun _ _ h => Tk.of h.1) ?_ ?_⟩
    · rintro k nm r H1 hk ⟨s1, e1⟩
      refine ⟨rfl, _, rfl, _, rfl, t, _, rfl, .inr (sqT_same s1 hR), rfl, flat_vi R, _, rfl, ?_⟩
      rw [if_neg (by decide), inV_vi, inside_snoc hk]
      refine ite2 (fun c => ?_) (fun c => ?_)
      · rw [if_pos (of_decide_eq_true c)]
        refine ⟨_, rfl, _, e1, ?_, same_put s1 hL, ?_⟩
        · rw [List.length_map]
          have h1 := inside_len (P.take k) R
          rw [List.length_take] at h1
          exact small1000 (by omega)
        · rw [upd_same, vs_app]
          rfl
      · rw [if_neg (fun z => c (decide_eq_true z)), List.append_nil]
        exact ⟨s1, e1⟩
    · rintro H1 ⟨s1, e1⟩
      rw [List.take_length] at e1
      exact ⟨L, _, rfl, .inl ⟨SqL.of e1, fun t ht => q _ t (s1.trans (same_upd ht)) upd_same⟩⟩

def spPIn : Sp := fun vs H Q _ => ∃ (p : Addr) (P : List (Str × Int)) (r : Int), vs = [.ref p, .int r] ∧ PlAt H p P ∧ P.length ≤ 100 ∧
  ∀ H' u, Same H H' → H' u = some (.tup ((inside P [r]).map V.str)) → Q (.ref u) H'
abbrev nPIn : List Str := ["placement", "room"]
theorem scPIn : FnScope nPIn ["placement", "room"] (defScope sPIn) := ⟨rfl, rfl, rfl, by decide +kernel, rfl, by decide +kernel, by decide +kernel⟩
theorem ok_pin {f : Addr} {fd : FuncData} {k : Nat} (F : Fun K "people_in" "people_in" sPIn f fd) (T : Nm mg) (Cpeople_within : Cal P w K mg base (k + 1) "people_within" pPWi (spPWi K)) : FnOk P w K mg base CX0 (k + 2) f fd pPIn spPIn := by
  refine F.ok scPIn (fun vs H Q E h => ?_) (fun cdv A outer s H vs Q E hr h => ?_)
  · obtain ⟨p, P, r, rfl, _⟩ := h
    rfl
  · obtain ⟨p, P, r, rfl, hP, hl, q⟩ := h
    refine ⟨_, (pss_one (ps_ret (pe_cal Cpeople_within hr (by rfl) (pa_cons (pv 0) (pa_cons (pe_tup (pa_cons (pv 1) pa_nil)) pa_nil))))), ?_⟩
    refine ⟨_, rfl, _, rfl, by show 1 ≤ sizeLine; decide, fun t ht => ⟨p, t, P, [r], rfl, hP.same (same_upd ht), SqT.of upd_same, hl, fun H' u s1 e1 => q _ u ((same_upd ht).trans s1) e1⟩⟩

def spRoomOf : Sp := fun vs H Q _ => ∃ (p : Addr) (P : List (Str × Int)) (nm : Str) (r : Int), vs = [.ref p, .str nm] ∧ PlAt H p P ∧ (nm, r) ∈ P ∧ (P.map (·.1)).Nodup ∧ Q (.int r) H
abbrev nRoomOf : List Str := ["placement", "name", "person", "room"]
theorem scRoomOf : FnScope nRoomOf ["placement", "name"] (defScope sRoomOf) := ⟨rfl, rfl, rfl, by decide +kernel, rfl, by decide +kernel, by decide +kernel⟩
theorem ok_roomof {f : Addr} {fd : FuncData} {k : Nat} (F : Fun K "room_of" "room_of" sRoomOf f fd) : FnOk P w K mg base CX0 (k + 1) f fd pRoomOf spRoomOf := by
  refine F.ok scRoomOf (fun vs H Q E h => ?_) (fun cdv A outer s H vs Q E hr h => ?_)
  · obtain ⟨p, P, nm, r, rfl, _⟩ := h
    rfl
  · obtain ⟨p, P, nm, r, rfl, hP, hm, nd, q⟩ := h
    refine ⟨_, (pss_cons (ps_for PassesOwn.never rfl (pi_tup (pv 0)) (pg_tup (by rfl) (pgs_cons (pg_name (i := 2) scRoomOf.nd rfl (.inl rfl)) (pgs_cons (pg_name (i := 3) scRoomOf.nd rfl (.inl rfl)) pgs_nil)))
      (pss_one (ps_if (pt_cmpR op_eq (pv 2) (pv 1) (nomark _))
       (pss_one (ps_ret (pv 3)))
       pss_nil)))
      pss_never), ?_⟩
    refine ⟨_, rfl, p, rfl, hP.sq, for_pl hP (fun i σ' H' => ∃ y2 y3, σ' = [some (.ref p), some (.str nm), y2, y3] ∧ H' = H ∧ ∀ x ∈ P.take i, x.1 ≠ nm) ⟨_, _, rfl, rfl, fun x hx => by cases hx⟩ ?_ ?_ ?_⟩
    · rintro k σ' H' ⟨_, _, _, rfl, _⟩
      exact Tk.refl
    · rintro k n' r' σ' H' hk ⟨y2, y3, rfl, rfl, hn⟩
      refine ⟨_, rfl, _, rfl, rfl, _, rfl, ?_⟩
      refine ite2 (fun c => ?_) (fun c => ?_)
      · have c : n' = nm := V.str.inj (of_decide_eq_true c)
        subst c
        have := key_uniq nd (List.mem_of_getElem? hk) hm rfl
        cases this
        exact ⟨_, rfl, q⟩
      · refine ⟨_, _, rfl, rfl, fun x hx => ?_⟩
        rw [take_snoc hk, List.mem_append] at hx
        rcases hx with hx | hx
        · exact hn x hx
        · rw [List.mem_singleton.mp hx]
          exact fun e => c (decide_eq_true (by rw [show n' = nm from e]))
    · rintro σ' H' ⟨y2, y3, rfl, rfl, hn⟩
      rw [List.take_length] at hn
      exact absurd rfl (hn _ hm)
end
end Fw
namespace Fw
open PySem PySem.Spec PyProof.Rows L2
/-! ### a list of pairs (name, room) -/
def LsAt (H : Hp) (l : Addr) (X : List (Str × Int)) : Prop := ∃ ps : List (Addr × Str × Int), H l = some (.lst (ps.map fun q => V.ref q.1)) ∧ X = ps.map (·.2) ∧ ∀ q ∈ ps, H q.1 = some (.tup [.str q.2.1, .int q.2.2])
theorem LsAt.nil {H : Hp} {l : Addr} (h : H l = some (.lst [])) : LsAt H l [] := ⟨[], h, rfl, fun q hq => absurd hq List.not_mem_nil⟩
theorem LsAt.same {H H' : Hp} {l : Addr} {X : List (Str × Int)} (x : LsAt H l X) (e : Same H H') : LsAt H' l X := by
  obtain ⟨ps, h1, h2, h3⟩ := x
  exact ⟨ps, e _ _ h1, h2, fun q hq => e _ _ (h3 q hq)⟩
theorem LsAt.fr {s A B : Addr} {c : Nat} {H H' : Hp} {l : Addr} {X : List (Str × Int)} (x : LsAt H l X) (hS : StreamAt H s A B c) (e : Fr s A H H') (z : s ≠ l ∧ A ≠ l ∧ B ≠ l) : LsAt H' l X := by
  obtain ⟨ps, h1, h2, h3⟩ := x
  exact ⟨ps, e _ _ z.1.symm z.2.1.symm h1, h2, fun q hq => e.tup hS (h3 q hq)⟩
theorem LsAt.snoc {H : Hp} {l t : Addr} {X : List (Str × Int)} {a : Str} {b : Int} (x : LsAt H l X) (ht : H t = some (.tup [.str a, .int b])) : ∃ acc, H l = some (.lst acc) ∧ acc.length = X.length ∧ LsAt (upd H l (.lst (acc ++ [.ref t]))) l (X ++ [(a, b)]) := by
  obtain ⟨ps, h1, h2, h3⟩ := x
  refine ⟨_, h1, by rw [h2, List.length_map, List.length_map], ps ++ [(t, a, b)], ?_, by rw [h2, List.map_append]; rfl, fun q hq => ?_⟩
  · rw [upd_same, List.map_append]
    rfl
  · have : H q.1 = some (.tup [.str q.2.1, .int q.2.2]) := by
      rcases List.mem_append.mp hq with hq | hq
      · exact h3 q hq
      · rw [List.mem_singleton.mp hq]
        exact ht
    rw [upd_ne (ne_of this h1 (by intro z; cases z))]
    exact this
theorem LsAt.tup {H : Hp} {l : Addr} {X : List (Str × Int)} (x : LsAt H l X) : ∃ xs, H l = some (.lst xs) ∧ ∀ (t : Addr) (ob : Obj), H t = none → ob.dict = none → PlD (upd H t (.frz ob (.tup xs))) t X := by
  obtain ⟨ps, h1, h2, h3⟩ := x
  exact ⟨_, h1, fun t ob ht od => ⟨ps, ob, od, upd_same, h2, fun q hq => same_upd ht _ _ (h3 q hq)⟩⟩
/-- the placement after a move -/
def mvd (P : List (Str × Int)) (nm : Str) (r : Int) : List (Str × Int) := P.map fun x => (x.1, if x.1 = nm then r else x.2)
theorem mvd_len (P : List (Str × Int)) (nm : Str) (r : Int) : (mvd P nm r).length = P.length := by unfold mvd; rw [List.length_map]
theorem mvd_names (P : List (Str × Int)) (nm : Str) (r : Int) : (mvd P nm r).map (·.1) = P.map (·.1) := by
  unfold mvd
  rw [List.map_map]
  rfl
theorem mvd_get {P : List (Str × Int)} {nm : Str} {r : Int} {k : Nat} {n' : Str} {r' : Int} (h : P[k]? = some (n', r')) : (mvd P nm r)[k]? = some (n', if n' = nm then r else r') := by
  unfold mvd
  rw [List.getElem?_map, h]
  rfl
theorem Pl.mvd {n : Int} {P : List (Str × Int)} (h : Pl n P) {nm : Str} {r : Int} (h0 : 0 ≤ r) (h1 : r < n) : Pl n (mvd P nm r) := by
  refine ⟨by rw [mvd_names]; exact h.nm, fun x hx => ?_⟩
  obtain ⟨y, hy, rfl⟩ := List.mem_map.mp hx
  show 0 ≤ (if y.1 = nm then r else y.2) ∧ (if y.1 = nm then r else y.2) < n
  split
  · exact ⟨h0, h1⟩
  · exact h.rm y hy
/-- all moves -/
def mvs (n : Int) (D : List (Int × Int)) (P : List (Str × Int)) (X : List (Str × Int)) : List (Str × Int) := X.flatMap fun x => ((nb n D x.2).filter fun t => decide (t ∈ P.map (·.2))).map fun t => (x.1, t)
theorem str_dec (a b : Str) : decide (V.str a = V.str b) = decide (a = b) := by
  rw [Bool.eq_iff_iff, decide_eq_true_eq, decide_eq_true_eq]
  exact ⟨V.str.inj, fun e => by rw [e]⟩
theorem k_ii' : kitB "int" "int" = some true := by decide +kernel
theorem k_ib' : kitB "int" "bool" = some false := by decide +kernel
section
variable {P : Program} {w : World} {K : PySem.W.Frag} {mg : Str → Option Value} {base : Heap}
end
end Fw
namespace Fw
open PySem PySem.Spec PyProof.Rows L2
theorem mvs_snoc {n : Int} {D : List (Int × Int)} {P X : List (Str × Int)} {k : Nat} {nm : Str} {r : Int} (h : X[k]? = some (nm, r)) : mvs n D P (X.take (k + 1)) = mvs n D P (X.take k) ++ ((nb n D r).filter fun t => decide (t ∈ P.map (·.2))).map fun t => (nm, t) := by
  unfold mvs
  rw [take_snoc h, List.flatMap_append]
  congr 1
  show List.flatMap _ [(nm, r)] = _
  rw [List.flatMap_cons, List.flatMap_nil, List.append_nil]
theorem mvs_len (n : Int) (D : List (Int × Int)) (P X : List (Str × Int)) (n1 : n ≤ 8) : (mvs n D P X).length ≤ 8 * X.length := by
  unfold mvs
  induction X with
  | nil => exact Nat.le_refl _
  | cons x X ih =>
    rw [List.flatMap_cons, List.length_append, List.length_map, List.length_cons]
    have h1 := List.length_filter_le (fun t => decide (t ∈ P.map (·.2))) (nb n D x.2)
    have h2 := nb_len n D x.2
    omega
theorem LsAt.app {H : Hp} {l m : Addr} {X Y : List (Str × Int)} (x : LsAt H l X) (y : LsAt H m Y) : ∃ xs ys, H l = some (.lst xs) ∧ H m = some (.lst ys) ∧ xs.length = X.length ∧ ys.length = Y.length ∧ LsAt (upd H l (.lst (xs ++ ys))) l (X ++ Y) := by
  obtain ⟨ps, h1, h2, h3⟩ := x
  obtain ⟨qs, g1, g2, g3⟩ := y
  refine ⟨_, _, h1, g1, by rw [h2, List.length_map, List.length_map], by rw [g2, List.length_map, List.length_map], ps ++ qs, ?_, by rw [h2, g2, List.map_append], fun q hq => ?_⟩
  · rw [upd_same, List.map_append]
  · have : H q.1 = some (.tup [.str q.2.1, .int q.2.2]) := by
      rcases List.mem_append.mp hq with hq | hq
      · exact h3 q hq
      · exact g3 q hq
    rw [upd_ne (ne_of this h1 (by intro z; cases z))]
    exact this
theorem rooms_snoc {P : List (Str × Int)} {k : Nat} {nm : Str} {r : Int} (h : P[k]? = some (nm, r)) : (P.take (k + 1)).map (·.2) = (P.take k).map (·.2) ++ [r] := by
  rw [take_snoc h, List.map_append]
  rfl
theorem mvs_mem {n : Int} {D : List (Int × Int)} {P X : List (Str × Int)} {nm : Str} {t : Int} (h : (nm, t) ∈ mvs n D P X) : ∃ c, (nm, c) ∈ X ∧ t ∈ nb n D c ∧ t ∈ P.map (·.2) := by
  unfold mvs at h
  obtain ⟨x, hx, h⟩ := List.mem_flatMap.mp h
  obtain ⟨t', ht, e⟩ := List.mem_map.mp h
  cases e
  obtain ⟨h1, h2⟩ := List.mem_filter.mp ht
  exact ⟨x.2, hx, h1, of_decide_eq_true h2⟩
/-- a loop over a list of pairs -/
theorem for_ls {K : PySem.W.Frag} {l : Addr} {X : List (Str × Int)} {i j : Nat} {tb : TS} {D : Ends} {σ : L2.St} {H0 H : Hp} (x : LsAt H0 l X) (Pv : Nat → L2.St → Hp → Prop) (h0 : Pv 0 σ H) (hl : ∀ k σ H, Pv k σ H → Same H0 H)
    (hs : ∀ k nm r σ H, X[k]? = some (nm, r) → Pv k σ H → tb { D with nx := Pv (k + 1), ct := Pv (k + 1), bk := D.nx } ((σ.set i (some (.str nm))).set j (some (.int r))) H) (hd : ∀ σ H, Pv X.length σ H → D.nx σ H) :
    ∃ W : Nat → Nat → L2.St → Hp → Prop, (∃ m, W 0 m σ H) ∧ ∀ k m σ H, W k m σ H →
      ((Itl K l).stop k H ∧ D.nx σ H) ∨ ((Itl K l).go k H ∧ ∃ N : L2.St → Hp → Prop, (∀ σ' H', N σ' H' → ∃ m', m' < m ∧ W (k + 1) m' σ' H') ∧ ∀ x H', (Itl K l).yld k H x H' → gTup K 2 (gCons (gName i) (gCons (gName j) gNil)) x σ H' fun σ2 H2 => tb { D with nx := N, ct := N, bk := D.nx } σ2 H2) := by
  obtain ⟨ps, h1, rfl, h3⟩ := x
  refine for_list (K := K) (a := l) (xs := ps.map fun q => V.ref q.1) Pv h0 (fun i σ H _ hp => SqL.of (hl i σ H hp _ _ h1)) (fun k x σ H hx hp => ?_) (fun σ H hp => hd σ H (by rw [List.length_map] at hp ⊢; exact hp))
  obtain ⟨q, hq, rfl⟩ := get_pl hx
  refine ⟨q.1, _, rfl, SqT.of (hl k σ H hp _ _ (h3 q (List.mem_of_getElem? hq))), rfl, _, _, rfl, _, _, rfl, rfl, ?_⟩
  exact hs k q.2.1 q.2.2 σ H (by rw [List.getElem?_map, hq]; rfl) hp
theorem LsAt.sq {K : PySem.W.Frag} {H : Hp} {l : Addr} {X : List (Str × Int)} (x : LsAt H l X) : ∃ xs, SqL K H l xs ∧ xs.length = X.length := by
  obtain ⟨ps, h1, h2, _⟩ := x
  exact ⟨_, SqL.of h1, by rw [h2, List.length_map, List.length_map]⟩
theorem LsAt.at {K : PySem.W.Frag} {H : Hp} {l : Addr} {X : List (Str × Int)} (x : LsAt H l X) {r : Int} (h0 : 0 ≤ r) (h1 : r < (X.length : Nat)) : ∃ xs t nm v, SqL K H l xs ∧ atI xs r = some (.ref t) ∧ H t = some (.tup [.str nm, .int v]) ∧ (nm, v) ∈ X := by
  obtain ⟨ps, e1, e2, e3⟩ := x
  have hj : r.toNat < ps.length := by rw [e2, List.length_map] at h1; omega
  have hm := List.getElem_mem hj
  refine ⟨_, ps[r.toNat].1, ps[r.toNat].2.1, ps[r.toNat].2.2, SqL.of e1, ?_, e3 _ hm, by rw [e2]; exact List.mem_map_of_mem (f := (·.2)) hm⟩
  have := atI_nat (xs := ps.map fun q => V.ref q.1) (j := r.toNat) (v := V.ref ps[r.toNat].1) (by rw [List.getElem?_map, List.getElem?_eq_getElem hj]; rfl)
  rw [show ((r.toNat : Nat) : Int) = r by omega] at this
  exact this
end Fw
namespace Fw
open PySem PySem.Spec PyProof.Rows L2

/-- what a dict of rooms holds at a room -/
def lk (kvs : List (Key × V)) (v : Int) : Option V := valV kvs (Sum.inl v)
theorem lk_put (kvs : List (Key × V)) (k j : Int) (y : V) : lk (putK kvs (Sum.inl k) y) j = if j = k then some y else lk kvs j := by
  unfold lk
  rw [valV_put]
  by_cases e : j = k
  · rw [if_pos e, if_pos (by rw [e])]
  · rw [if_neg e, if_neg (fun z => e (Sum.inl.inj z))]
def isK (kvs : List (Key × V)) (v : Int) : Bool := (lk kvs v).isSome
theorem isK_put (kvs : List (Key × V)) (k j : Int) (y : V) : isK (putK kvs (Sum.inl k) y) j = (decide (j = k) || isK kvs j) := by
  unfold isK
  rw [lk_put]
  by_cases e : j = k
  · rw [if_pos e, decide_eq_true e]; rfl
  · rw [if_neg e, decide_eq_false e]; rfl

/-- the way from a room along the steps -/
inductive Ch (D : List (Int × Int)) (L : Int → Option V) (g : Int) : Int → List Int → Prop
  | goal : L g = some .non → Ch D L g g [g]
  | step {v u : Int} {p : List Int} : L v = some (.int u) → adj D v u → Ch D L g u p → v ∉ p → Ch D L g v (v :: p)
theorem Ch.mono {D : List (Int × Int)} {L L' : Int → Option V} {g v : Int} {p : List Int} (h : Ch D L g v p) (m : ∀ y x, L y = some x → L' y = some x) : Ch D L' g v p := by
  induction h with
  | goal e => exact .goal (m _ _ e)
  | step e a _ n ih => exact .step (m _ _ e) a ih n
theorem Ch.keys {D : List (Int × Int)} {L : Int → Option V} {g v : Int} {p : List Int} (h : Ch D L g v p) : ∀ y ∈ p, (L y).isSome = true := by
  induction h with
  | goal e =>
    intro y hy
    rw [List.mem_singleton.mp hy, e]
    rfl
  | step e _ _ _ ih =>
    intro y hy
    rcases List.mem_cons.mp hy with rfl | hy
    · rw [e]; rfl
    · exact ih y hy
theorem Ch.sp {D : List (Int × Int)} {L : Int → Option V} {g v : Int} {p : List Int} (h : Ch D L g v p) : SP (adj D) v g p := by
  induction h with
  | goal _ => exact .one _
  | step _ a _ n ih => exact .cons a ih n

/-- the dict of steps, at any time -/
structure SInv (n : Int) (D : List (Int × Int)) (R : List Int) (g : Int) (kvs : List (Key × V)) : Prop where
  goal : lk kvs g = some .non
  way : ∀ v x, lk kvs v = some x → ∃ p, Ch D (lk kvs) g v p
  rng : ∀ v, isK kvs v = true → v = g ∨ v ∈ R
  keys : ∃ ks : List Int, kvs.map (·.1) = ks.map Sum.inl ∧ ks.Nodup ∧ ∀ v, v ∈ ks ↔ isK kvs v = true
  len : kvs.length + left n.toNat (isK kvs) ≤ n.toNat + 1
theorem SInv.start {n g : Int} {D : List (Int × Int)} {R : List Int} : SInv n D R g [(Sum.inl g, V.non)] := by
  have e0 : ∀ v, lk [(Sum.inl g, V.non)] v = if v = g then some .non else none := fun v => by
    unfold lk
    by_cases e : v = g
    · rw [if_pos e, e]; exact valV_pos rfl
    · rw [if_neg e, valV_neg (fun z => e (Sum.inl.inj z).symm)]; rfl
  have e1 : lk [(Sum.inl g, V.non)] g = some .non := by rw [e0, if_pos rfl]
  have e2 : ∀ v, isK [(Sum.inl g, V.non)] v = true → v = g := fun v h => by
    unfold isK at h
    rw [e0] at h
    by_cases e : v = g
    · exact e
    · rw [if_neg e] at h; cases h
  refine ⟨e1, fun v x h => ?_, fun v h => .inl (e2 v h), ⟨[g], rfl, by simp, fun v => ⟨fun h => ?_, fun h => ?_⟩⟩, ?_⟩
  · have : isK [(Sum.inl g, V.non)] v = true := by unfold isK; rw [h]; rfl
    rw [e2 v this]
    exact ⟨[g], .goal e1⟩
  · rw [List.mem_singleton.mp h]; unfold isK; rw [e1]; rfl
  · rw [e2 v h]; simp
  · have := left_le n.toNat (isK [(Sum.inl g, V.non)])
    simp only [List.length_cons, List.length_nil]
    omega
theorem SInv.put {n g o v : Int} {D : List (Int × Int)} {R : List Int} {kvs : List (Key × V)} (S : SInv n D R g kvs) (hv : isK kvs v = true) (ho : isK kvs o = false) (a : adj D v o) (hR : o ∈ R) (h0 : 0 ≤ o) (h1 : o < n) :
    SInv n D R g (putK kvs (Sum.inl o) (.int v)) ∧ left n.toNat (isK (putK kvs (Sum.inl o) (.int v))) < left n.toNat (isK kvs) := by
  have eo : lk kvs o = none := by
    unfold isK at ho
    cases e : lk kvs o with
    | none => rfl
    | some x => rw [e] at ho; cases ho
  have m : ∀ y x, lk kvs y = some x → lk (putK kvs (Sum.inl o) (.int v)) y = some x := fun y x h => by
    rw [lk_put, if_neg (fun e => ?_)]
    · exact h
    · rw [e, eo] at h; cases h
  have hl : left n.toNat (isK (putK kvs (Sum.inl o) (.int v))) < left n.toNat (isK kvs) := by
    refine left_lt (o := o) (fun x hx => ?_) h0 (by omega) ho ?_
    · rw [isK_put, hx, Bool.or_true]
    · rw [isK_put, decide_eq_true rfl, Bool.true_or]
  refine ⟨⟨m _ _ S.goal, fun y x h => ?_, fun y h => ?_, ?_, ?_⟩, hl⟩
  · rw [lk_put] at h
    by_cases e : y = o
    · subst e
      cases hx : lk kvs v with
      | none => unfold isK at hv; rw [hx] at hv; cases hv
      | some z =>
        obtain ⟨p, hp⟩ := S.way v z hx
        refine ⟨y :: p, .step (by rw [lk_put, if_pos rfl]) (adj_symm a) (hp.mono m) fun hm => ?_⟩
        have := hp.keys y hm
        rw [eo] at this
        cases this
    · rw [if_neg e] at h
      obtain ⟨p, hp⟩ := S.way y x h
      exact ⟨p, hp.mono m⟩
  · rw [isK_put, Bool.or_eq_true, decide_eq_true_eq] at h
    rcases h with h | h
    · exact .inr (h ▸ hR)
    · exact S.rng y h
  · obtain ⟨ks, e1, e2, e3⟩ := S.keys
    refine ⟨ks ++ [o], ?_, ?_, fun y => ?_⟩
    · rw [putK_new _ eo, List.map_append, e1, List.map_append]; rfl
    · rw [List.nodup_append]
      refine ⟨e2, by simp, fun x hx y hy e => ?_⟩
      rw [List.mem_singleton.mp hy] at e
      rw [e, e3, ho] at hx
      cases hx
    · rw [List.mem_append, List.mem_singleton, e3, isK_put, Bool.or_eq_true, decide_eq_true_eq]
      exact or_comm
  · have := length_putK kvs (Sum.inl o) (V.int v)
    have := S.len
    omega

theorem inV_ints (x : Int) (R : List Int) : inV (.int x) (vi R) = decide (x ∈ R) := by
  unfold inV
  rw [Bool.eq_iff_iff, List.any_eq_true, decide_eq_true_eq]
  constructor
  · rintro ⟨y, hy, e⟩
    obtain ⟨z, hz, rfl⟩ := List.mem_map.mp hy
    have e : (z == x) = true := e
    rw [beq_iff_eq] at e
    exact e ▸ hz
  · intro h
    exact ⟨.int x, List.mem_map_of_mem h, by show (x == x) = true; simp⟩
theorem flat_ints (R : List Int) : (vi R).all flatV = true := by
  rw [List.all_eq_true]
  intro y hy
  obtain ⟨z, hz, rfl⟩ := List.mem_map.mp hy
  rfl
theorem vi_snoc_last {xs : List Int} {x : Int} : (vi (xs ++ [x]))[(vi (xs ++ [x])).length - 1]? = some (.int x) := by
  rw [vi_app, List.length_append]
  show (vi xs ++ [V.int x])[(vi xs).length + 1 - 1]? = _
  rw [Nat.add_sub_cancel, List.getElem?_append_right (Nat.le_refl _), Nat.sub_self]
  rfl
theorem vi_dropLast {xs : List Int} {x : Int} : (vi (xs ++ [x])).dropLast = vi xs := by
  rw [vi_app]
  show (vi xs ++ [V.int x]).dropLast = _
  rw [List.dropLast_concat]
theorem snoc_cases : ∀ (xs : List Int), xs = [] ∨ ∃ ys y, xs = ys ++ [y]
  | [] => .inl rfl
  | x :: xs => by
    rcases snoc_cases xs with rfl | ⟨ys, y, rfl⟩
    · exact .inr ⟨[], x, rfl⟩
    · exact .inr ⟨x :: ys, y, rfl⟩

section
variable {P : Program} {w : World} {K : PySem.W.Frag} {mg : Str → Option Value} {base : Heap}
/-- what the finished steps are -/
structure SDone (n : Int) (D : List (Int × Int)) (R : List Int) (g : Int) (kvs : List (Key × V)) : Prop where
  inv : SInv n D R g kvs
  closed : ∀ v o, isK kvs v = true → adj D v o → o ∈ R → isK kvs o = true
theorem Same.sqT {K : PySem.W.Frag} {H H' : Hp} {a : Addr} {xs : List V} (e : Same H H') (h : SqT K H a xs) : SqT K H' a xs :=
  h.imp (Or.imp (e a _) fun ⟨o, x⟩ => ⟨o, e a _ x⟩) id
def spSteps (K : PySem.W.Frag) : Sp := fun vs H Q _ => ∃ (h rl : Addr) (n : Int) (D : List (Int × Int)) (g : Int) (R : List Int), vs = [.ref h, .int g, .ref rl] ∧ HouseAt H h n D ∧ Forest n D ∧ 0 ≤ n ∧ n ≤ 8 ∧
  (SqL K H rl (vi R) ∨ SqT K H rl (vi R)) ∧ ∀ H' d kvs, Same H H' → H d = none → H' d = some (.dK kvs) → SDone n D R g kvs → Q (.ref d) H'

structure SAt (H : Hp) (d wl : Addr) (n : Int) (D : List (Int × Int)) (R : List Int) (g : Int) (kvs : List (Key × V)) (wt : List Int) (H' : Hp) : Prop where
  sm : Same H H'
  ed : H' d = some (.dK kvs)
  ew : H' wl = some (.lst (vi wt))
  inv : SInv n D R g kvs
  wk : ∀ v ∈ wt, isK kvs v = true
  wlen : wt.length + left n.toNat (isK kvs) ≤ n.toNat + 1
theorem SAt.same {H : Hp} {d wl : Addr} {n : Int} {D : List (Int × Int)} {R : List Int} {g : Int} {kvs : List (Key × V)} {wt : List Int} {H1 H2 : Hp} (S : SAt H d wl n D R g kvs wt H1) (e : Same H1 H2) : SAt H d wl n D R g kvs wt H2 :=
  ⟨S.sm.trans e, e _ _ S.ed, e _ _ S.ew, S.inv, S.wk, S.wlen⟩
abbrev nSteps : List Str := ["house", "goal", "rooms", "steps", "waiting", "room", "other"]
theorem scSteps : FnScope nSteps ["house", "goal", "rooms"] (defScope sSteps) := ⟨rfl, rfl, rfl, by decide +kernel, rfl, by decide +kernel, by decide +kernel⟩
theorem ok_steps {f fN : Addr} {fd fdN : FuncData} (F : Fun K "steps_toward" "steps_toward" sSteps f fd) (T : Nm mg) (DN : Def K mg "neighbors" sNb fN fdN ["house", "room"]) : FnOk P w K mg base CX0 2 f fd ["house", "goal", "rooms"] (spSteps K) := by
  have GN : FnOk P w K mg base CX0 1 fN fdN ["house", "room"] spNb := ok_nb DN.F T
  refine F.ok scSteps (fun vs H Q E h => ?_) (fun cdv A outer s H vs Q E hr h => ?_)
  · obtain ⟨h, rl, n, D, g, R, rfl, _⟩ := h
    rfl
  · obtain ⟨h, rl, n, D, g, R, rfl, hH, hF, hn0, hn1, hR, q⟩ := h
    have hu := hu_of hr
    refine ⟨_, pss_cons (ps_set (i := 3) scSteps.nd rfl (.inl rfl) (pe_disp (pps_cons (pv 1) pe_non pps_nil) (by rfl) (by rfl) (fun z => by cases z) (by decide)))
      (pss_cons (ps_set (i := 4) scSteps.nd rfl (.inl rfl) (pe_lst (pa_cons (pv 1) pa_nil)))
      (pss_cons (ps_while PassesOwn.never (pt_truth (pv 4) (by intro _; rfl))
        (pss_cons (ps_set (i := 5) scSteps.nd rfl (.inl rfl) (pe_bm0 PySem.F.plainAttrs_list PySem.F.slot_list_pop PySem.F.type_list_pop mt_pop (pv 4)))
        (pss_one (ps_for PassesOwn.never rfl (pi_tup (pe_call GN hr (by rfl) DN.g DN.F.kp DN.b .nil pass0 (pa_cons (pv 0) (pa_cons (pv 5) pa_nil)))) (pg_name (i := 6) scSteps.nd rfl (Or.inl rfl))
          (pss_one (ps_if (PW.pt (pw_and (pt_cmpR op_in_seq (pv 6) (pv 2) (by rfl)) (pw_and1 (pt_cmp (pc_dnotin hu (pv 6) (pv 3))))))
            (pss_cons (ps_dput hu (pv 3) (pv 6) (pv 5) rfl)
            (pss_one (ps_expr (pe_bm PySem.F.plainAttrs_list PySem.F.slot_list_append PySem.F.type_list_append mt_append (pv 4) (pa_cons (pv 6) pa_nil)))))
            pss_nil))))))
      (pss_one (ps_ret (pv 3))))), ?_⟩
    refine fun d hd => ⟨_, rfl, upd_same, [(Sum.inl g, .non)], rfl, by show 1 ≤ 15; decide, ?_⟩
    rw [upd_upd]
    refine ⟨_, rfl, by show 1 ≤ sizeLine; decide, fun wl hw => ?_⟩
    have ed0 : (upd H d (.dK (mergeK [] [(Sum.inl g, V.non)]))) d = some (.dK [(Sum.inl g, V.non)]) := upd_same
    have nwd : d ≠ wl := ne_of_none ed0 hw
    have gw : H wl = none := (same_upd hd).free hw
    have clos0 : ∀ v o, isK [(Sum.inl g, V.non)] v = true → v ∉ [g] → adj D v o → o ∈ R → isK [(Sum.inl g, V.non)] o = true := fun v o hv hn _ _ => by
      obtain ⟨ks, e1, _, e3⟩ := (SInv.start (n := n) (D := D) (R := R) (g := g)).keys
      have e4 : ks = [g] := by
        cases ks with
        | nil => cases e1
        | cons k r =>
          cases r with
          | nil =>
            injection e1 with e1 _
            rw [← Sum.inl.inj e1]
          | cons k2 r =>
            injection e1 with _ e1
            cases e1
      rw [e4] at e3
      exact absurd ((e3 v).mpr hv) hn
    refine ⟨fun m σ H' => ∃ (kvs : List (Key × V)) (wt : List Int) (y5 y6 : Option V), σ = [some (.ref h), some (.int g), some (.ref rl), some (.ref d), some (.ref wl), y5, y6] ∧ SAt H d wl n D R g kvs wt H' ∧
        (∀ v o, isK kvs v = true → v ∉ wt → adj D v o → o ∈ R → isK kvs o = true) ∧ m = 2 * left n.toNat (isK kvs) + wt.length, ⟨_, [(Sum.inl g, V.non)], [g], none, none, rfl, ⟨?_, ?_, upd_same, SInv.start, ?_, ?_⟩, clos0, rfl⟩, ?_⟩
    · exact (same_upd hd).trans (same_upd hw)
    · rw [upd_ne nwd]
      exact ed0
    · intro v hv
      rw [List.mem_singleton.mp hv]
      unfold isK
      rw [SInv.start (n := n) (D := D) (R := R) |>.goal]
      rfl
    · have := left_le n.toNat (isK [(Sum.inl g, V.non)])
      simp only [List.length_cons, List.length_nil]
      omega
    clear clos0 ed0
    rintro m σ H1 ⟨kvs, wt, y5, y6, rfl, S1, clos, rfl⟩
    refine ⟨_, rfl, _, .inl ⟨_, SqL.of S1.ew, rfl⟩, ?_⟩
    rcases snoc_cases wt with rfl | ⟨ys, v, rfl⟩
    · refine iteF ?_
      exact ⟨_, rfl, q _ d kvs S1.sm hd S1.ed ⟨S1.inv, fun v o h1 h2 h3 => clos v o h1 (by simp) h2 h3⟩⟩
    · have ne : (!(vi (ys ++ [v])).isEmpty) = true := by
        cases ys <;> rfl
      rw [ne]
      refine iteT ⟨_, fun _ _ hh => hh, ?_⟩
      have hv : isK kvs v = true := S1.wk v (by simp)
      refine ⟨_, rfl, .inl ⟨rfl, _, SqL.of S1.ew⟩, wl, _, _, rfl, rfl, S1.ew, vi_snoc_last, ?_⟩
      rw [vi_dropLast]
      have l1 := S1.wlen
      rw [List.length_append, List.length_singleton] at l1
      have S2 : SAt H d wl n D R g kvs ys (upd H1 wl (.lst (vi ys))) := ⟨same_put S1.sm gw, (upd_ne nwd).trans S1.ed, upd_same, S1.inv, fun x hx => S1.wk x (List.mem_append_left _ hx), by omega⟩
      refine ⟨_, rfl, _, rfl, h, n, D, v, rfl, hH.same S2.sm, hF, fun H3 t s3 et => ?_⟩
      have S3 := S2.same s3
      refine ⟨t, rfl, ⟨_, SqT.of et⟩, for_tup (K := K) (a := t) (xs := vi (nb n D v)) (fun i σ H' => ∃ (kvs' : List (Key × V)) (wt : List Int) (y6 : Option V), σ = [some (.ref h), some (.int g), some (.ref rl), some (.ref d), some (.ref wl), some (.int v), y6] ∧
          SAt H d wl n D R g kvs' wt H' ∧ H' t = some (.tup (vi (nb n D v))) ∧ isK kvs' v = true ∧ (∀ x o, isK kvs' x = true → x ∉ wt → x ≠ v → adj D x o → o ∈ R → isK kvs' o = true) ∧
          (∀ o ∈ (nb n D v).take i, o ∈ R → isK kvs' o = true) ∧ 2 * left n.toNat (isK kvs') + wt.length < 2 * left n.toNat (isK kvs) + (ys ++ [v]).length) ⟨kvs, ys, y6, rfl, S3, et, hv, ?_, ?_, ?_⟩ ?_ ?_ ?_⟩
      · intro x o h1 h2 h3 h4 h5
        exact clos x o h1 (by simp [h2, h3]) h4 h5
      · intro o ho
        simp at ho
      · rw [List.length_append, List.length_singleton]
        omega
      · rintro i σ H' _ ⟨kvs', wt, y6, rfl, _, et', _⟩
        exact SqT.of et'
      · rintro i x σ H4 hx ⟨kvs', wt, y6, rfl, S4, et4, hv4, cl4, pre4, lt4⟩
        obtain ⟨o, eo, rfl⟩ := get_vi hx
        have mo := List.mem_of_getElem? eo
        have ao : adj D v o := hF.mem_nb.mp mo
        have ro := hF.adj ao
        have pre5 : ∀ kvs2 : List (Key × V), (∀ y, isK kvs' y = true → isK kvs2 y = true) → (o ∈ R → isK kvs2 o = true) → ∀ z ∈ (nb n D v).take (i + 1), z ∈ R → isK kvs2 z = true := fun kvs2 hm ho z hz hzR => by
          rw [List.take_add_one, eo, List.mem_append] at hz
          rcases hz with hz | hz
          · exact hm _ (pre4 z hz hzR)
          · have : z = o := by simpa using hz
            rw [this] at hzR ⊢
            exact ho hzR
        dsimp only [gName]
        refine if_by (fun b H5 => H5 = H4 ∧ (b = true → o ∈ R ∧ isK kvs' o = false) ∧ (b = false → o ∈ R → isK kvs' o = true)) ?_ ?_ ?_
        · rintro H5 ⟨rfl, hb, _⟩
          obtain ⟨oR, ok⟩ := hb rfl
          obtain ⟨I5, lt5⟩ := S4.inv.put hv4 ok ao oR ro.2.2.1 ro.2.2.2
          have lk4 := S4.inv.len
          have lw4 := S4.wlen
          refine ⟨_, rfl, _, rfl, _, rfl, d, _, rfl, DPut.k (k := Sum.inl o) S4.ed (small1000 (by omega)), ?_⟩
          have ew5 : (upd H5 d (.dK (putK kvs' (Sum.inl o) (V.int v)))) wl = some (.lst (vi wt)) := (upd_ne nwd.symm).trans S4.ew
          refine ⟨_, rfl, .inl ⟨rfl, _, SqL.of ew5⟩, _, rfl, wl, _, _, rfl, rfl, ew5, by rw [List.length_map]; exact small1000 (by omega), ?_⟩
          refine ⟨putK kvs' (Sum.inl o) (V.int v), wt ++ [o], _, rfl, ⟨same_put (same_put S4.sm hd) gw, (upd_ne nwd).trans upd_same, ?_, I5, ?_, ?_⟩, ?_, ?_, ?_, ?_, ?_⟩
          · rw [upd_same, vi_app]
            rfl
          · intro y hy
            rw [isK_put]
            rcases List.mem_append.mp hy with hy | hy
            · rw [S4.wk y hy, Bool.or_true]
            · rw [List.mem_singleton.mp hy, decide_eq_true rfl, Bool.true_or]
          · rw [List.length_append, List.length_singleton]
            omega
          · rw [upd_ne (ne_of et4 S4.ew (by intro z; cases z)), upd_ne (ne_of et4 S4.ed (by intro z; cases z))]
            exact et4
          · rw [isK_put, hv4, Bool.or_true]
          · intro y z h1 h2 h3 h4 h5
            rw [isK_put, Bool.or_eq_true, decide_eq_true_eq] at h1
            rw [List.mem_append, not_or, List.mem_singleton] at h2
            rcases h1 with h1 | h1
            · exact absurd h1 h2.2
            · rw [isK_put, cl4 y z h1 h2.1 h3 h4 h5, Bool.or_true]
          · refine pre5 _ (fun y hy => by rw [isK_put, hy, Bool.or_true]) fun _ => ?_
            rw [isK_put, decide_eq_true rfl, Bool.true_or]
          · rw [List.length_append, List.length_singleton]
            omega
        · rintro H5 ⟨rfl, _, hb⟩
          exact ⟨kvs', wt, _, rfl, S4, et4, hv4, cl4, pre5 kvs' (fun _ hh => hh) (hb rfl), lt4⟩
        · intro QQ hQ
          have hR4 : SqL K H4 rl (vi R) ∨ SqT K H4 rl (vi R) := hR.imp (fun z => S4.sm.seq z) (fun z => Same.sqT S4.sm z)
          refine ⟨_, rfl, _, rfl, rl, _, rfl, hR4, rfl, flat_ints R, _, rfl, ?_⟩
          show if (inV (.int o) (vi R)) = true then _ else _
          rw [inV_ints]
          refine ite2 (fun c => ?_) (fun c => ?_)
          · have c : o ∈ R := of_decide_eq_true c
            refine ⟨_, rfl, _, rfl, d, _, rfl, DGet.k (k := Sum.inl o) S4.ed, _, rfl, ?_⟩
            refine hQ _ _ ⟨rfl, fun e => ⟨c, ?_⟩, fun e _ => ?_⟩
            · show isK kvs' o = false
              unfold isK lk
              simpa using e
            · show isK kvs' o = true
              unfold isK lk
              simpa using e
          · exact hQ _ _ ⟨rfl, fun e => (by cases e), fun _ e => absurd (decide_eq_true e) c⟩
      · rintro σ H4 ⟨kvs', wt, y6, rfl, S4, et4, hv4, cl4, pre4, lt4⟩
        rw [List.length_map, List.take_length] at pre4
        refine ⟨_, lt4, kvs', wt, _, _, rfl, S4, fun x o h1 h2 h3 h4 => ?_, rfl⟩
        by_cases e : x = v
        · subst e
          exact pre4 o (hF.mem_nb.mpr h3) h4
        · exact cl4 x o h1 h2 e h3 h4
end
end Fw
namespace Fw
open PySem PySem.Spec PyProof.Rows L2
theorem HouseAt.top {H : Hp} {h : Addr} {n : Int} {D : List (Int × Int)} (x : HouseAt H h n D) : ∃ q, H h = some (.tup [.int n, .ref q]) := by
  obtain ⟨q, ps, h1, _⟩ := x
  exact ⟨q, h1⟩

/-- a nodup list of rooms below n is no longer than n -/
theorem short {n : Nat} : ∀ {p : List Int}, p.Nodup → (∀ x ∈ p, 0 ≤ x ∧ x < n) → p.length ≤ n := by
  induction n with
  | zero =>
    intro p _ h
    cases p with
    | nil => exact Nat.le_refl _
    | cons x r => have := h x (List.mem_cons_self ..); omega
  | succ n ih =>
    intro p nd h
    have h2 : (p.erase (n : Int)).length ≤ n := by
      refine ih (nd.erase _) fun x hx => ?_
      have hm := List.mem_of_mem_erase hx
      have hne : x ≠ (n : Int) := fun e => by
        subst e
        exact (List.Nodup.not_mem_erase nd) hx
      have := h x hm
      omega
    have h3 : p.length - 1 ≤ (p.erase (n : Int)).length := List.le_length_erase
    omega
theorem SP.all {R : Int → Int → Prop} {S : Int → Prop} (hs : ∀ x y, R x y → S y) {a b : Int} {p : List Int} (h : SP R a b p) (e : S a) : ∀ x ∈ p, S x := by
  induction h with
  | one a =>
    intro x hx
    rw [List.mem_singleton.mp hx]
    exact e
  | cons r _ _ ih =>
    intro x hx
    rcases List.mem_cons.mp hx with rfl | hx
    · exact e
    · exact ih (hs _ _ r) x hx
theorem Forest.short {n a b : Int} {D : List (Int × Int)} (f : Forest n D) (h8 : n ≤ 8) (h0 : 0 ≤ a) (h1 : a < n) {p : List Int} (h : SP (Fw.adj D) a b p) : p.length ≤ 8 := by
  have h2 : p.length ≤ n.toNat := Fw.short h.nodup fun x hx => by
    have := h.all (S := fun x => 0 ≤ x ∧ x < n) (fun x y r => ⟨(f.adj r).2.2.1, (f.adj r).2.2.2⟩) ⟨h0, h1⟩ x hx
    omega
  omega

end Fw
namespace Fw
open PySem PySem.Spec PyProof.Rows L2

section
variable {P : Program} {w : World} {K : PySem.W.Frag} {mg : Str → Option Value} {base : Heap}
def spPath : Sp := fun vs H Q _ => ∃ (h : Addr) (n : Int) (D : List (Int × Int)) (a b : Int), vs = [.ref h, .int a, .int b] ∧ HouseAt H h n D ∧ Forest n D ∧ n ≤ 8 ∧ 0 ≤ a ∧ a < n ∧ 0 ≤ b ∧ b < n ∧
  (∀ H', Same H H' → (∀ p, ¬ SP (adj D) a b p) → Q .non H') ∧ (∀ H' t p, Same H H' → SP (adj D) a b p → p.length ≤ 8 → H' t = some (.tup (vi p)) → Q (.ref t) H')

abbrev nPath : List Str := ["house", "a", "b", "steps", "path"]
theorem scPath : FnScope nPath ["house", "a", "b"] (defScope sPath) := ⟨rfl, rfl, rfl, by decide +kernel, rfl, by decide +kernel, by decide +kernel⟩
theorem ok_path {f fN fS : Addr} {fd fdN fdS : FuncData} (F : Fun K "path_between" "path_between" sPath f fd) (T : Nm mg) (DN : Def K mg "neighbors" sNb fN fdN ["house", "room"]) (DS : Def K mg "steps_toward" sSteps fS fdS ["house", "goal", "rooms"]) : FnOk P w K mg base CX0 3 f fd ["house", "a", "b"] spPath := by
  have GS : FnOk P w K mg base CX0 2 fS fdS ["house", "goal", "rooms"] (spSteps K) := ok_steps DS.F T DN
  refine F.ok scPath (fun vs H Q E h => ?_) (fun cdv A outer s H vs Q E hr h => ?_)
  · obtain ⟨h, n, D, a, b, rfl, _⟩ := h
    rfl
  · obtain ⟨h, n, D, a, b, rfl, hH, hF, hn, a0, a1, b0, b1, q1, q2⟩ := h
    have hu := hu_of hr
    obtain ⟨hq, eh⟩ := hH.top
    refine ⟨_, pss_cons (ps_set (i := 3) scPath.nd rfl (.inl rfl) (pe_call GS hr (by rfl) DS.g DS.F.kp DS.b .nil pass0 (pa_cons (pv 0) (pa_cons (pv 2) (pa_cons (pe_listRg (by rfl) (by rfl) T.list (prg_1 (by rfl) T.range (pe_ix ix_tup (pv 0) pe_int (fun _ _ => rfl)))) pa_nil)))))
      (pss_cons (ps_if (pt_cmp (pc_dnotin hu (pv 1) (pv 3))) (pss_one (ps_ret pe_non)) pss_nil)
      (pss_cons (ps_set (i := 4) scPath.nd rfl (.inl rfl) (pe_lst (pa_cons (pv 1) pa_nil)))
      (pss_cons (ps_while PassesOwn.never (pt_cmpR op_ne (pe_ix ix_list (pv 4) (pe_un un_neg pe_int) (fun _ _ => rfl)) (pv 2) (nomark _))
        (pss_one (ps_expr (pe_bm PySem.F.plainAttrs_list PySem.F.slot_list_append PySem.F.type_list_append mt_append (pv 4) (pa_cons (pe_dget hu (pv 3) (pe_ix ix_list (pv 4) (pe_un un_neg pe_int) (fun _ _ => rfl)) (fun _ _ => rfl)) pa_nil)))))
      (pss_one (ps_ret (pe_callTy call_tuple_of (by rfl) T.tuple (by decide +kernel) (pa_cons (pv 4) pa_nil))))))), ?_⟩
    refine ⟨_, rfl, _, rfl, _, rfl, h, _, _, _, rfl, rfl, SqT.of eh, atI0, n, rfl, RgOk.of_le (by omega) (by omega) (by omega) (by omega), fun rl hrl => ?_⟩
    rw [rg_vi, show ((List.range n.toNat).map fun (i : Nat) => (i : Int)) = rg n from rfl]
    have s1 : Same H (upd H rl (.lst (vi (rg n)))) := same_upd hrl
    refine ⟨h, rl, n, D, b, rg n, rfl, hH.same s1, hF, by omega, hn, .inl (SqL.of upd_same), fun H1 d kvs s2 hd ed S => ?_⟩
    have s2' := s1.trans s2
    have cl : ∀ v o, isK kvs v = true → adj D v o → isK kvs o = true := fun v o h1 h2 => S.closed v o h1 h2 (mem_rg.mpr ⟨(hF.adj h2).2.2.1, (hF.adj h2).2.2.2⟩)
    refine ⟨_, rfl, _, rfl, d, _, rfl, DGet.k (k := Sum.inl a) ed, _, rfl, ?_⟩
    cases ea : valV kvs (Sum.inl a) with
    | none =>
      refine iteT ?_
      refine q1 _ s2' fun p hp => ?_
      have hb : isK kvs b = true := by
        unfold isK
        rw [S.inv.goal]
        rfl
      have ha : isK kvs a = true := hp.back (S := fun x => isK kvs x = true) (fun x y r hy => cl y x hy (adj_symm r)) hb
      unfold isK lk at ha
      rw [ea] at ha
      cases ha
    | some x =>
      refine iteF ?_
      obtain ⟨p, hp⟩ := S.inv.way a x ea
      have hlen := hF.short hn a0 a1 hp.sp
      refine ⟨_, rfl, by show 1 ≤ sizeLine; decide, fun pl hpl => ?_⟩
      have gpl : H pl = none := s2'.free hpl
      have npd : d ≠ pl := ne_of_none ed hpl
      have p0 : ∃ r0, p = a :: r0 := by
        cases hp with
        | goal _ => exact ⟨[], rfl⟩
        | step _ _ _ _ => exact ⟨_, rfl⟩
      obtain ⟨r0, rfl⟩ := p0
      refine ⟨fun m σ H' => ∃ (don : List Int) (v : Int) (rest : List Int), σ = [some (.ref h), some (.int a), some (.int b), some (.ref d), some (.ref pl)] ∧ Same H H' ∧ H' d = some (.dK kvs) ∧ H' pl = some (.lst (vi (don ++ [v]))) ∧
          Ch D (lk kvs) b v (v :: rest) ∧ don ++ v :: rest = a :: r0 ∧ m = rest.length, ⟨_, [], a, r0, rfl, same_put s2' gpl, (upd_ne npd).trans ed, upd_same, hp, rfl, rfl⟩, ?_⟩
      rintro m σ H2 ⟨don, v, rest, rfl, s3, ed3, ep3, hv, eq3, rfl⟩
      have hat : atI (vi (don ++ [v])) (-1) = some (.int v) := by
        rw [vi_app]
        exact atI_last _ _
      refine ⟨_, rfl, _, rfl, pl, _, _, _, rfl, rfl, SqL.of ep3, hat, _, rfl, rfl, _, rfl, ?_⟩
      by_cases e : v = b
      · subst e
        have er : rest = [] := by
          have := hv.sp.loop
          injection this
        subst er
        refine iteNS rfl ?_
        refine ⟨_, rfl, pl, _, rfl, .inl ⟨SqL.of ep3, fun t ht => ?_⟩⟩
        refine q2 _ t (a :: r0) (s3.trans (same_upd ht)) hp.sp hlen ?_
        rw [upd_same, ← eq3]
      · have ne : (!decide (V.int v = V.int b)) = true := by
          rw [decide_eq_false (fun z => e (V.int.inj z))]
          rfl
        rw [ne]
        refine iteT ⟨_, fun _ _ hh => hh, ?_⟩
        cases hv with
        | goal _ => exact absurd rfl e
        | step ev _ hu2 _ =>
          rename_i u _ _
          have r0' : ∃ r1, rest = u :: r1 := by
            cases hu2 with
            | goal _ => exact ⟨[], rfl⟩
            | step _ _ _ _ => exact ⟨_, rfl⟩
          obtain ⟨r1, rfl⟩ := r0'
          have len3 : (don ++ v :: u :: r1).length ≤ 8 := by rw [eq3]; exact hlen
          have len4 : (vi (don ++ [v])).length < sizeLine := by
            rw [List.length_map, List.length_append, List.length_singleton]
            rw [List.length_append, List.length_cons] at len3
            exact small1000 (by omega)
          have hdg : DGet H2 d (V.int v) (some (V.int u)) := by
            have := DGet.k (k := Sum.inl v) ed3
            unfold lk at ev
            rw [ev] at this
            exact this
          refine ⟨_, rfl, .inl ⟨rfl, _, SqL.of ep3⟩, _, rfl, _, rfl, _, rfl, pl, _, _, _, rfl, rfl, SqL.of ep3, hat, d, V.int u, rfl, hdg, pl, _, _, rfl, rfl, ep3, len4, ?_⟩
          · refine ⟨r1.length, by simp, don ++ [v], u, r1, rfl, same_put s3 gpl, (upd_ne npd).trans ed3, ?_, hu2, by rw [List.append_assoc]; exact eq3, rfl⟩
            rw [upd_same, vi_app (don ++ [v])]
            rfl
end
end Fw
namespace Fw
open PySem PySem.Spec PyProof.Rows L2 SrtO

section
variable {P : Program} {w : World} {A : Around} {E : Value → Shared → Prop} {s : Shared}
/-- sorted of anything that can be collected, by an order -/
theorem sorted_any {a : Addr} {ltv : Value → Value → Bool} {Q : Value → Shared → Prop} (O : Swo ltv) (good : List Value → Shared → Prop) (col : wpAny (model P w) A.in1 (collect (.ref a)) good E s) (hz : ∀ vs z, good vs z → vs.length ≤ sizeLine)
    (hS : ∀ vs z, good vs z → 2 ≤ vs.length → SortableO P w A.in1.in1 { z with heap := z.heap.push (seqObj "list" vs.toArray 0) } z.heap.objs.size vs ltv)
    (fin : ∀ vs z out, good vs z → Srtd ltv out → Stb ltv out vs → Q (.ref z.heap.objs.size) { z with heap := sortedHeap (z.heap.push (seqObj "list" vs.toArray 0)) z.heap.objs.size vs out.toArray }) :
    wpAny (model P w) A (call (.builtin "sorted") [.ref a]) Q E s := by
  refine Calls.call_function_entry kind_sorted plain_sorted entry_sorted (args_sorted1 _) ?_
  show wpAny (model P w) A.in1 (Builtin.«sorted» _) _ _ _
  unfold Builtin.«sorted»
  refine wpAny_bind (m := checkCount "sorted" 1 1 _) (wpAny_pure (wpAny_bind (wpAny_mono col (fun vs z g => ?_) fun _ _ e => e)))
  refine wpAny_bind (wpAny_newList ?_ (hz vs z g))
  have at0 : (z.heap.push (seqObj "list" vs.toArray 0)).get? z.heap.objs.size = some (seqObj "list" vs.toArray 0) := Heap.get?_push_size _ rfl
  refine wpAny_bind (wpAny_holding (wpAny_call_entry slot_list_sort ⟨_, at0, rfl⟩ entry_list_sort (list_sort_ord O at0 (hz vs z g) (hS vs z g) fun out h1 h2 => ?_) (args_list_sort _)))
  exact ⟨_, rfl, wpAny_pure ⟨_, rfl, fin vs z out g h1 h2⟩⟩
end

/-- sorted(d), the keys of d ints -/
def rSortedDI : List V → Hp → VK → Prop := fun xs H Q => ∃ (a : Addr) (kvs : List (Key × V)) (ks : List Int), xs = [.ref a] ∧ H a = some (.dK kvs) ∧ kvs.map (·.1) = ks.map Sum.inl ∧
  ∀ (ys : List Int) (p : Addr), ys.Perm ks → ys.Pairwise (· ≤ ·) → H p = none → Q (.ref p) (upd H p (.lst (vi ys)))
theorem cr_sortedDI {X : Cx} (hc : X.calm = true) : CallR X (.builtin "sorted") rSortedDI := by
  intro pins s σ H xs us Q I r h
  obtain ⟨a, kvs, ks, rfl, ha, hk, q⟩ := h
  rw [Vals.ref1 r]
  obtain ⟨len, lo, vs, rel, dd⟩ := dk_of I.hok ha
  obtain ⟨ep, hat⟩ := dd.dictAt
  have ek : vs.map (·.1) = ks.map Sum.inl := rel.keys.symm.trans hk
  have el : vs.length = ks.length := by simpa using congrArg List.length ek
  have ez : ks.length ≤ sizeLine := by
    have := congrArg List.length hk
    rw [List.length_map, List.length_map] at this
    omega
  refine sorted_any swo_int (fun us z => IntsAre us ks ∧ Inv X pins σ H z ∧ z = { s with heap := z.heap, toks := z.toks }) ?_ ?_ ?_ ?_
  · refine PySem.W.kdu_collect (PySem.W.kdl_dict (knd := mixKind X.prog X.w) (kvs := vs) (ep := ep) lo) (I.ok.hd hc) hat (by omega) fun h' tk acc keep items => ⟨?_, I.kept keep, rfl⟩
    have lena : acc.toList.length = vs.length := by
      rw [Array.length_toList]
      exact items.1
    have rv := keys_at (us := acc.toList) (vs := vs) lena fun j v e => by
      obtain ⟨k, x, e1, e2⟩ := items.2 j v (by rw [← Array.getElem?_toList]; exact e)
      exact ⟨k, x, e1, e2⟩
    have e3 : (vs.map fun p => kV p.1) = ks.map V.int := by
      have := congrArg (List.map kV) ek
      rw [List.map_map, List.map_map] at this
      exact this
    rw [e3] at rv
    exact rv.ints
  · intro us z g
    rw [g.1.length]
    exact ez
  · intro us z g h2
    exact ints_sortable g.1 h2
  · rintro us z out ⟨hi, J, ez'⟩ h1 h2
    obtain ⟨k1, k2, k3⟩ := ints_out hi h1 h2
    have at0 : (z.heap.push (seqObj "list" us.toArray 0)).get? z.heap.objs.size = some (seqObj "list" us.toArray 0) := Heap.get?_push_size _ rfl
    obtain ⟨e', he'⟩ := sortedHeap_at (vs := us) (out := out.toArray) at0
    refine ⟨.ref z.heap.objs.size, upd H z.heap.objs.size (.lst (vi (out.map iv))), J.laid (t' := z.toks) (fun b u e => ?_) (Nat.le_refl _) ⟨?_, out, e', vals_of_ints k1, he'⟩, rfl, q _ _ k2 k3 (J.hok.fresh (Nat.le_refl _))⟩
    · have lt := Heap.lt_size e
      rw [sortedHeap_old (Nat.ne_of_lt lt) (by rw [size_push']; exact Nat.lt_succ_of_lt lt)]
      exact Heap.get?_push_of_some _ e
    · rw [List.length_map, k2.length_eq]
      exact ez
end Fw
namespace Fw
open PySem PySem.Spec PyProof.Rows L2 SrtO

/-! ### lists of ints in the order of tuples -/
def lexI : List Int → List Int → Bool
  | [], [] => false
  | [], _ :: _ => true
  | _ :: _, [] => false
  | x :: xs, y :: ys => if x = y then lexI xs ys else decide (x < y)
theorem lexI_asym : ∀ {xs ys : List Int}, lexI xs ys = true → lexI ys xs = false
  | [], [], h => by cases h
  | [], _ :: _, _ => rfl
  | _ :: _, [], h => by cases h
  | x :: xs, y :: ys, h => by
    unfold lexI at h ⊢
    by_cases e : x = y
    · rw [if_pos e] at h
      rw [if_pos e.symm]
      exact lexI_asym h
    · rw [if_neg e, decide_eq_true_eq] at h
      rw [if_neg (fun z => e z.symm)]
      exact decide_eq_false (by omega)
theorem lexI_tr : ∀ {xs ys zs : List Int}, lexI ys xs = false → lexI zs ys = false → lexI zs xs = false
  | [], [], [], _, _ => rfl
  | [], [], _ :: _, _, _ => rfl
  | [], _ :: _, [], _, h => by cases h
  | [], _ :: _, _ :: _, _, _ => rfl
  | _ :: _, [], _, h, _ => by cases h
  | _ :: _, _ :: _, [], _, h => by cases h
  | x :: xs, y :: ys, z :: zs, h1, h2 => by
    unfold lexI at h1 h2 ⊢
    by_cases e1 : y = x
    · rw [if_pos e1] at h1
      by_cases e2 : z = y
      · rw [if_pos e2] at h2
        rw [if_pos (e2.trans e1)]
        exact lexI_tr h1 h2
      · rw [if_neg e2, decide_eq_false_iff_not] at h2
        rw [if_neg (fun q => e2 (q.trans e1.symm))]
        exact decide_eq_false (by omega)
    · rw [if_neg e1, decide_eq_false_iff_not] at h1
      by_cases e2 : z = y
      · rw [if_neg (fun q => e1 (e2.symm.trans q))]
        exact decide_eq_false (by omega)
      · rw [if_neg e2, decide_eq_false_iff_not] at h2
        rw [if_neg (by omega)]
        exact decide_eq_false (by omega)
theorem lexI_total : ∀ {xs ys : List Int}, lexI xs ys = false → xs ≠ ys → lexI ys xs = true
  | [], [], _, h => absurd rfl h
  | [], _ :: _, h, _ => by cases h
  | _ :: _, [], _, _ => rfl
  | x :: xs, y :: ys, h, n => by
    unfold lexI at h ⊢
    by_cases e : x = y
    · rw [if_pos e] at h
      rw [if_pos e.symm]
      exact lexI_total h fun z => n (by rw [e, z])
    · rw [if_neg e, decide_eq_false_iff_not] at h
      rw [if_neg (fun z => e z.symm)]
      exact decide_eq_true (by omega)
theorem lexI_head {x y : Int} {xs ys : List Int} (h : x < y) : lexI (x :: xs) (y :: ys) = true := by
  unfold lexI
  rw [if_neg (by omega)]
  exact decide_eq_true h
/-- two lists that rise strictly, with the same members, are one -/
theorem rise_ext {α : Type} {lt : α → α → Prop} (as : ∀ a b, lt a b → ¬ lt b a) : ∀ {xs ys : List α}, xs.Pairwise lt → ys.Pairwise lt → (∀ x, x ∈ xs ↔ x ∈ ys) → xs = ys
  | [], [], _, _, _ => rfl
  | [], y :: ys, _, _, h => absurd ((h y).mpr (List.mem_cons_self ..)) (by simp)
  | x :: xs, [], _, _, h => absurd ((h x).mp (List.mem_cons_self ..)) (by simp)
  | x :: xs, y :: ys, hx, hy, h => by
    obtain ⟨hx1, hx2⟩ := List.pairwise_cons.mp hx
    obtain ⟨hy1, hy2⟩ := List.pairwise_cons.mp hy
    have e : x = y := by
      rcases List.mem_cons.mp ((h x).mp (List.mem_cons_self ..)) with h1 | h1
      · exact h1
      · rcases List.mem_cons.mp ((h y).mpr (List.mem_cons_self ..)) with h2 | h2
        · exact h2.symm
        · exact absurd (hy1 _ h1) (as _ _ (hx1 _ h2))
    subst e
    rw [rise_ext as hx2 hy2 fun z => ?_]
    constructor
    · intro m
      rcases List.mem_cons.mp ((h z).mp (List.mem_cons_of_mem _ m)) with e | e
      · subst e; exact absurd (hx1 _ m) (as _ _ (hx1 _ m))
      · exact e
    · intro m
      rcases List.mem_cons.mp ((h z).mpr (List.mem_cons_of_mem _ m)) with e | e
      · subst e; exact absurd (hy1 _ m) (as _ _ (hy1 _ m))
      · exact e

/-! ### the machine's comparison of two tuples of ints -/
def lexF (fin : Bool) : List Int → List Int → Bool
  | x :: xs, y :: ys => if x = y then lexF fin xs ys else decide (x < y)
  | _, _ => fin
theorem lexF_eq : ∀ (xs ys : List Int), lexF (decide (xs.length < ys.length)) xs ys = lexI xs ys
  | [], [] => rfl
  | [], _ :: _ => by unfold lexF lexI; simp
  | _ :: _, [] => by unfold lexF lexI; simp
  | x :: xs, y :: ys => by
    unfold lexF lexI
    have e : decide ((x :: xs).length < (y :: ys).length) = decide (xs.length < ys.length) := by simp
    rw [e, lexF_eq xs ys]
section
variable {P : Program} {w : World} {A : Around} {s : Shared}
theorem kat_ints {fin : Bool} : ∀ {xs ys : List Value} {ns ms : List Int} (i : Nat), IntsAre xs ns → IntsAre ys ms → PySem.W.KatLex P w A true fin (fun r s' => s' = s ∧ r = lexF fin ns ms) (xs.zip ys) i s := by
  intro xs ys ns ms i hx
  induction hx generalizing ys ms i with
  | nil => intro _; exact PySem.W.kat_nil ⟨rfl, by cases ms <;> rfl⟩
  | cons x t hx ih =>
    intro hy
    cases hy with
    | nil => exact PySem.W.kat_nil ⟨rfl, rfl⟩
    | cons y u hy =>
      refine PySem.W.kat_cons (SeqAt.EqAt.int_int x t y u P w _ _ (PySem.W.kat_go (fun e => ?_) fun e => ?_))
      · have e : x = y := by simpa using e
        subst e
        unfold lexF
        rw [if_pos rfl]
        exact PySem.W.kat_yes (ih (i + 1) hy)
      · have e : ¬ x = y := by simpa using e
        unfold lexF
        rw [if_neg e]
        refine PySem.W.kat_no ?_
        cases hb : (true && i == 0) with
        | true => exact oneLt_int ⟨rfl, rfl⟩
        | false => exact PySem.W.kat_one _ _ (PyProof.Rows.lt_int (show s = s ∧ decide (x < y) = decide (x < y) from ⟨rfl, rfl⟩))
theorem swo_lexI (k : Value → List Int) : Swo fun v u => lexI (k v) (k u) := ⟨fun _ _ h => lexI_asym h, fun _ _ _ h1 h2 => lexI_tr h1 h2⟩
/-- tuples of ints, none empty, sort by their order -/
theorem tups_sortable {a : Addr} {vs : List Value} {k : Value → List Int} (h0 : 0 < vs.length) (hp : ∀ v ∈ vs, TS.TupInts s.heap v (k v) ∧ k v ≠ []) (ha : ∀ o, s.heap.get? a = some o → o.cls ≠ .type "tuple") : SortableO P w A s a vs fun v u => lexI (k v) (k u) := by
  intro h' keep
  have hp' : ∀ v ∈ vs, TS.TupInts h' v (k v) := fun v hv => (hp v hv).1.keeps fun b o e c => keep b o (fun z => ha o (z ▸ e) c) e
  have firsts : ∀ us : List Value, (∀ v ∈ us, v ∈ vs) → ∃ fs : List Value, PySem.W.KatTups h' us fs ∧ fs.length = us.length ∧ ∀ f ∈ fs, ∃ x t, f = Value.int x t := by
    intro us
    induction us with
    | nil => exact fun _ => ⟨[], PySem.W.KatTups.nil, rfl, fun _ hm => nomatch hm⟩
    | cons v us ih =>
      intro hu
      obtain ⟨fs, g1, g2, g3⟩ := ih fun z hz => hu z (List.mem_cons_of_mem _ hz)
      have hv := hu v (List.mem_cons_self ..)
      obtain ⟨b, xs, rfl, ⟨o, ho, hc, n, hd⟩, hi⟩ := hp' v hv
      have ne := (hp _ hv).2
      generalize k (.ref b) = kb at hi ne
      obtain ⟨l⟩ := xs
      cases l with
      | nil =>
        have hi : IntsAre [] kb := hi
        cases hi
        exact absurd rfl ne
      | cons f l =>
        have hf : ∃ x t, f = Value.int x t := by
          have hi : IntsAre (f :: l) kb := hi
          cases hi
          exact ⟨_, _, rfl⟩
        refine ⟨f :: fs, PySem.W.KatTups.cons ho hc hd rfl g1, by rw [List.length_cons, List.length_cons, g2], fun z hz => ?_⟩
        rcases List.mem_cons.mp hz with rfl | hz
        · exact hf
        · exact g3 z hz
  obtain ⟨fs, g1, g2, g3⟩ := firsts vs fun _ h => h
  refine ⟨tuples' true, fun Q E hq => ?_, fun p q hm hm' => ?_⟩
  · refine PySem.W.kat_kind (T := .type "int") g1 (by omega) (fun f hf => ?_) (by rfl) ?_
    · obtain ⟨x, t, rfl⟩ := g3 f hf
      exact PySem.W.Looks.now
    · rw [show (Value.type "int" != Value.type "tuple") = true by decide +kernel]
      exact hq
  · obtain ⟨b, xs, e1, ⟨o, ho, hc, n, hd⟩, hi⟩ := hp' p.1 hm
    obtain ⟨b2, xs2, e2, ⟨o2, ho2, hc2, n2, hd2⟩, hi2⟩ := hp' q.1 hm'
    have fe : (lt2 fun v u => lexI (k v) (k u)) p q = lexI (k p.1) (k q.1) := rfl
    rw [fe, ← lexF_eq]
    have l1 : (k p.1).length = xs.size := by rw [← hi.length]; simp
    have l2 : (k q.1).length = xs2.size := by rw [← hi2.length]; simp
    rw [l1, l2]
    generalize k p.1 = ns at hi
    generalize k q.1 = ms at hi2
    rw [e1, e2]
    exact PySem.W.kat_lt ho hd ho2 hd2 (kat_ints 0 hi hi2)
end

/-- sorted(set), the members tuples of ints, none empty -/
def rSortedTV (K : PySem.W.Frag) (P : Program) (w : World) : List V → Hp → VK → Prop := fun vs H Q => ∃ (a : Addr) (L : List (Addr × List Int)), vs = [V.ref a] ∧ H a = some (SetTO P w a L) ∧ (∀ p ∈ L, SqT K H p.1 (vi p.2) ∧ p.2 ≠ []) ∧
  ∀ (L' : List (Addr × List Int)) (p : Addr), (∀ q, q ∈ L' ↔ q ∈ L) → (L'.map (·.2)).Pairwise (fun x y => lexI x y = true) → H p = none → Q (.ref p) (upd H p (.lst (L'.map fun q => V.ref q.1)))
theorem cr_sortedTV {X : Cx} (hc : X.calm = true) : CallR X (.builtin "sorted") (rSortedTV X.K X.prog X.w) := by
  intro pins s σ H vs us Q I r h
  obtain ⟨a, L, rfl, ha, hk, q⟩ := h
  rw [Vals.ref1 r]
  have R0 : SetT0 X.prog X.w s.heap a L := (I.hok a _ ha).1
  obtain ⟨es, ep, t, R⟩ := R0.full fun p hp => I.isT (hk p hp).1
  have few := R.few
  have rows : es.toList.map (·.2) = L.map fun q => Value.ref q.1 := by
    rw [R.rows]
    unfold rowsOf
    rw [List.map_map]
    rfl
  have one : ∀ q ∈ L, ∀ r ∈ L, q.1 = r.1 → q = r := fun q hq r hr e => by
    have a1 := R.tup q hq
    rw [e] at a1
    exact Prod.ext e (a1.inj (R.tup r hr))
  have tup : ∀ (h' : Heap), (∀ b o, s.heap.get? b = some o → h'.get? b = some o) → ∀ q ∈ L, TS.TupInts h' (.ref q.1) q.2 := fun h' kk q hq => tupInts_of (P := X.prog) (w := X.w) (isT_keep (R.tup q hq) kk)
  obtain ⟨o, ho, hex, hd⟩ := R.ob
  have hsz := R.size
  refine sorted_any (swo_lexI (TS.intsOf s.heap)) (fun us z => (∀ b o, s.heap.get? b = some o → z.heap.get? b = some o) ∧ s.heap.objs.size ≤ z.heap.objs.size ∧ z.gens = s.gens ∧ z.os = s.os ∧ us.Perm (L.map fun q => Value.ref q.1))
    (collect_set (A := X.A.in1) (I.ok.hd hc) ⟨o, ho, hex.1, hd⟩ R.fits (by unfold scanBound; omega) R.tab.ris R.led fun z out k1 k2 k3 k4 k5 => ⟨k1, k2, k3, k4, by rw [← rows]; exact k5⟩) ?_ ?_ ?_
  · rintro us z ⟨_, _, _, _, pm⟩
    rw [pm.length_eq, List.length_map, sizeLine_eq]
    omega
  · rintro us z ⟨k1, _, _, _, pm⟩ h2
    refine tups_sortable (by omega) (fun v hv => ?_) fun o' e => ?_
    · obtain ⟨p, hp, rfl⟩ := List.mem_map.mp (pm.mem_iff.mp hv)
      have e0 : TS.intsOf s.heap (.ref p.1) = p.2 := (tup s.heap (fun _ _ e => e) p hp).ints
      rw [e0]
      exact ⟨tup _ (fun b o e => Heap.get?_push_of_some _ (k1 b o e)) p hp, (hk p hp).2⟩
    · have e' : some o' = some (seqObj "list" us.toArray 0) := e.symm.trans (Heap.get?_push_size _ rfl)
      cases e'
      intro c
      exact absurd (Value.type.inj c) (by decide)
  · rintro us z out ⟨k1, k2, k3, k4, pm⟩ h1 h2
    have pm2 := h2.perm.trans pm
    obtain ⟨L', pL, eL⟩ := perm_map_inv pm2 rfl
    have at0 : (z.heap.push (seqObj "list" us.toArray 0)).get? z.heap.objs.size = some (seqObj "list" us.toArray 0) := Heap.get?_push_size _ rfl
    obtain ⟨e', he'⟩ := sortedHeap_at (vs := us) (out := out.toArray) at0
    have hn : H z.heap.objs.size = none := I.hok.fresh k2
    have kk : ∀ b o, s.heap.get? b = some o → (sortedHeap (z.heap.push (seqObj "list" us.toArray 0)) z.heap.objs.size us out.toArray).get? b = some o := fun b o e => by
      have lt := Heap.lt_size (k1 b o e)
      rw [sortedHeap_old (Nat.ne_of_lt lt) (by rw [size_push']; exact Nat.lt_succ_of_lt lt)]
      exact Heap.get?_push_of_some _ (k1 b o e)
    have rise : (L'.map (·.2)).Pairwise (fun x y => lexI x y = true) := by
      rw [eL] at h1
      have p1 := List.pairwise_map.mp h1
      have nd : (L'.map (·.2)).Nodup := (pL.map _).nodup_iff.mpr R.nd
      refine List.pairwise_map.mpr (List.Pairwise.imp_of_mem ?_ (p1.and (List.pairwise_map.mp nd)))
      rintro q r hq hr ⟨g1, g2⟩
      have f1 : TS.intsOf s.heap (.ref q.1) = q.2 := (tup s.heap (fun _ _ e => e) q (pL.mem_iff.mp hq)).ints
      have f2 : TS.intsOf s.heap (.ref r.1) = r.2 := (tup s.heap (fun _ _ e => e) r (pL.mem_iff.mp hr)).ints
      have g1 : lexI (TS.intsOf s.heap (.ref r.1)) (TS.intsOf s.heap (.ref q.1)) = false := g1
      rw [f1, f2] at g1
      exact lexI_total g1 fun e => g2 e.symm
    have J : Inv X pins σ (upd H z.heap.objs.size (.lst (L'.map fun q => V.ref q.1))) { s with heap := sortedHeap (z.heap.push (seqObj "list" us.toArray 0)) z.heap.objs.size us out.toArray, gens := z.gens, drawn := z.drawn, toks := z.toks } :=
      I.call (ch := []) (Un.laid kk k2 hn) (I.hok.laid kk k2 ⟨by rw [List.length_map, pL.length_eq, sizeLine_eq]; omega, out, e', by rw [eL]; exact vals_of_refs L', he'⟩) (by rw [k3]; exact I.bare) (fun _ z => nomatch z)
    have ez : ({ z with heap := sortedHeap (z.heap.push (seqObj "list" us.toArray 0)) z.heap.objs.size us out.toArray } : Shared) = { s with heap := sortedHeap (z.heap.push (seqObj "list" us.toArray 0)) z.heap.objs.size us out.toArray, gens := z.gens, drawn := z.drawn, toks := z.toks } := by
      cases z
      cases k4
      rfl
    rw [ez]
    exact ⟨.ref z.heap.objs.size, _, J, rfl, q L' _ (fun x => pL.mem_iff) rise hn⟩
end Fw
namespace Fw
open PySem PySem.Spec PyProof.Rows L2

/-- what can be reached from g over rooms of R -/
inductive Wk (D : List (Int × Int)) (R : List Int) (g : Int) : Int → Prop
  | base : Wk D R g g
  | step {v o : Int} : Wk D R g v → adj D v o → o ∈ R → Wk D R g o
section
variable {D : List (Int × Int)} {R : List Int} {g : Int}
theorem Wk.mem {v : Int} (h : Wk D R g v) : v = g ∨ v ∈ R := by
  cases h with
  | base => exact .inl rfl
  | step _ _ m => exact .inr m
theorem Wk.trans {a b c : Int} (h : Wk D R a b) (k : Wk D R b c) : Wk D R a c := by
  induction k with
  | base => exact h
  | step _ r m ih => exact .step ih r m
theorem Wk.symm {v : Int} (hg : g ∈ R) (h : Wk D R g v) : Wk D R v g := by
  induction h with
  | base => exact .base
  | @step v o k r m ih =>
    have mv : v ∈ R := by
      rcases k.mem with e | e
      · rw [e]; exact hg
      · exact e
    exact (Wk.step .base (adj_symm r) mv).trans ih
theorem SDone.wk {n : Int} {kvs : List (Key × V)} (S : SDone n D R g kvs) (v : Int) : isK kvs v = true ↔ Wk D R g v := by
  constructor
  · intro h
    unfold isK at h
    cases e : lk kvs v with
    | none => rw [e] at h; cases h
    | some x =>
      obtain ⟨p, c⟩ := S.inv.way v x e
      clear e h
      induction c with
      | goal _ => exact .base
      | @step v u p e a _ _ ih =>
        rcases S.inv.rng v (by unfold isK; rw [e]; rfl) with e2 | m
        · rw [e2]; exact .base
        · exact .step ih (adj_symm a) m
  · intro h
    induction h with
    | base => unfold isK; rw [S.inv.goal]; rfl
    | step _ r m ih => exact S.closed _ _ ih r m
/-- the component of g, ascending -/
structure IsC (D : List (Int × Int)) (R : List Int) (g : Int) (l : List Int) : Prop where
  up : l.Pairwise (· < ·)
  mem : ∀ v, v ∈ l ↔ Wk D R g v
theorem IsC.one {l l' : List Int} (a : IsC D R g l) (b : IsC D R g l') : l = l' := up_ext a.up b.up fun v => (a.mem v).trans (b.mem v).symm
theorem IsC.of {l ks : List Int} (p : l.Perm ks) (s : l.Pairwise (· ≤ ·)) (n : ks.Nodup) (m : ∀ v, v ∈ ks ↔ Wk D R g v) : IsC D R g l := ⟨up_of s (p.nodup_iff.mpr n), fun v => by rw [p.mem_iff]; exact m v⟩
end
theorem rg_filter_len {n : Int} {p : Int → Bool} : ((rg n).filter p).length ≤ n.toNat := by
  refine Nat.le_trans (List.length_filter_le _ _) ?_
  rw [rg_len]
  exact Nat.le_refl _

end Fw
namespace Fw
open PySem PySem.Spec PyProof.Rows L2
/-- the components of the first i rooms -/
structure CInv (D : List (Int × Int)) (R : List Int) (i : Nat) (Cs : List (Addr × List Int)) : Prop where
  a : ∀ c ∈ Cs, ∃ r ∈ R.take i, IsC D R r c.2
  b : ∀ r ∈ R.take i, ∃ c ∈ Cs, r ∈ c.2
  up : (Cs.map (·.2)).Pairwise (fun x y => lexI x y = true)
  n : Cs.length ≤ i
section
variable {D : List (Int × Int)} {R : List Int}
theorem IsC.has {g : Int} {l : List Int} (h : IsC D R g l) : g ∈ l := (h.mem g).mpr .base
theorem take_succ_mem {R : List Int} {i : Nat} {r x : Int} (e : R[i]? = some r) : x ∈ R.take (i + 1) ↔ x ∈ R.take i ∨ x = r := by
  rw [List.take_add_one, e, List.mem_append]
  simp
theorem CInv.skip {i : Nat} {Cs : List (Addr × List Int)} (C : CInv D R i Cs) {r : Int} (e : R[i]? = some r) (h : ∃ c ∈ Cs, r ∈ c.2) : CInv D R (i + 1) Cs := by
  refine ⟨fun c hc => ?_, fun x hx => ?_, C.up, Nat.le_succ_of_le C.n⟩
  · obtain ⟨r', h1, h2⟩ := C.a c hc
    exact ⟨r', (take_succ_mem e).mpr (.inl h1), h2⟩
  · rcases (take_succ_mem e).mp hx with hx | hx
    · exact C.b x hx
    · rw [hx]; exact h
theorem CInv.add {i : Nat} {Cs : List (Addr × List Int)} (C : CInv D R i Cs) {r : Int} (e : R[i]? = some r) (upR : R.Pairwise (· < ·)) (no : ∀ c ∈ Cs, r ∉ c.2) {t : Addr} {l : List Int} (hl : IsC D R r l) : CInv D R (i + 1) (Cs ++ [(t, l)]) := by
  have hi : i < R.length := (List.getElem?_eq_some_iff.mp e).1
  have er : R[i] = r := (List.getElem?_eq_some_iff.mp e).2
  have mr : r ∈ R := List.mem_of_getElem? e
  have low : ∀ v ∈ R, v < r → v ∈ R.take i := fun v hv hlt => by
    obtain ⟨j, hj, ej⟩ := List.mem_iff_getElem.mp hv
    refine List.mem_take_iff_getElem.mpr ⟨j, ?_, ej⟩
    have : ¬ i ≤ j := fun hij => by
      rcases Nat.lt_or_eq_of_le hij with h | h
      · have := (List.pairwise_iff_getElem.mp upR) i j hi hj h
        omega
      · subst h; omega
    omega
  have least : ∀ v ∈ l, r ≤ v := fun v hv => by
    by_cases hlt : v < r
    · have wv := (hl.mem v).mp hv
      have mv : v ∈ R := by
        rcases wv.mem with z | z
        · omega
        · exact z
      obtain ⟨c, hc, hvc⟩ := C.b v (low v mv hlt)
      obtain ⟨r', h1, h2⟩ := C.a c hc
      have w2 : Wk D R r' r := ((h2.mem v).mp hvc).trans (wv.symm mr)
      exact absurd ((h2.mem r).mpr w2) (no c hc)
    · omega
  refine ⟨fun c hc => ?_, fun x hx => ?_, ?_, ?_⟩
  · rcases List.mem_append.mp hc with hc | hc
    · obtain ⟨r', h1, h2⟩ := C.a c hc
      exact ⟨r', (take_succ_mem e).mpr (.inl h1), h2⟩
    · rw [List.mem_singleton.mp hc]
      exact ⟨r, (take_succ_mem e).mpr (.inr rfl), hl⟩
  · rcases (take_succ_mem e).mp hx with hx | hx
    · obtain ⟨c, hc, h⟩ := C.b x hx
      exact ⟨c, List.mem_append_left _ hc, h⟩
    · exact ⟨(t, l), List.mem_append_right _ (List.mem_singleton.mpr rfl), by rw [hx]; exact hl.has⟩
  · rw [List.map_append, List.pairwise_append]
    refine ⟨C.up, List.pairwise_singleton _ _, fun x hx y hy => ?_⟩
    have ey : y = l := List.mem_singleton.mp hy
    obtain ⟨c, hc, ec⟩ := List.mem_map.mp hx
    obtain ⟨r', h1, h2⟩ := C.a c hc
    have rr : r' < r := by
      obtain ⟨j, hj, ej⟩ := List.mem_take_iff_getElem.mp h1
      have := (List.pairwise_iff_getElem.mp upR) j i (by omega) hi (by omega)
      omega
    subst ey
    subst ec
    have hr' := h2.has
    have u2 := h2.up
    have hr := hl.has
    revert hr' u2 hr least
    cases c.2 with
    | nil => intro _ h; cases h
    | cons a as =>
      cases y with
      | nil => intro _ _ _ h; cases h
      | cons b bs =>
        intro ls hr' u2 _
        refine lexI_head ?_
        have h1 : r ≤ b := ls b (List.mem_cons_self ..)
        have h2 : a ≤ r' := by
          rcases List.mem_cons.mp hr' with z | z
          · omega
          · exact Int.le_of_lt ((List.pairwise_cons.mp u2).1 r' z)
        omega
  · rw [List.length_append, List.length_singleton]
    exact Nat.succ_le_succ C.n
theorem CInv.done {Cs : List (Addr × List Int)} (C : CInv D R R.length Cs) (l : List Int) : l ∈ Cs.map (·.2) ↔ ∃ r ∈ R, IsC D R r l := by
  have ha := C.a
  have hb := C.b
  rw [List.take_length] at ha hb
  constructor
  · intro h
    obtain ⟨c, hc, e⟩ := List.mem_map.mp h
    subst e
    exact ha c hc
  · rintro ⟨r, hr, h⟩
    obtain ⟨c, hc, hrc⟩ := hb r hr
    obtain ⟨r', h1, h2⟩ := ha c hc
    have w := (h2.mem r).mp hrc
    have : c.2 = l := up_ext h2.up h.up fun v => by
      rw [h2.mem, h.mem]
      exact ⟨fun k => (w.symm h1).trans k, fun k => w.trans k⟩
    exact this ▸ List.mem_map_of_mem hc
end

section
variable {P : Program} {w : World} {K : PySem.W.Frag} {mg : Str → Option Value} {base : Heap}
def refs (Cs : List (Addr × List Int)) : List V := Cs.map fun c => V.ref c.1
def TupsAt (H : Hp) (Cs : List (Addr × List Int)) : Prop := ∀ c ∈ Cs, H c.1 = some (.tup (vi c.2)) ∧ c.2.length ≤ 20
theorem TupsAt.same {H H' : Hp} {Cs : List (Addr × List Int)} (h : TupsAt H Cs) (e : Same H H') : TupsAt H' Cs := fun c hc => ⟨e _ _ (h c hc).1, (h c hc).2⟩
theorem get_refs {Cs : List (Addr × List Int)} {i : Nat} {x : V} (h : (refs Cs)[i]? = some x) : ∃ c, Cs[i]? = some c ∧ x = .ref c.1 := by
  unfold refs at h
  rw [List.getElem?_map] at h
  cases e : Cs[i]? with
  | none => rw [e] at h; cases h
  | some v => rw [e] at h; exact ⟨v, rfl, (Option.some.inj h).symm⟩
def spComp (K : PySem.W.Frag) : Sp := fun vs H Q _ => ∃ (h rl : Addr) (n : Int) (D : List (Int × Int)) (R : List Int), vs = [.ref h, .ref rl] ∧ HouseAt H h n D ∧ Forest n D ∧ 0 ≤ n ∧ n ≤ 8 ∧ H rl = some (.tup (vi R)) ∧ R.Pairwise (· < ·) ∧ R.length ≤ 8 ∧
  ∀ H' t Cs, Same H H' → H' t = some (.tup (refs Cs)) → TupsAt H' Cs → (Cs.map (·.2)).Pairwise (fun x y => lexI x y = true) → (∀ l, l ∈ Cs.map (·.2) ↔ ∃ r ∈ R, IsC D R r l) → Cs.length ≤ 8 → Q (.ref t) H'
abbrev nComp : List Str := ["house", "rooms", "found", "room", "component"]
theorem scComp : FnScope nComp ["house", "rooms"] (defScope sComp) := ⟨rfl, rfl, rfl, by decide +kernel, rfl, by decide +kernel, by decide +kernel⟩
theorem ok_comp {f fN fS : Addr} {fd fdN fdS : FuncData} (F : Fun K "components" "components" sComp f fd) (T : Nm mg) (Tany : mg "any" = none) (DN : Def K mg "neighbors" sNb fN fdN ["house", "room"]) (DS : Def K mg "steps_toward" sSteps fS fdS ["house", "goal", "rooms"]) : FnOk P w K mg base CX0 3 f fd ["house", "rooms"] (spComp K) := by
  have GS : FnOk P w K mg base CX0 2 fS fdS ["house", "goal", "rooms"] (spSteps K) := ok_steps DS.F T DN
  refine F.ok scComp (fun vs H Q E h => ?_) (fun cdv A outer s H vs Q E hr h => ?_)
  · obtain ⟨h, rl, n, D, R, rfl, _⟩ := h
    rfl
  · obtain ⟨h, rl, n, D, R, rfl, hH, hF, n0, n1, eR, upR, lR, q⟩ := h
    refine ⟨_, pss_cons (ps_set (i := 2) scComp.nd rfl (.inl rfl) (pe_lst pa_nil))
      (pss_cons (ps_for PassesOwn.never rfl (pi_tup (pv 1)) (pg_name (i := 3) scComp.nd rfl (Or.inr rfl))
        (pss_one (ps_if (pt_not (pt_val (pe_callB (cr_any rfl) (by rfl) Tany (by decide +kernel) (pa_cons
            (pe_lc (own := [("component", 4)]) (g := gName 4) (tt := tYes) (te := tOp (rIn K false) (tVar 3) (tVar 4)) (by rfl) scComp.nd (pi_list (pv 2)) (blkOk_by (own := [("component", 4)]) (N := nComp) (sc := defScope sComp) (by decide +kernel))
              (fun _ _ _ _ _ => pg_name (i := 4) scComp.nd rfl (Or.inl rfl)) (fun _ _ _ _ _ => pts_nil) (fun _ _ _ _ _ => pe_cmpR op_in_seq (pv 3) (pv 4) (by rfl))) pa_nil))))
          (pss_one (ps_expr (pe_bm PySem.F.plainAttrs_list PySem.F.slot_list_append PySem.F.type_list_append mt_append (pv 2) (pa_cons (pe_callTy call_tuple_of (by rfl) T.tuple (by decide +kernel) (pa_cons
            (pe_callB (cr_sortedDI rfl) (by rfl) T.sorted (by decide +kernel) (pa_cons (pe_call GS hr (by rfl) DS.g DS.F.kp DS.b .nil pass0 (pa_cons (pv 0) (pa_cons (pv 3) (pa_cons (pv 1) pa_nil)))) pa_nil)) pa_nil)) pa_nil))))
          pss_nil)))
      (pss_one (ps_ret (pe_callTy call_tuple_of (by rfl) T.tuple (by decide +kernel) (pa_cons (pv 2) pa_nil))))), ?_⟩
    refine ⟨Nat.zero_le _, fun fl hfl => ?_⟩
    have t0 : TupsAt (upd H fl (.lst [])) [] := fun c hc => by cases hc
    have c0 : CInv D R 0 [] := ⟨fun c hc => (by cases hc), fun r hr => (by simp at hr), List.Pairwise.nil, Nat.le_refl _⟩
    refine ⟨_, rfl, rl, rfl, ⟨_, SqT.of (same_upd hfl _ _ eR)⟩, for_tup (K := K) (a := rl) (xs := vi R) (fun i σ H' => ∃ (Cs : List (Addr × List Int)) (y3 y4 : Option V), σ = [some (.ref h), some (.ref rl), some (.ref fl), y3, y4] ∧ Same H H' ∧ H' fl = some (.lst (refs Cs)) ∧ TupsAt H' Cs ∧ CInv D R i Cs)
      ⟨[], none, none, rfl, same_upd hfl, upd_same, t0, c0⟩ (fun i σ H' _ ⟨_, _, _, _, sm, _⟩ => SqT.of (sm _ _ eR)) ?_ ?_⟩
    · rintro i x σ H1 hx ⟨Cs, y3, y4, rfl, s1, ef, hT, C⟩
      obtain ⟨r, er, rfl⟩ := get_vi hx
      have hi : i < R.length := (List.getElem?_eq_some_iff.mp er).1
      have Cn := C.n
      dsimp only [gName]
      refine if_by (fun b H2 => Same H1 H2 ∧ (b = true → ∀ c ∈ Cs, r ∉ c.2) ∧ (b = false → ∃ c ∈ Cs, r ∈ c.2)) ?_ ?_ ?_
      · rintro H2 ⟨s2, no, _⟩
        have no := no rfl
        have ef2 := s2 _ _ ef
        refine ⟨_, rfl, .inl ⟨rfl, _, SqL.of ef2⟩, _, rfl, _, rfl, _, rfl, h, rl, n, D, r, R, rfl, hH.same (s1.trans s2), hF, n0, n1, .inr (SqT.of (s2 _ _ (s1 _ _ eR))), fun H3 d kvs s3 hd ed S => ?_⟩
        obtain ⟨ks, k1, k2, k3⟩ := S.inv.keys
        have sl := S.inv.len
        have kl : ks.length = kvs.length := by simpa using (congrArg List.length k1).symm
        refine ⟨d, kvs, ks, rfl, ed, k1, fun ys p pm up hp => ⟨p, _, rfl, .inl ⟨SqL.of upd_same, fun t ht => ?_⟩⟩⟩
        have sA : Same H2 (upd (upd H3 p (.lst (vi ys))) t (.tup (vi ys))) := s3.trans ((same_upd hp).trans (same_upd ht))
        have ef4 := sA _ _ ef2
        have hl : IsC D R r ys := IsC.of pm up k2 fun v => (k3 v).trans (S.wk v)
        refine ⟨fl, _, _, rfl, rfl, ef4, by unfold refs; rw [List.length_map]; exact small1000 (by omega), ?_⟩
        refine ⟨Cs ++ [(t, ys)], _, _, rfl, same_put (s1.trans (s2.trans sA)) hfl, ?_, fun c hc => ?_, C.add er upR no hl⟩
        · rw [upd_same]
          unfold refs
          rw [List.map_append]
          rfl
        · rcases List.mem_append.mp hc with hc | hc
          · have h1 := hT.same (s2.trans sA) c hc
            exact ⟨(upd_ne (ne_of h1.1 ef4 (by intro z; cases z))).trans h1.1, h1.2⟩
          · rw [List.mem_singleton.mp hc]
            have h1 : (upd (upd H3 p (.lst (vi ys))) t (.tup (vi ys))) t = some (.tup (vi ys)) := upd_same
            exact ⟨(upd_ne (ne_of h1 ef4 (by intro z; cases z))).trans h1, by show ys.length ≤ 20; rw [pm.length_eq]; omega⟩
      · rintro H2 ⟨s2, _, yes⟩
        exact ⟨Cs, _, _, rfl, s1.trans s2, s2 _ _ ef, hT.same s2, C.skip er (yes rfl)⟩
      · intro QQ hQ
        refine ⟨_, rfl, fl, rfl, ⟨_, SqL.of ef⟩, fun L hL => lc_list (K := K) (a := fl) (xs := refs Cs) (fun j H2 => Same H1 H2 ∧ H2 L = some (.lst ((Cs.take j).map fun c => V.bl (decide (r ∈ c.2))))) ⟨same_upd hL, upd_same⟩ (fun j H2 _ hh => SqL.of (hh.1 _ _ ef)) ?_ ?_⟩
        · rintro j x H2 hx ⟨s2, e2⟩
          obtain ⟨c, ec, rfl⟩ := get_refs hx
          have hc := hT.same s2 c (List.mem_of_getElem? ec)
          have hj : j < Cs.length := (List.getElem?_eq_some_iff.mp ec).1
          refine ⟨rfl, ?_⟩
          unfold tYes
          refine iteT ?_
          refine ⟨_, rfl, _, rfl, c.1, _, rfl, .inr (SqT.of hc.1), rfl, flat_ints c.2, _, e2, ?_, same_put s2 hL, ?_⟩
          · rw [List.length_map, List.length_take]
            exact small1000 (by omega)
          · rw [upd_same, List.take_add_one, ec, List.map_append]
            show some (HO.lst (_ ++ [V.bl (inV (.int r) (vi c.2))])) = _
            rw [inV_ints]
            rfl
        · rintro H2 ⟨s2, e2⟩
          have el : (refs Cs).length = Cs.length := by unfold refs; rw [List.length_map]
          rw [el, List.take_length] at e2
          refine ⟨L, Cs.map fun c => decide (r ∈ c.2), rfl, SqL.of (by rw [List.map_map]; exact e2), _, rfl, hQ _ _ ⟨s2, fun e c hc m => ?_, fun e => ?_⟩⟩
          · have : ((Cs.map fun c => decide (r ∈ c.2)).any id) = true := List.any_eq_true.mpr ⟨true, List.mem_map.mpr ⟨c, hc, decide_eq_true m⟩, rfl⟩
            rw [this] at e
            cases e
          · have e : ((Cs.map fun c => decide (r ∈ c.2)).any id) = true := by simpa using e
            obtain ⟨b, hb, hb2⟩ := List.any_eq_true.mp e
            obtain ⟨c, hc, e3⟩ := List.mem_map.mp hb
            have hb2 : b = true := hb2
            rw [hb2] at e3
            exact ⟨c, hc, of_decide_eq_true e3⟩
    · rintro σ H1 ⟨Cs, y3, y4, rfl, s1, ef, hT, C⟩
      rw [List.length_map] at C
      have Cn := C.n
      refine ⟨_, rfl, fl, _, rfl, .inl ⟨SqL.of ef, fun t ht => ?_⟩⟩
      exact q _ t Cs (s1.trans (same_upd ht)) upd_same (hT.same (same_upd ht)) C.up C.done (by omega)
end
end Fw
namespace Fw
open PySem PySem.Spec PyProof.Rows L2

/-- the rooms with people; the rooms without -/
def occ (n : Int) (P : List (Str × Int)) : List Int := (rg n).filter fun r => decide (r ∈ P.map (·.2))
def emp (n : Int) (P : List (Str × Int)) : List Int := (rg n).filter fun r => !decide (r ∈ P.map (·.2))
theorem rg_snoc (i : Nat) : (List.range (i + 1)).map (fun (j : Nat) => 0 + (j : Int)) = (List.range i).map (fun (j : Nat) => 0 + (j : Int)) ++ [0 + (i : Int)] := by
  rw [List.range_succ, List.map_append]
  rfl
theorem rg0 (n : Int) : (List.range n.toNat).map (fun (j : Nat) => 0 + (j : Int)) = rg n := List.map_congr_left fun i _ => by omega
theorem mem_occ {n : Int} {P : List (Str × Int)} {r : Int} : r ∈ occ n P ↔ (0 ≤ r ∧ r < n) ∧ r ∈ P.map (·.2) := by
  unfold occ
  rw [List.mem_filter, mem_rg, decide_eq_true_eq]
theorem mem_emp {n : Int} {P : List (Str × Int)} {r : Int} : r ∈ emp n P ↔ (0 ≤ r ∧ r < n) ∧ r ∉ P.map (·.2) := by
  unfold emp
  rw [List.mem_filter, mem_rg, Bool.not_eq_true', decide_eq_false_iff_not]
theorem Pl.mem_occ {n : Int} {P : List (Str × Int)} (h : Pl n P) {r : Int} : r ∈ occ n P ↔ r ∈ P.map (·.2) := by
  rw [Fw.mem_occ]
  refine ⟨fun x => x.2, fun x => ⟨?_, x⟩⟩
  obtain ⟨y, hy, e⟩ := List.mem_map.mp x
  rw [← e]
  exact h.rm y hy
theorem rg_up (n : Int) : (rg n).Pairwise (· < ·) := range_up n.toNat
theorem occ_up (n : Int) (P : List (Str × Int)) : (occ n P).Pairwise (· < ·) := (rg_up n).filter _
theorem emp_up (n : Int) (P : List (Str × Int)) : (emp n P).Pairwise (· < ·) := (rg_up n).filter _
theorem occ_len (n : Int) (P : List (Str × Int)) : (occ n P).length ≤ n.toNat := rg_filter_len
theorem emp_len (n : Int) (P : List (Str × Int)) : (emp n P).length ≤ n.toNat := rg_filter_len
theorem in_empty (P : List (Str × Int)) (r : Int) : ((inside P [r]).map V.str).isEmpty = !decide (r ∈ P.map (·.2)) := by
  rw [Bool.eq_iff_iff, List.isEmpty_iff, List.map_eq_nil_iff, inside_nil, Bool.not_eq_true', decide_eq_false_iff_not]
  constructor
  · intro h m
    obtain ⟨y, hy, e⟩ := List.mem_map.mp m
    exact h y hy (List.mem_singleton.mpr e)
  · intro h x hx m
    rw [List.mem_singleton] at m
    exact h (m ▸ List.mem_map_of_mem (f := (·.2)) hx)
/-- the regions of the rooms R -/
structure Regs (D : List (Int × Int)) (R : List Int) (Ls : List (List Int)) : Prop where
  up : Ls.Pairwise (fun x y => lexI x y = true)
  mem : ∀ l, l ∈ Ls ↔ ∃ r ∈ R, IsC D R r l
def RegsAt (H : Hp) (t : Addr) (D : List (Int × Int)) (R : List Int) (Cs : List (Addr × List Int)) : Prop := H t = some (.tup (refs Cs)) ∧ TupsAt H Cs ∧ Cs.length ≤ 8 ∧ Regs D R (Cs.map (·.2))
theorem RegsAt.same {H H' : Hp} {t : Addr} {D : List (Int × Int)} {R : List Int} {Cs : List (Addr × List Int)} (x : RegsAt H t D R Cs) (e : Same H H') : RegsAt H' t D R Cs := ⟨e _ _ x.1, x.2.1.same e, x.2.2⟩
theorem RegsAt.tk {H H' : Hp} {t : Addr} {D : List (Int × Int)} {R : List Int} {Cs : List (Addr × List Int)} (x : RegsAt H t D R Cs) (e : Tk H H') : RegsAt H' t D R Cs := ⟨e.t x.1, fun c hc => ⟨e.t (x.2.1 c hc).1, (x.2.1 c hc).2⟩, x.2.2⟩
theorem Wk.mono {D : List (Int × Int)} {R R' : List Int} {g v : Int} (h : Wk D R g v) (m : ∀ x ∈ R, x ∈ R') : Wk D R' g v := by
  induction h with
  | base => exact .base
  | step _ a o ih => exact .step ih a (m _ o)
theorem Wk.congr {D : List (Int × Int)} {R R' : List Int} (h : ∀ x, x ∈ R ↔ x ∈ R') {g v : Int} : Wk D R g v ↔ Wk D R' g v := ⟨fun w => w.mono fun x hx => (h x).mp hx, fun w => w.mono fun x hx => (h x).mpr hx⟩
theorem IsC.congr {D : List (Int × Int)} {R R' : List Int} (h : ∀ x, x ∈ R ↔ x ∈ R') {g : Int} {l : List Int} (i : IsC D R g l) : IsC D R' g l := ⟨i.up, fun v => (i.mem v).trans (Wk.congr h)⟩
theorem IsC.re {D : List (Int × Int)} {R : List Int} {g r : Int} {l : List Int} (h : IsC D R g l) (hg : g ∈ R) (hr : r ∈ l) : IsC D R r l := by
  refine ⟨h.up, fun v => ?_⟩
  have w := (h.mem r).mp hr
  rw [h.mem]
  exact ⟨fun k => (w.symm hg).trans k, fun k => w.trans k⟩
theorem IsC.sub {D : List (Int × Int)} {R : List Int} {g : Int} {l : List Int} (h : IsC D R g l) (hg : g ∈ R) : ∀ x ∈ l, x ∈ R := fun x hx => by
  rcases ((h.mem x).mp hx).mem with e | e
  · rw [e]; exact hg
  · exact e
section
variable {D : List (Int × Int)} {R : List Int} {Ls : List (List Int)}
theorem Regs.has (h : Regs D R Ls) {l : List Int} (hl : l ∈ Ls) {r : Int} (hr : r ∈ l) : r ∈ R ∧ IsC D R r l := by
  obtain ⟨g, hg, hc⟩ := (h.mem l).mp hl
  exact ⟨hc.sub hg r hr, hc.re hg hr⟩
theorem Regs.one (h : Regs D R Ls) {l m : List Int} (hl : l ∈ Ls) (hm : m ∈ Ls) {r : Int} (h1 : r ∈ l) (h2 : r ∈ m) : l = m := (h.has hl h1).2.one (h.has hm h2).2
/-- the list of the component of a room: by what can be reached -/
theorem isC_ex (D : List (Int × Int)) {R : List Int} (upR : R.Pairwise (· < ·)) {r : Int} (hr : r ∈ R) : ∃ l, IsC D R r l := by
  classical
  refine ⟨R.filter fun v => decide (Wk D R r v), upR.filter _, fun v => ?_⟩
  rw [List.mem_filter, decide_eq_true_eq]
  refine ⟨fun h => h.2, fun h => ⟨?_, h⟩⟩
  rcases h.mem with e | e
  · rw [e]; exact hr
  · exact e
theorem Regs.ex (h : Regs D R Ls) (upR : R.Pairwise (· < ·)) {r : Int} (hr : r ∈ R) : ∃ l ∈ Ls, r ∈ l := by
  obtain ⟨l, hl⟩ := isC_ex D upR hr
  exact ⟨l, (h.mem l).mpr ⟨r, hr, hl⟩, hl.has⟩
end
theorem IsC.len {D : List (Int × Int)} {n : Int} {P : List (Str × Int)} {r : Int} {l : List Int} (h : IsC D (occ n P) r l) (hr : r ∈ occ n P) (n1 : n ≤ 8) : l.length ≤ 8 := by
  have h1 : l.length ≤ n.toNat := short (h.up.imp fun {a b} z => by omega) fun x hx => by
    have := (Fw.mem_occ.mp (h.sub hr x hx)).1
    omega
  omega
section
variable {P : Program} {w : World} {K : PySem.W.Frag} {mg : Str → Option Value} {base : Heap}

def spFReg : Sp := fun vs H Q _ => ∃ (h p : Addr) (n : Int) (D : List (Int × Int)) (P : List (Str × Int)), vs = [.ref h, .ref p] ∧ HouseAt H h n D ∧ Forest n D ∧ 0 ≤ n ∧ n ≤ 8 ∧ PlAt H p P ∧ P.length ≤ 100 ∧ ∀ H' t Cs, Same H H' → RegsAt H' t D (occ n P) Cs → Q (.ref t) H'
abbrev nFReg : List Str := ["house", "placement", "occupied", "room"]
theorem scFReg : FnScope nFReg ["house", "placement"] (defScope sFReg) := ⟨rfl, rfl, rfl, by decide +kernel, rfl, by decide +kernel, by decide +kernel⟩
theorem ok_freg {f : Addr} {fd : FuncData} {k : Nat} (F : Fun K "find_regions" "find_regions" sFReg f fd) (T : Nm mg) (Cpeople_in : Cal P w K mg base (k + 3) "people_in" pPIn spPIn) (Ccomponents : Cal P w K mg base (k + 3) "components" ["house", "rooms"] (spComp K)) : FnOk P w K mg base CX0 (k + 4) f fd pHP spFReg := by
  refine F.ok scFReg (fun vs H Q E h => ?_) (fun cdv A outer s H vs Q E hr h => ?_)
  · obtain ⟨h, p, n, D, P, rfl, _⟩ := h
    rfl
  · obtain ⟨h, p, n, D, P, rfl, hH, hF, n0, n1, hP, lP, q⟩ := h
    refine ⟨_, (pss_cons (ps_set (i := 2) scFReg.nd rfl (.inl rfl) (pe_callTy (call_tupleK K rfl) (by rfl) T.tuple (by decide +kernel) (pa_cons (pe_lc (own := [("room", 3)]) (g := gName 3) (by rfl) scFReg.nd (pi_range1 (by rfl) T.range (pa_cons (pe_ix (ix_tupK K rfl) (pv 0) pe_int (fun _ _ => rfl)) pa_nil))
 (blkOk_by (own := [("room", 3)]) (N := nFReg) (sc := defScope sFReg) (by decide +kernel))
 (fun _ _ _ _ _ => (pg_name (i := 3) scFReg.nd rfl (.inl rfl))) (fun _ _ _ _ _ => pts_one (pt_truthK K rfl (pe_cal Cpeople_in hr (by rfl) (pa_cons (pv 1) (pa_cons (pv 3) pa_nil))) (by intro _; rfl))) (fun _ _ _ _ _ => (pv 3))) pa_nil)))
      (pss_one (ps_ret (pe_cal Ccomponents hr (by rfl) (pa_cons (pv 0) (pa_cons (pv 2) pa_nil)))))), ?_⟩
    obtain ⟨qd, eh⟩ := hH.room0
    refine ⟨_, rfl, h, _, _, _, rfl, rfl, SqT.of eh, atI0, n, rfl, by omega, by omega, fun L hL => lc_range (lo := 0) (n := n.toNat) (fun i H1 => Same H H1 ∧ H1 L = some (.lst (vi (((List.range i).map fun (j : Nat) => 0 + (j : Int)).filter fun r => decide (r ∈ P.map (·.2))))))
      ⟨same_upd hL, upd_same⟩ ?_ ?_⟩
    · rintro i H1 hi ⟨s1, e1⟩
      refine ⟨rfl, _, rfl, _, rfl, p, P, _, rfl, hP.same s1, lP, fun H2 u s2 e2 => ⟨_, .inr (.inl ⟨_, SqT.of e2, rfl⟩), ?_⟩⟩
      rw [in_empty, rg_snoc, filter_snoc]
      refine ite2 (fun c => ?_) (fun c => ?_)
      · rw [if_pos (by simpa using c)]
        refine ⟨_, rfl, _, s2 _ _ e1, ?_, same_put (s1.trans s2) hL, ?_⟩
        · rw [List.length_map]
          refine small1000 (Nat.le_trans (List.length_filter_le _ _) ?_)
          rw [List.length_map, List.length_range]
          omega
        · rw [upd_same, vi_app]
          rfl
      · rw [if_neg (by simpa using c), List.append_nil]
        exact ⟨s1.trans s2, s2 _ _ e1⟩
    · rintro H1 ⟨s1, e1⟩
      rw [rg0] at e1
      refine ⟨L, _, rfl, .inl ⟨SqL.of e1, fun t ht => ?_⟩⟩
      have s2 := s1.trans (same_upd (o := .tup (vi (occ n P))) ht)
      have lo := occ_len n P
      exact ⟨_, rfl, _, rfl, h, t, n, D, occ n P, rfl, hH.same s2, hF, n0, n1, upd_same, occ_up n P, by omega, fun H' u Cs s' a1 a2 a3 a4 a5 => q _ u Cs (s2.trans s') ⟨a1, a2, a5, a3, a4⟩⟩
def spRegOf : Sp := fun vs H Q _ => ∃ (h p : Addr) (n : Int) (D : List (Int × Int)) (P : List (Str × Int)) (r : Int), vs = [.ref h, .ref p, .int r] ∧ HouseAt H h n D ∧ Forest n D ∧ 0 ≤ n ∧ n ≤ 8 ∧ PlAt H p P ∧ Pl n P ∧ P.length ≤ 100 ∧ r ∈ P.map (·.2) ∧
  ∀ H' t l, Same H H' → H' t = some (.tup (vi l)) → IsC D (occ n P) r l → l.length ≤ 8 → Q (.ref t) H'
abbrev nRegOf : List Str := ["house", "placement", "room", "region"]
theorem scRegOf : FnScope nRegOf ["house", "placement", "room"] (defScope sRegOf) := ⟨rfl, rfl, rfl, by decide +kernel, rfl, by decide +kernel, by decide +kernel⟩
theorem ok_regof {f : Addr} {fd : FuncData} {k : Nat} (F : Fun K "region_of" "region_of" sRegOf f fd) (Cfind_regions : Cal P w K mg base (k + 4) "find_regions" pHP spFReg) : FnOk P w K mg base CX0 (k + 5) f fd pRegOf spRegOf := by
  refine F.ok scRegOf (fun vs H Q E h => ?_) (fun cdv A outer s H vs Q E hr h => ?_)
  · obtain ⟨h, p, n, D, P, r, rfl, _⟩ := h
    rfl
  · obtain ⟨h, p, n, D, P, r, rfl, hH, hF, n0, n1, hP, pl, lP, hm, q⟩ := h
    refine ⟨_, (pss_cons (ps_for PassesOwn.never rfl (pi_tup (pe_cal Cfind_regions hr (by rfl) (pa_cons (pv 0) (pa_cons (pv 1) pa_nil)))) (pg_name (i := 3) scRegOf.nd rfl (.inl rfl))
      (pss_one (ps_if (pt_cmpR (op_inK K rfl) (pv 2) (pv 3) (by rfl))
       (pss_one (ps_ret (pv 3)))
       pss_nil)))
      pss_never), ?_⟩
    have ho : r ∈ occ n P := pl.mem_occ.mpr hm
    refine ⟨_, rfl, _, rfl, h, p, n, D, P, rfl, hH, hF, n0, n1, hP, lP, fun H1 t Cs s1 rg => ?_⟩
    refine ⟨t, rfl, ⟨_, SqT.of rg.1⟩, for_tup (K := K) (a := t) (xs := refs Cs) (fun i σ' H' => ∃ y3, σ' = [some (.ref h), some (.ref p), some (.int r), y3] ∧ H' = H1 ∧ ∀ c ∈ Cs.take i, r ∉ c.2) ⟨_, rfl, rfl, fun x hx => by cases hx⟩ ?_ ?_ ?_⟩
    · rintro i σ' H' _ ⟨_, _, rfl, _⟩
      exact SqT.of rg.1
    · rintro i x σ' H' hx ⟨y3, rfl, rfl, hn⟩
      obtain ⟨c, hc, rfl⟩ := get_refs hx
      have mc := List.mem_of_getElem? hc
      refine ⟨_, rfl, _, rfl, c.1, _, rfl, .inr (SqT.of (rg.2.1 c mc).1), rfl, flat_vi _, _, rfl, ?_⟩
      rw [if_neg (by decide), inV_vi]
      refine ite2 (fun z => ?_) (fun z => ?_)
      · have z : r ∈ c.2 := of_decide_eq_true z
        have ic := (rg.2.2.2.has (List.mem_map_of_mem (f := (·.2)) mc) z).2
        exact ⟨_, rfl, q _ c.1 c.2 s1 (rg.2.1 c mc).1 ic (ic.len ho n1)⟩
      · have z : r ∉ c.2 := fun e => z (decide_eq_true e)
        refine ⟨_, rfl, rfl, fun d hd => ?_⟩
        rw [take_snoc hc, List.mem_append] at hd
        rcases hd with hd | hd
        · exact hn d hd
        · rw [List.mem_singleton.mp hd]
          exact z
    · rintro σ' H' ⟨y3, rfl, rfl, hn⟩
      have : (refs Cs).length = Cs.length := by unfold refs; rw [List.length_map]
      rw [this, List.take_length] at hn
      obtain ⟨l, hl, hr'⟩ := rg.2.2.2.ex (occ_up n P) ho
      obtain ⟨c, hc, rfl⟩ := List.mem_map.mp hl
      exact absurd hr' (hn c hc)
end
end Fw
namespace Fw
open PySem PySem.Spec PyProof.Rows L2
theorem upS_ext : ∀ {xs ys : List Str}, xs.Pairwise ltS → ys.Pairwise ltS → (∀ x, x ∈ xs ↔ x ∈ ys) → xs = ys
  | [], [], _, _, _ => rfl
  | [], y :: ys, _, _, h => absurd ((h y).mpr (List.mem_cons_self ..)) List.not_mem_nil
  | x :: xs, [], _, _, h => absurd ((h x).mp (List.mem_cons_self ..)) List.not_mem_nil
  | x :: xs, y :: ys, hx, hy, h => by
    obtain ⟨hx1, hx2⟩ := List.pairwise_cons.mp hx
    obtain ⟨hy1, hy2⟩ := List.pairwise_cons.mp hy
    have e : x = y := by
      rcases List.mem_cons.mp ((h x).mp (List.mem_cons_self ..)) with e | m
      · exact e
      · rcases List.mem_cons.mp ((h y).mpr (List.mem_cons_self ..)) with e | m'
        · exact e.symm
        · exact absurd (ltS_trans (hy1 x m) (hx1 y m')) (ltS_irr y)
    subst e
    rw [upS_ext hx2 hy2 fun z => ?_]
    constructor
    · intro m
      rcases List.mem_cons.mp ((h z).mp (List.mem_cons_of_mem _ m)) with e | m'
      · rw [e] at m
        exact absurd (hx1 x m) (ltS_irr x)
      · exact m'
    · intro m
      rcases List.mem_cons.mp ((h z).mpr (List.mem_cons_of_mem _ m)) with e | m'
      · rw [e] at m
        exact absurd (hy1 x m) (ltS_irr x)
      · exact m'
theorem sorted_same {ns ys : List Str} (h : Names ns) (p : ys.Perm ns) (s : sortedS ys = true) : ys = ns :=
  upS_ext (sorted_names p s h.nodup h.nam).up h.up fun x => p.mem_iff
theorem subset_len {α : Type} [DecidableEq α] : ∀ {xs ys : List α}, xs.Nodup → (∀ x ∈ xs, x ∈ ys) → xs.length ≤ ys.length
  | [], _, _, _ => Nat.zero_le _
  | x :: xs, ys, nd, h => by
    obtain ⟨h1, h2⟩ := List.nodup_cons.mp nd
    have hx := h x (List.mem_cons_self ..)
    have := subset_len (ys := ys.erase x) h2 fun z hz => (List.mem_erase_of_ne (show z ≠ x from fun e => h1 (e ▸ hz))).mpr (h z (List.mem_cons_of_mem _ hz))
    rw [List.length_erase_of_mem hx] at this
    have := List.length_pos_of_mem hx
    simp only [List.length_cons]
    omega
theorem split_len {α : Type} (p : α → Bool) : ∀ xs : List α, (xs.filter p).length + (xs.filter fun x => !p x).length = xs.length
  | [] => rfl
  | x :: xs => by
    have := split_len p xs
    cases h : p x with
    | true =>
      rw [List.filter_cons_of_pos h, List.filter_cons_of_neg (by simp [h])]
      simp only [List.length_cons]
      omega
    | false =>
      rw [List.filter_cons_of_neg (by simp [h]), List.filter_cons_of_pos (by simp [h])]
      simp only [List.length_cons]
      omega
theorem occ_emp (n : Int) (P : List (Str × Int)) : (occ n P).length + (emp n P).length = n.toNat := by
  have := split_len (fun r => decide (r ∈ P.map (·.2))) (rg n)
  rw [rg_len] at this
  exact this
section
variable {D : List (Int × Int)} {R : List Int} {Ls : List (List Int)}
theorem up_nodup {l : List Int} (h : l.Pairwise (· < ·)) : l.Nodup := List.nodup_iff_pairwise_ne.mpr (h.imp fun {a b} z => by omega)
theorem lex_irr : ∀ l : List Int, lexI l l = false
  | [] => rfl
  | x :: l => by
    rw [lexI, if_pos rfl]
    exact lex_irr l
theorem Regs.flat_nodup (h : Regs D R Ls) : Ls.flatten.Nodup := by
  rw [List.nodup_iff_pairwise_ne, List.pairwise_flatten]
  refine ⟨fun l hl => ?_, ?_⟩
  · obtain ⟨g, _, hc⟩ := (h.mem l).mp hl
    exact List.nodup_iff_pairwise_ne.mp (up_nodup hc.up)
  · refine h.up.imp_of_mem fun {a b} ha hb lt x hx y hy e => ?_
    subst e
    have := h.one ha hb hx hy
    subst this
    rw [lex_irr] at lt
    cases lt
theorem Regs.flat_mem (h : Regs D R Ls) (upR : R.Pairwise (· < ·)) (x : Int) : x ∈ Ls.flatten ↔ x ∈ R := by
  rw [List.mem_flatten]
  constructor
  · rintro ⟨l, hl, hx⟩
    exact (h.has hl hx).1
  · intro hx
    exact h.ex upR hx
theorem Regs.total (h : Regs D R Ls) (upR : R.Pairwise (· < ·)) : (Ls.map List.length).sum = R.length := by
  rw [← List.length_flatten]
  have h1 := subset_len h.flat_nodup fun x hx => (h.flat_mem upR x).mp hx
  have h2 := subset_len (up_nodup upR) fun x hx => (h.flat_mem upR x).mpr hx
  omega
theorem lex_ext : ∀ {xs ys : List (List Int)}, xs.Pairwise (fun a b => lexI a b = true) → ys.Pairwise (fun a b => lexI a b = true) → (∀ x, x ∈ xs ↔ x ∈ ys) → xs = ys
  | [], [], _, _, _ => rfl
  | [], y :: ys, _, _, h => absurd ((h y).mpr (List.mem_cons_self ..)) List.not_mem_nil
  | x :: xs, [], _, _, h => absurd ((h x).mp (List.mem_cons_self ..)) List.not_mem_nil
  | x :: xs, y :: ys, hx, hy, h => by
    obtain ⟨hx1, hx2⟩ := List.pairwise_cons.mp hx
    obtain ⟨hy1, hy2⟩ := List.pairwise_cons.mp hy
    have e : x = y := by
      rcases List.mem_cons.mp ((h x).mp (List.mem_cons_self ..)) with e | m
      · exact e
      · rcases List.mem_cons.mp ((h y).mpr (List.mem_cons_self ..)) with e | m'
        · exact e.symm
        · have a := lexI_asym (hy1 x m)
          rw [hx1 y m'] at a
          cases a
    subst e
    rw [lex_ext hx2 hy2 fun z => ?_]
    constructor
    · intro m
      rcases List.mem_cons.mp ((h z).mp (List.mem_cons_of_mem _ m)) with e | m'
      · rw [e] at m
        have a := hx1 x m
        rw [lex_irr] at a
        cases a
      · exact m'
    · intro m
      rcases List.mem_cons.mp ((h z).mpr (List.mem_cons_of_mem _ m)) with e | m'
      · rw [e] at m
        have a := hy1 x m
        rw [lex_irr] at a
        cases a
      · exact m'
theorem Regs.uniq {Ls' : List (List Int)} (h : Regs D R Ls) (k : Regs D R Ls') : Ls = Ls' := lex_ext h.up k.up fun l => (h.mem l).trans (k.mem l).symm
end
/-- a move takes nobody to an empty room -/
theorem mvd_rooms {P : List (Str × Int)} {nm : Str} {t r : Int} (ht : t ∈ P.map (·.2)) (h : r ∈ (mvd P nm t).map (·.2)) : r ∈ P.map (·.2) := by
  obtain ⟨x, hx, e⟩ := List.mem_map.mp h
  obtain ⟨y, hy, rfl⟩ := List.mem_map.mp hx
  have e : (if y.1 = nm then t else y.2) = r := e
  by_cases c : y.1 = nm
  · rw [if_pos c] at e
    rw [← e]
    exact ht
  · rw [if_neg c] at e
    rw [← e]
    exact List.mem_map_of_mem (f := (·.2)) hy
theorem nil_ne {K : PySem.W.Frag} {σ : L2.St} {L : Addr} {H : Hp} {Q : Bool → Hp → Prop} (e : H L = some (.lst [])) (h : ∀ H', Same H H' → Q false H') : tLst tNil σ H fun y H2 => rNeD K (.ref L) y H2 fun x H3 => ∃ k, x = .bl k ∧ Q k H3 :=
  ⟨Nat.zero_le _, fun p hp => ⟨.list [], .list [], .lst (SqL.of (same_upd hp _ _ e)) .nil, .lst (SqL.of upd_same) .nil, shaped_list [], shaped_list [], false, rfl, h _ (same_upd hp)⟩⟩
theorem nil_eq {K : PySem.W.Frag} {σ : L2.St} {L : Addr} {H : Hp} {Q : Bool → Hp → Prop} (e : H L = some (.lst [])) (h : ∀ H', Same H H' → Q true H') : tLst tNil σ H fun y H2 => rEqD K (.ref L) y H2 fun x H3 => ∃ k, x = .bl k ∧ Q k H3 :=
  ⟨Nat.zero_le _, fun p hp => ⟨.list [], .list [], .lst (SqL.of (same_upd hp _ _ e)) .nil, .lst (SqL.of upd_same) .nil, shaped_list [], shaped_list [], true, rfl, h _ (same_upd hp)⟩⟩
/-- texts as data -/
theorem dp_strs {K : PySem.W.Frag} {H : Hp} : ∀ ns : List Str, DpAll K H (ns.map V.str) (ns.map PyData.str)
  | [] => .nil
  | n :: ns => .cons (.str n) (dp_strs ns)
theorem strs_lay {ns : List Str} (h : ∀ x ∈ ns, PyData.strOk x = true) : PyData.canLayAll0 (ns.map PyData.str) = true := by
  rw [canLayAll_strs', List.all_eq_true]
  exact h
theorem strs_deep : ∀ ns : List Str, PyData.depthAll (ns.map PyData.str) = 0
  | [] => by simp [PyData.depthAll]
  | n :: ns => by
    rw [List.map_cons, PyData.depthAll, strs_deep ns, PyData.depth]
    rfl
theorem strs_shaped {ns : List Str} (h : ∀ x ∈ ns, PyData.strOk x = true) : SeqAt.shaped (.list (ns.map PyData.str)) = true := by
  unfold SeqAt.shaped
  rw [PyData.canLay0, strs_lay h, PyData.depth, strs_deep]
  decide
/-- tuples of ints as data -/
theorem dpR {K : PySem.W.Frag} {H : Hp} : ∀ {Cs : List (Addr × List Int)}, (∀ c ∈ Cs, H c.1 = some (.tup (vi c.2))) → DpAll K H (refs Cs) (Cs.map fun c => PyData.tuple (c.2.map PyData.int))
  | [], _ => .nil
  | c :: Cs, h => .cons (.tup (SqT.of (h c (List.mem_cons_self ..))) (dp_ints _)) (dpR fun q hq => h q (List.mem_cons_of_mem _ hq))
theorem layR : ∀ Cs : List (Addr × List Int), PyData.canLayAll0 (Cs.map fun c => PyData.tuple (c.2.map PyData.int)) = true ∧ PyData.depthAll (Cs.map fun c => PyData.tuple (c.2.map PyData.int)) ≤ 1
  | [] => by simp [PyData.canLayAll0, PyData.depthAll]
  | c :: Cs => by
    obtain ⟨h1, h2⟩ := layR Cs
    rw [List.map_cons, PyData.canLayAll0, PyData.depthAll, h1, PyData.canLay0, lay_ints, PyData.depth, deep_ints]
    exact ⟨rfl, by omega⟩
theorem shapedR (Cs : List (Addr × List Int)) : SeqAt.shaped (.tuple (Cs.map fun c => PyData.tuple (c.2.map PyData.int))) = true := by
  obtain ⟨h1, h2⟩ := layR Cs
  unfold SeqAt.shaped
  rw [PyData.canLay0, h1, PyData.depth]
  simp
  omega
theorem shapedRL (Cs : List (Addr × List Int)) : SeqAt.shaped (.list (Cs.map fun c => PyData.tuple (c.2.map PyData.int))) = true := by
  obtain ⟨h1, h2⟩ := layR Cs
  unfold SeqAt.shaped
  rw [PyData.canLay0, h1, PyData.depth]
  simp
  omega
end Fw
namespace Fw
open PySem PySem.Spec PyProof.Rows L2
section
variable {P : Program} {w : World} {K : PySem.W.Frag} {mg : Str → Option Value} {base : Heap}
def spConn (K : PySem.W.Frag) : Sp := fun vs H Q _ => ∃ (h rl : Addr) (n : Int) (D : List (Int × Int)) (R : List Int) (g : Int), vs = [.ref h, .ref rl, .int g] ∧ HouseAt H h n D ∧ Forest n D ∧ n ≤ 8 ∧ (SqL K H rl (vi R) ∨ SqT K H rl (vi R)) ∧ 0 ≤ g ∧ g < n ∧
  ∀ H' t l, Same H H' → H' t = some (.tup (vi l)) → IsC D R g l → l.length ≤ 20 → Q (.ref t) H'
def newp (R fnd : List Int) : Int → Bool := fun o => decide (o ∈ R) && !decide (o ∈ fnd)
theorem filter_take_succ {p : Int → Bool} {xs : List Int} {j : Nat} {x : Int} (e : xs[j]? = some x) : (xs.take (j + 1)).filter p = (xs.take j).filter p ++ if p x = true then [x] else [] := by
  rw [List.take_add_one, e, List.filter_append]
  congr 1
  by_cases c : p x = true
  · rw [if_pos c]
    show List.filter p [x] = _
    rw [List.filter_cons_of_pos c]
    rfl
  · rw [if_neg c]
    show List.filter p [x] = _
    rw [List.filter_cons_of_neg c]
    rfl
/-- what the search keeps -/
structure CAt (D : List (Int × Int)) (R : List Int) (n g : Int) (fnd : List Int) (sp : Nat) : Prop where
  nd : fnd.Nodup
  ok : ∀ v ∈ fnd, Wk D R g v ∧ 0 ≤ v ∧ v < n
  one : g ∈ fnd
  cl : ∀ v ∈ fnd.take sp, ∀ o, adj D v o → o ∈ R → o ∈ fnd
  le : sp ≤ fnd.length
theorem CAt.len {D : List (Int × Int)} {R : List Int} {n g : Int} {fnd : List Int} {sp : Nat} (C : CAt D R n g fnd sp) (h : n ≤ 8) : fnd.length ≤ 8 := by
  have : fnd.length ≤ n.toNat := short C.nd fun x hx => by have := (C.ok x hx).2; omega
  omega
theorem CAt.next {D : List (Int × Int)} {R : List Int} {n g : Int} {fnd : List Int} {sp : Nat} {v : Int} (C : CAt D R n g fnd sp) (hF : Forest n D) (e : fnd[sp]? = some v) : CAt D R n g (fnd ++ (nb n D v).filter (newp R fnd)) (sp + 1) := by
  have hs : sp < fnd.length := (List.getElem?_eq_some_iff.mp e).1
  have mv := List.mem_of_getElem? e
  have mem : ∀ o, o ∈ (nb n D v).filter (newp R fnd) ↔ adj D v o ∧ o ∈ R ∧ o ∉ fnd := fun o => by
    rw [List.mem_filter, hF.mem_nb]
    unfold newp
    simp
  refine ⟨?_, fun x hx => ?_, List.mem_append_left _ C.one, fun x hx o r m => ?_, ?_⟩
  · rw [List.nodup_append]
    refine ⟨C.nd, ((nb_up n D v).imp fun h => by omega).filter _, fun x hx y hy z => ?_⟩
    rw [z] at hx
    exact ((mem y).mp hy).2.2 hx
  · rcases List.mem_append.mp hx with hx | hx
    · exact C.ok x hx
    · obtain ⟨h1, h2, _⟩ := (mem x).mp hx
      exact ⟨.step (C.ok v mv).1 h1 h2, (hF.adj h1).2.2.1, (hF.adj h1).2.2.2⟩
  · rw [List.take_append_of_le_length (by omega)] at hx
    rcases (take_succ_mem e).mp hx with hx | hx
    · exact List.mem_append_left _ (C.cl x hx o r m)
    · rw [hx] at r
      by_cases c : o ∈ fnd
      · exact List.mem_append_left _ c
      · exact List.mem_append_right _ ((mem o).mpr ⟨r, m, c⟩)
  · rw [List.length_append]
    omega
theorem CAt.done {D : List (Int × Int)} {R : List Int} {n g : Int} {fnd : List Int} {sp : Nat} (C : CAt D R n g fnd sp) (h : ¬ sp < fnd.length) (v : Int) : v ∈ fnd ↔ Wk D R g v := by
  have cl := C.cl
  rw [List.take_of_length_le (by omega)] at cl
  refine ⟨fun m => (C.ok v m).1, fun k => ?_⟩
  induction k with
  | base => exact C.one
  | step _ r m ih => exact cl _ ih _ r m

abbrev nConn : List Str := ["_law_house_here", "_law_rooms", "_law_room", "_law_found", "_law_spot", "_law_there"]
theorem scConn : FnScope nConn ["_law_house_here", "_law_rooms", "_law_room"] (defScope sConn) := ⟨rfl, rfl, rfl, by decide +kernel, rfl, by decide +kernel, by decide +kernel⟩
theorem ok_conn {f fN : Addr} {fd fdN : FuncData} (F : Fun K "_law_connected" "_law_connected" sConn f fd) (T : Nm mg) (DN : Def K mg "_law_neighbors" sLNb fN fdN ["_law_house_here", "_law_room"]) : FnOk P w K mg base CX0 2 f fd ["_law_house_here", "_law_rooms", "_law_room"] (spConn K) := by
  have GN : FnOk P w K mg base CX0 1 fN fdN ["_law_house_here", "_law_room"] spLNb := ok_lnb DN.F T
  refine F.ok scConn (fun vs H Q E h => ?_) (fun cdv A outer s H vs Q E hr h => ?_)
  · obtain ⟨h, rl, n, D, R, g, rfl, _⟩ := h
    rfl
  · obtain ⟨h, rl, n, D, R, g, rfl, hH, hF, hn, hR, g0, g1, q⟩ := h
    refine ⟨_, pss_cons (ps_asg (pe_tup (pa_cons (pe_lst (pa_cons (pv 2) pa_nil)) (pa_cons pe_int pa_nil))) (pg_tup (by rfl) (pgs_cons (pg_name (i := 3) scConn.nd rfl (.inr rfl)) (pgs_cons (pg_name (i := 4) scConn.nd rfl (.inl rfl)) pgs_nil))))
      (pss_cons (ps_while PassesOwn.never (pt_cmpR op_lt (pv 4) (pe_callB call_len_seq (by rfl) T.len PySem.boot_len (pa_cons (pv 3) pa_nil)) (nomark _))
        (pss_cons (ps_expr (pe_bm PySem.F.plainAttrs_list PySem.F.slot_list_extend PySem.F.type_list_extend mt_extend (pv 3) (pa_cons
          (pe_lc (own := [("_law_there", 5)]) (g := gName 5) (tt := tAnd (tTest (tOp (rIn K false) (tVar 5) (tVar 1))) (tTest (tOp (rIn K true) (tVar 5) (tVar 3)))) (by rfl) scConn.nd
            (pi_list (pe_call GN hr (by rfl) DN.g DN.F.kp DN.b .nil pass0 (pa_cons (pv 0) (pa_cons (pe_ix ix_list (pv 3) (pv 4) (fun _ _ => rfl)) pa_nil))))
            (blkOk_by (own := [("_law_there", 5)]) (N := nConn) (sc := defScope sConn) (by decide +kernel)) (fun _ _ _ _ _ => pg_name (i := 5) scConn.nd rfl (Or.inl rfl))
            (fun _ _ _ _ _ => pts_one (PW.pt (pw_and (pt_cmpR op_in_seq (pv 5) (pv 1) (by rfl)) (pw_and1 (pt_cmpR op_notIn_seq (pv 5) (pv 3) (by rfl)))))) (fun _ _ _ _ _ => pv 5)) pa_nil)))
        (pss_one (ps_set (i := 4) scConn.nd rfl (.inl rfl) (pe_op op_add (pv 4) pe_int)))))
      (pss_one (ps_ret (pe_callTy call_tuple_of (by rfl) T.tuple (by decide +kernel) (pa_cons (pe_callB cr_sortedI (by rfl) T.sorted (by decide +kernel) (pa_cons (pv 3) pa_nil)) pa_nil))))), ?_⟩
    refine ⟨_, rfl, by show 1 ≤ sizeLine; decide, fun fl hfl => ⟨by show 2 ≤ sizeLine; decide, fun tp htp => ?_⟩⟩
    refine ⟨tp, _, rfl, SqT.of upd_same, rfl, _, _, rfl, _, _, rfl, rfl, ?_⟩
    have C0 : CAt D R n g [g] 0 := ⟨by simp, fun v hv => by rw [List.mem_singleton.mp hv]; exact ⟨.base, g0, g1⟩, by simp, fun v hv => (by simp at hv), Nat.zero_le _⟩
    refine ⟨fun m σ H' => ∃ (fnd : List Int) (sp : Nat) (y5 : Option V), σ = [some (.ref h), some (.ref rl), some (.int g), some (.ref fl), some (.int (sp : Int)), y5] ∧ Same H H' ∧ H' fl = some (.lst (vi fnd)) ∧ CAt D R n g fnd sp ∧ m = 9 - sp,
      ⟨_, [g], 0, none, rfl, (same_upd hfl).trans (same_upd htp), same_upd htp _ _ upd_same, C0, rfl⟩, ?_⟩
    rintro m σ H1 ⟨fnd, sp, y5, rfl, s1, ef, C, rfl⟩
    have hlen := C.len hn
    refine ⟨_, rfl, _, rfl, fl, _, rfl, .inl (SqL.of ef), _, _, rfl, rfl, _, rfl, ?_⟩
    refine ite2 (fun c => ?_) (fun c => ?_)
    · have c : sp < fnd.length := by
        have := of_decide_eq_true c
        rw [List.length_map] at this
        omega
      refine ⟨_, fun _ _ hh => hh, ?_⟩
      have ev : fnd[sp]? = some fnd[sp] := List.getElem?_eq_getElem c
      have hat : atI (vi fnd) (sp : Int) = some (V.int fnd[sp]) := atI_nat (by rw [List.getElem?_map, ev]; rfl)
      generalize fnd[sp] = v at ev hat
      refine ⟨_, rfl, .inl ⟨rfl, _, SqL.of ef⟩, _, rfl, _, rfl, _, rfl, fl, _, _, _, rfl, rfl, SqL.of ef, hat, h, n, D, v, rfl, hH.same s1, hF, fun H2 l s2 hl el => ?_⟩
      have ef2 := s2 _ _ ef
      have hR2 : SqL K H2 rl (vi R) ∨ SqT K H2 rl (vi R) := hR.imp (fun z => (s1.trans s2).seq z) (fun z => Same.sqT (s1.trans s2) z)
      refine ⟨l, rfl, ⟨_, SqL.of el⟩, fun L hL => lc_list (K := K) (a := l) (xs := vi (nb n D v)) (fun j H3 => Same H2 H3 ∧ H3 L = some (.lst (vi (((nb n D v).take j).filter (newp R fnd))))) ⟨same_upd hL, upd_same⟩ (fun j H3 _ hh => SqL.of (hh.1 _ _ el)) ?_ ?_⟩
      · rintro j x H3 hx ⟨s3, e3⟩
        obtain ⟨o, eo, rfl⟩ := get_vi hx
        refine ⟨rfl, ?_⟩
        refine tt_by (fun b H4 => H4 = H3 ∧ b = newp R fnd o) ?_ ?_
        · intro QQ hQ
          have hR3 : SqL K H3 rl (vi R) ∨ SqT K H3 rl (vi R) := hR2.imp (fun z => s3.seq z) (fun z => Same.sqT s3 z)
          refine ⟨_, rfl, _, rfl, rl, _, rfl, hR3, rfl, flat_ints R, _, rfl, ?_⟩
          show if (inV (.int o) (vi R)) = true then _ else _
          rw [inV_ints]
          refine ite2 (fun c1 => ?_) (fun c1 => ?_)
          · refine ⟨_, rfl, _, rfl, fl, _, rfl, .inl (SqL.of (s3 _ _ ef2)), rfl, flat_ints fnd, _, rfl, hQ _ _ ⟨rfl, ?_⟩⟩
            show (!inV (.int o) (vi fnd)) = _
            rw [inV_ints]
            unfold newp
            rw [c1, Bool.true_and]
          · refine hQ _ _ ⟨rfl, ?_⟩
            unfold newp
            rw [Bool.eq_false_iff.mpr c1, Bool.false_and]
        · rintro b H4 ⟨rfl, rfl⟩
          have jl : j < (nb n D v).length := (List.getElem?_eq_some_iff.mp eo).1
          have nl := nb_len n D v
          refine ite2 (fun c1 => ?_) (fun c1 => ?_)
          · refine ⟨_, rfl, _, e3, ?_, same_put s3 hL, ?_⟩
            · rw [List.length_map]
              refine small1000 (Nat.le_trans (List.length_filter_le _ _) ?_)
              rw [List.length_take]
              omega
            · rw [upd_same, filter_take_succ eo, if_pos c1, vi_app]
              rfl
          · refine ⟨s3, ?_⟩
            rw [filter_take_succ eo, if_neg c1, List.append_nil]
            exact e3
      · rintro H3 ⟨s3, e3⟩
        rw [List.length_map, List.take_length] at e3
        have ef3 := s3 _ _ ef2
        have C2 := C.next hF ev
        have len2 := C2.len hn
        refine ⟨fl, L, _, _, rfl, rfl, ef3, e3, ?_, ?_⟩
        · rw [List.length_append] at len2
          rw [List.length_map, List.length_map]
          exact Nat.le_of_lt (small1000 (by omega))
        refine ⟨_, rfl, _, _, rfl, rfl, ?_⟩
        refine ⟨9 - (sp + 1), by omega, fnd ++ (nb n D v).filter (newp R fnd), sp + 1, _, rfl, same_put (s1.trans (s2.trans s3)) hfl, ?_, C2, rfl⟩
        rw [upd_same, vi_app]
    · have c : ¬ sp < fnd.length := fun z => c (decide_eq_true (by rw [List.length_map]; omega))
      refine ⟨_, rfl, fl, _, rfl, SqL.of ef, fun ys p pm up hp => ⟨p, _, rfl, .inl ⟨SqL.of upd_same, fun t ht => ?_⟩⟩⟩
      exact q _ t ys (s1.trans ((same_upd hp).trans (same_upd ht))) upd_same (IsC.of pm up C.nd (C.done c)) (by rw [pm.length_eq]; omega)
end
end Fw
namespace Fw
open PySem PySem.Spec PyProof.Rows L2
theorem int_dec (a b : Int) : decide (V.int a = V.int b) = decide (a = b) := by
  rw [Bool.eq_iff_iff, decide_eq_true_eq, decide_eq_true_eq]
  exact ⟨V.int.inj, fun e => by rw [e]⟩
section
variable {P : Program} {w : World} {K : PySem.W.Frag} {mg : Str → Option Value} {base : Heap}
def spSurp (K : PySem.W.Frag) : Sp := fun vs H Q _ => ∃ (p t : Addr) (P : List (Str × Int)) (R : List Int), vs = [.ref p, .ref t] ∧ PlAt H p P ∧ SqT K H t (vi R) ∧ P.length ≤ 100 ∧ ∀ H', Same H H' → Q (.int (((inside P R).length : Int) - (R.length : Int))) H'
abbrev nSurp : List Str := ["placement", "region"]
theorem scSurp : FnScope nSurp ["placement", "region"] (defScope sSurp) := ⟨rfl, rfl, rfl, by decide +kernel, rfl, by decide +kernel, by decide +kernel⟩
theorem ok_surp {f : Addr} {fd : FuncData} {k : Nat} (F : Fun K "surplus" "surplus" sSurp f fd) (T : Nm mg) (Cpeople_within : Cal P w K mg base (k + 1) "people_within" pPWi (spPWi K)) : FnOk P w K mg base CX0 (k + 2) f fd pSurp (spSurp K) := by
  refine F.ok scSurp (fun vs H Q E h => ?_) (fun cdv A outer s H vs Q E hr h => ?_)
  · obtain ⟨p, t, P, R, rfl, _⟩ := h
    rfl
  · obtain ⟨p, t, P, R, rfl, hP, hR, lP, q⟩ := h
    refine ⟨_, (pss_one (ps_ret (pe_op op_sub (pe_callB (call_lenK K rfl) (by rfl) T.len (by decide +kernel) (pa_cons (pe_cal Cpeople_within hr (by rfl) (pa_cons (pv 0) (pa_cons (pv 1) pa_nil))) pa_nil)) (pe_callB (call_lenK K rfl) (by rfl) T.len (by decide +kernel) (pa_cons (pv 1) pa_nil))))), ?_⟩
    refine ⟨_, rfl, _, rfl, p, t, P, R, rfl, hP, hR, lP, fun H1 u s1 e1 => ⟨u, _, rfl, .inr (SqT.of e1), _, rfl, t, _, rfl, .inr (sqT_same s1 hR), _, _, rfl, rfl, ?_⟩⟩
    have q := q H1 s1
    simp only [List.length_map]
    exact q
def spTight (K : PySem.W.Frag) : Sp := fun vs H Q _ => ∃ (p t : Addr) (P : List (Str × Int)) (R : List Int), vs = [.ref p, .ref t] ∧ PlAt H p P ∧ SqT K H t (vi R) ∧ P.length ≤ 100 ∧ ∀ H', Same H H' → Q (.bl (decide ((inside P R).length = R.length))) H'
abbrev nIsTight : List Str := ["placement", "region"]
theorem scIsTight : FnScope nIsTight ["placement", "region"] (defScope sIsTight) := ⟨rfl, rfl, rfl, by decide +kernel, rfl, by decide +kernel, by decide +kernel⟩
theorem ok_tight {f : Addr} {fd : FuncData} {k : Nat} (F : Fun K "is_tight" "is_tight" sIsTight f fd) (Csurplus : Cal P w K mg base (k + 2) "surplus" pSurp (spSurp K)) : FnOk P w K mg base CX0 (k + 3) f fd pSurp (spTight K) := by
  refine F.ok scIsTight (fun vs H Q E h => ?_) (fun cdv A outer s H vs Q E hr h => ?_)
  · obtain ⟨p, t, P, R, rfl, _⟩ := h
    rfl
  · obtain ⟨p, t, P, R, rfl, hP, hR, lP, q⟩ := h
    refine ⟨_, (pss_one (ps_ret (pe_cmpR op_eq (pe_cal Csurplus hr (by rfl) (pa_cons (pv 0) (pa_cons (pv 1) pa_nil))) pe_int (nomark _)))), ?_⟩
    refine ⟨_, rfl, _, rfl, p, t, P, R, rfl, hP, hR, lP, fun H1 s1 => ⟨rfl, ?_⟩⟩
    rw [int_dec, show decide (((inside P R).length : Int) - (R.length : Int) = 0) = decide ((inside P R).length = R.length) from by
      rw [Bool.eq_iff_iff, decide_eq_true_eq, decide_eq_true_eq]; omega]
    exact q H1 s1
end
end Fw
set_option maxHeartbeats 2000000
namespace Fw
open PySem PySem.Spec PyProof.Rows L2
/-! moves that can be made one after another (math) -/
theorem SP.upto {R : Int → Int → Prop} {a b c : Int} {p : List Int} (h : SP R a b p) : c ∈ p → ∃ q, SP R a c q ∧ ∀ x ∈ q, x ∈ p := by
  induction h with
  | one a =>
    intro m
    rw [List.mem_singleton.mp m]
    exact ⟨_, .one a, fun x hx => hx⟩
  | @cons a c' b p r q n ih =>
    intro m
    rcases List.mem_cons.mp m with e | m
    · rw [e]
      exact ⟨_, .one a, fun x hx => by rw [List.mem_singleton.mp hx]; exact List.mem_cons_self⟩
    · obtain ⟨q', hq, sub⟩ := ih m
      refine ⟨_, .cons r hq fun z => n (sub _ z), fun x hx => ?_⟩
      rcases List.mem_cons.mp hx with e | hx
      · rw [e]; exact List.mem_cons_self
      · exact List.mem_cons_of_mem _ (sub x hx)
/-- a way within -/
theorem Wk.within {D : List (Int × Int)} {U : List Int} {g v : Int} (h : Wk D U g v) : ∃ p, SP (adj D) g v p ∧ ∀ x ∈ p, x = g ∨ x ∈ U := by
  induction h with
  | base => exact ⟨_, .one g, fun x hx => .inl (List.mem_singleton.mp hx)⟩
  | @step v o _ r mo ih =>
    obtain ⟨p, hp, hs⟩ := ih
    by_cases m : o ∈ p
    · obtain ⟨q, hq, sub⟩ := hp.upto m
      exact ⟨q, hq, fun x hx => hs x (sub x hx)⟩
    · refine ⟨_, hp.snoc r m, fun x hx => ?_⟩
      rcases List.mem_append.mp hx with hx | hx
      · exact hs x hx
      · rw [List.mem_singleton.mp hx]
        exact .inr mo
theorem SP.walks {D : List (Int × Int)} {U : List Int} {a b : Int} {p : List Int} (h : SP (adj D) a b p) : (∀ x ∈ p.tail, x ∈ U) → Wk D U a b := by
  induction h with
  | one a => exact fun _ => .base
  | @cons a c b p r q n ih =>
    intro hs
    have hs : ∀ x ∈ p, x ∈ U := hs
    exact (Wk.step .base r (hs c q.head)).trans (ih fun x hx => hs x (List.mem_of_mem_tail hx))
theorem cut_tail (p : List Int) (h : 0 < p.length) : cutV (vi p) (some 1) none = vi p.tail := by
  unfold cutV vi
  show ((p.map V.int).drop (min 1 (p.map V.int).length)).take ((p.map V.int).length - min 1 (p.map V.int).length) = _
  rw [List.length_map, show min 1 p.length = 1 by omega, List.take_of_length_le (by rw [List.length_drop, List.length_map]; exact Nat.le_refl _), ← List.map_drop, List.drop_one]
/-- the moves X lead from P to Q -/
inductive Runs (n : Int) (D : List (Int × Int)) : List (Str × Int) → List (Str × Int) → List (Str × Int) → Prop
  | nil (P : List (Str × Int)) : Runs n D P [] P
  | cons {P X Q : List (Str × Int)} {nm : Str} {c r : Int} : (nm, c) ∈ P → r ∈ nb n D c → r ∈ P.map (·.2) → Runs n D (mvd P nm r) X Q → Runs n D P ((nm, r) :: X) Q
theorem mvd_twice (P : List (Str × Int)) (nm : Str) (a b : Int) : mvd (mvd P nm a) nm b = mvd P nm b := by
  unfold mvd
  rw [List.map_map]
  refine List.map_congr_left fun x _ => ?_
  by_cases e : x.1 = nm
  · simp [e]
  · simp [e]
theorem mvd_stay {P : List (Str × Int)} {nm : Str} {c : Int} (nd : (P.map (·.1)).Nodup) (m : (nm, c) ∈ P) : mvd P nm c = P := by
  unfold mvd
  refine (List.map_congr_left fun x hx => ?_).trans (List.map_id P)
  by_cases e : x.1 = nm
  · have := key_uniq nd m (show (nm, x.2) ∈ P from e ▸ hx) rfl
    rw [if_pos e, show c = x.2 from congrArg Prod.snd this]
    rfl
  · rw [if_neg e]
    rfl
theorem mvd_self {P : List (Str × Int)} {nm : Str} {c r : Int} (m : (nm, c) ∈ P) : (nm, r) ∈ mvd P nm r := List.mem_map.mpr ⟨_, m, by simp⟩
theorem mvd_other {P : List (Str × Int)} {nm : Str} {r : Int} {x : Str × Int} (m : x ∈ P) (ne : x.1 ≠ nm) : x ∈ mvd P nm r := List.mem_map.mpr ⟨_, m, by simp [ne]⟩
/-- a way whose rooms are other people's can be gone -/
theorem SP.runs {n : Int} {D : List (Int × Int)} (hF : Forest n D) {nm : Str} {a b : Int} {p : List Int} (h : SP (adj D) a b p) : ∀ {P : List (Str × Int)}, (P.map (·.1)).Nodup → (nm, a) ∈ P → (∀ t ∈ p.tail, ∃ x ∈ P, x.1 ≠ nm ∧ x.2 = t) → Runs n D P (p.tail.map fun t => (nm, t)) (mvd P nm b) := by
  induction h with
  | one a =>
    intro P nd m _
    rw [mvd_stay nd m]
    exact .nil P
  | @cons a c b p r q ni ih =>
    intro P nd m oth
    have oth : ∀ t ∈ p, ∃ x ∈ P, x.1 ≠ nm ∧ x.2 = t := oth
    have ep : p = c :: p.tail := by
      cases q <;> rfl
    show Runs n D P (p.map fun t => (nm, t)) _
    rw [ep, List.map_cons]
    obtain ⟨x, hx, _, ex⟩ := oth c q.head
    refine .cons m (hF.mem_nb.mpr r) (ex ▸ List.mem_map_of_mem (f := (·.2)) hx) ?_
    have := ih (P := mvd P nm c) (by rw [mvd_names]; exact nd) (mvd_self m) fun t ht => by
      obtain ⟨y, hy, ne, ey⟩ := oth t (List.mem_of_mem_tail ht)
      exact ⟨y, mvd_other hy ne, ne, ey⟩
    rw [mvd_twice] at this
    exact this
end Fw
set_option maxHeartbeats 2000000
namespace Fw
open PySem PySem.Spec PyProof.Rows L2
/-! two people exchange their rooms (math) -/
theorem Runs.app {n : Int} {D : List (Int × Int)} {P X Q : List (Str × Int)} (h : Runs n D P X Q) : ∀ {Y R : List (Str × Int)}, Runs n D Q Y R → Runs n D P (X ++ Y) R := by
  induction h with
  | nil P => exact fun k => k
  | cons m a o _ ih => exact fun k => .cons m a o (ih k)
theorem mvd_comm {P : List (Str × Int)} {a b : Str} {r s : Int} (h : a ≠ b) : mvd (mvd P a r) b s = mvd (mvd P b s) a r := by
  unfold mvd
  rw [List.map_map, List.map_map]
  refine List.map_congr_left fun x _ => ?_
  by_cases e1 : x.1 = a
  · have e2 : x.1 ≠ b := fun e => h (e1.symm.trans e)
    simp [e1, e2, h]
  · by_cases e2 : x.1 = b
    · simp [e1, e2, h, Ne.symm h]
    · simp [e1, e2]
def go (nm : Str) (p : List Int) : List (Str × Int) := p.tail.map fun t => (nm, t)
theorem SP.off {R : Int → Int → Prop} {a b : Int} {p : List Int} (h : SP R a b p) : a ∉ p.tail := by
  cases h with
  | one a => exact List.not_mem_nil
  | cons _ _ n => exact n
theorem Wk.path {n : Int} {D : List (Int × Int)} {U : List Int} {a b : Int} (hF : Forest n D) (wk : Wk D U a b) {p : List Int} (sp : SP (adj D) a b p) : ∀ t ∈ p.tail, t ∈ U := fun t ht => by
  obtain ⟨q, hq, hs⟩ := wk.within
  have e := hF.uniq _ _ _ _ sp hq
  subst e
  rcases hs t (List.mem_of_mem_tail ht) with rfl | h
  · exact absurd ht sp.off
  · exact h
/-- who shares a room in C -/
def shr (P : List (Str × Int)) (C : List Int) : List Str := ((P.filter fun x => decide (x.2 ∈ C)).filter fun x => decide (1 < (inside P [x.2]).length)).map (·.1)
theorem mem_shr {P : List (Str × Int)} {C : List Int} {a : Str} : a ∈ shr P C ↔ ∃ r, (a, r) ∈ P ∧ r ∈ C ∧ 1 < (inside P [r]).length := by
  unfold shr
  constructor
  · intro h
    obtain ⟨x, hx, rfl⟩ := List.mem_map.mp h
    obtain ⟨h1, h2⟩ := List.mem_filter.mp hx
    obtain ⟨h3, h4⟩ := List.mem_filter.mp h1
    exact ⟨x.2, h3, of_decide_eq_true h4, of_decide_eq_true h2⟩
  · rintro ⟨r, h1, h2, h3⟩
    exact List.mem_map.mpr ⟨(a, r), List.mem_filter.mpr ⟨List.mem_filter.mpr ⟨h1, decide_eq_true h2⟩, decide_eq_true h3⟩, rfl⟩
theorem mem_inside {P : List (Str × Int)} {r : Int} {a : Str} : a ∈ inside P [r] ↔ (a, r) ∈ P := by
  unfold inside
  constructor
  · intro h
    obtain ⟨x, hx, rfl⟩ := List.mem_map.mp h
    obtain ⟨h1, h2⟩ := List.mem_filter.mp hx
    have : x.2 = r := List.mem_singleton.mp (of_decide_eq_true h2)
    rw [← this]
    exact h1
  · intro h
    exact List.mem_map.mpr ⟨(a, r), List.mem_filter.mpr ⟨h, decide_eq_true (List.mem_singleton.mpr rfl)⟩, rfl⟩
/-- somebody else is there -/
theorem another {P : List (Str × Int)} {r : Int} (nd : (P.map (·.1)).Nodup) (a : Str) (h : 1 < (inside P [r]).length) : ∃ x ∈ P, x.1 ≠ a ∧ x.2 = r := by
  have nd : (inside P [r]).Nodup := (List.filter_sublist.map _).nodup nd
  match e : inside P [r], h, nd with
  | y :: z :: l, _, nd =>
    have my : (y, r) ∈ P := mem_inside.mp (by rw [e]; exact List.mem_cons_self)
    have mz : (z, r) ∈ P := mem_inside.mp (by rw [e]; exact List.mem_cons_of_mem _ List.mem_cons_self)
    have ne : y ≠ z := fun q => by
      rw [q, List.nodup_cons] at nd
      exact nd.1 List.mem_cons_self
    by_cases c : y = a
    · exact ⟨_, mz, fun q => ne (c.trans q.symm), rfl⟩
    · exact ⟨_, my, c, rfl⟩
section
variable {n : Int} {D : List (Int × Int)} {P : List (Str × Int)} {C : List Int} {a b : Str} {ra rb : Int}
theorem swap_runs (hF : Forest n D) (nd : (P.map (·.1)).Nodup) (ma : (a, ra) ∈ P) (mb : (b, rb) ∈ P) (ne : ra ≠ rb) {p q : List Int} (hp : SP (adj D) ra rb p) (hq : SP (adj D) rb ra q) (up : ∀ t ∈ p.tail, t ∈ P.map (·.2)) (uq : ∀ t ∈ q.tail, t ∈ P.map (·.2))
    {x0 : Str × Int} (hx : x0 ∈ P) (nx : x0.1 ≠ a) (rx : x0.2 = ra) : Runs n D P (go a p ++ go b q) (mvd (mvd P a rb) b ra) := by
  have at' : ∀ {x : Str × Int} {c : Str} {rc : Int}, (c, rc) ∈ P → x ∈ P → x.1 = c → x.2 = rc := fun {x c rc} m hx e => congrArg Prod.snd (key_uniq nd hx m e)
  have nab : a ≠ b := fun e => ne (at' (e ▸ mb) ma rfl)
  have other : ∀ {t : Int}, t ∈ P.map (·.2) → t ≠ ra → ∃ x ∈ P, x.1 ≠ a ∧ x.2 = t := fun {t} h nt => by
    obtain ⟨x, h1, h2⟩ := List.mem_map.mp h
    exact ⟨x, h1, fun e => nt (h2.symm.trans (at' ma h1 e)), h2⟩
  have r1 := hp.runs hF nd ma fun t ht => other (up t ht) fun e => hp.off (e ▸ ht)
  refine r1.app (hq.runs hF (by rw [mvd_names]; exact nd) (mvd_other mb nab.symm) fun t ht => ?_)
  have tb : t ≠ rb := fun e => hq.off (e ▸ ht)
  by_cases e : t = ra
  · exact ⟨x0, mvd_other hx nx, fun q => ne (rx.symm.trans (at' mb hx q)), rx.trans e.symm⟩
  · obtain ⟨x, h1, n1, e1⟩ := other (uq t ht) e
    exact ⟨x, mvd_other h1 n1, fun q => tb (e1.symm.trans (at' mb h1 q)), e1⟩
/-- what the exchange may answer -/
def Xch (D : List (Int × Int)) (P : List (Str × Int)) (C : List Int) (a : Str) (ra : Int) (b : Str) (rb : Int) (X : List (Str × Int)) : Prop :=
  (ra = rb ∧ X = []) ∨ (ra ≠ rb ∧ ∃ p q, SP (adj D) ra rb p ∧ SP (adj D) rb ra q ∧ ((a ∈ shr P C ∧ X = go a p ++ go b q) ∨ (b ∈ shr P C ∧ X = go b q ++ go a p) ∨
    (a ∉ shr P C ∧ b ∉ shr P C ∧ ∃ k rk u v, (k, rk) ∈ P ∧ k ∈ shr P C ∧ SP (adj D) rk ra u ∧ SP (adj D) ra rk v ∧ X = go k u ++ go a p ++ go b q ++ go k v)))
theorem Xch.runs (hF : Forest n D) (pl : Pl n P) (ma : (a, ra) ∈ P) (mb : (b, rb) ∈ P) (hC : IsC D (occ n P) ra C) (wk : Wk D (P.map (·.2)) ra rb) {X : List (Str × Int)} (h : Xch D P C a ra b rb X) : Runs n D P X (mvd (mvd P a rb) b ra) := by
  have nd := pl.nodup
  have at' : ∀ {x : Str × Int} {c : Str} {rc : Int}, (c, rc) ∈ P → x ∈ P → x.1 = c → x.2 = rc := fun {x c rc} m hx e => congrArg Prod.snd (key_uniq nd hx m e)
  have wk' := wk.symm (List.mem_map_of_mem (f := (·.2)) ma)
  have inC : ∀ r, r ∈ C ↔ Wk D (P.map (·.2)) ra r := fun r => by rw [hC.mem, Wk.congr fun x => pl.mem_occ]
  rcases h with ⟨e, rfl⟩ | ⟨ne, p, q, hp, hq, h⟩
  · subst e
    rw [mvd_stay nd ma, mvd_stay nd mb]
    exact .nil P
  have up := wk.path hF hp
  have uq := wk'.path hF hq
  have nab : a ≠ b := fun e => ne (at' (e ▸ mb) ma rfl)
  rcases h with ⟨sa, rfl⟩ | ⟨sb, rfl⟩ | ⟨sa, sb, k, rk, u, v, mk, sk, hu, hv, rfl⟩
  · obtain ⟨r, h1, _, h3⟩ := mem_shr.mp sa
    obtain rfl : r = ra := at' ma h1 rfl
    obtain ⟨x0, hx, nx, rx⟩ := another nd a h3
    exact swap_runs hF nd ma mb ne hp hq up uq hx nx rx
  · obtain ⟨r, h1, _, h3⟩ := mem_shr.mp sb
    obtain rfl : r = rb := at' mb h1 rfl
    obtain ⟨x0, hx, nx, rx⟩ := another nd b h3
    rw [mvd_comm nab]
    exact swap_runs hF nd mb ma ne.symm hq hp uq up hx nx rx
  · obtain ⟨r, h1, kC, h3⟩ := mem_shr.mp sk
    obtain rfl : r = rk := at' mk h1 rfl
    have nra : r ≠ ra := fun e => sa (mem_shr.mpr ⟨ra, ma, hC.has, e ▸ h3⟩)
    have nrb : r ≠ rb := fun e => sb (mem_shr.mpr ⟨rb, mb, (inC rb).mpr wk, e ▸ h3⟩)
    have nka : k ≠ a := fun e => nra (at' ma mk e)
    have nkb : k ≠ b := fun e => nrb (at' mb mk e)
    obtain ⟨x0, hx, nx, rx⟩ := another nd k h3
    have wkr : Wk D (P.map (·.2)) ra r := (inC r).mp kC
    have uu := (wkr.symm (List.mem_map_of_mem (f := (·.2)) ma)).path hF hu
    have uv := wkr.path hF hv
    have other : ∀ {t : Int}, t ∈ P.map (·.2) → ∃ x ∈ P, x.1 ≠ k ∧ x.2 = t := fun {t} h => by
      obtain ⟨x, h1, h2⟩ := List.mem_map.mp h
      by_cases e : x.1 = k
      · exact ⟨x0, hx, nx, rx.trans ((at' mk h1 e).symm.trans h2)⟩
      · exact ⟨x, h1, e, h2⟩
    have r1 := hu.runs hF nd mk fun t ht => other (uu t ht)
    have nd1 : ((mvd P k ra).map (·.1)).Nodup := by rw [mvd_names]; exact nd
    have st : ∀ t ∈ P.map (·.2), t ∈ (mvd P k ra).map (·.2) := fun t h => by
      obtain ⟨x, h1, h2, h3⟩ := other h
      exact h3 ▸ List.mem_map_of_mem (f := (·.2)) (mvd_other h1 h2)
    have r2 := swap_runs hF nd1 (mvd_other ma nka.symm) (mvd_other mb nkb.symm) ne hp hq (fun t ht => st t (up t ht)) (fun t ht => st t (uq t ht)) (mvd_self mk) nka rfl
    have r3 := hv.runs (nm := k) (P := mvd (mvd (mvd P k ra) a rb) b ra) hF (by rw [mvd_names, mvd_names]; exact nd1) (mvd_other (mvd_other (mvd_self mk) nka) nkb) fun t ht => by
      have ta : t ≠ ra := fun e => hv.off (e ▸ ht)
      by_cases e : t = rb
      · exact ⟨(a, rb), mvd_other (mvd_self (mvd_other ma nka.symm)) nab, nka.symm, e.symm⟩
      · obtain ⟨x, h1, h2, h3⟩ := other (uv t ht)
        exact ⟨x, mvd_other (mvd_other (mvd_other h1 h2) fun q => ta (h3.symm.trans (at' ma h1 q))) fun q => e (h3.symm.trans (at' mb h1 q)), h2, h3⟩
    have eq : mvd (mvd (mvd (mvd P k ra) a rb) b ra) k r = mvd (mvd P a rb) b ra := by
      rw [mvd_comm nkb.symm, mvd_comm (P := mvd P k ra) nka.symm, mvd_twice, mvd_stay nd mk]
    rw [eq] at r3
    have := r1.app (r2.app r3)
    rw [List.append_assoc, List.append_assoc]
    rw [List.append_assoc] at this
    exact this
theorem flt_le {α : Type} {p q : α → Bool} (h : ∀ y, p y = true → q y = true) : ∀ l : List α, (l.filter p).length ≤ (l.filter q).length
  | [] => Nat.le_refl _
  | y :: l => by
    have := flt_le h l
    cases e : p y with
    | true => rw [List.filter_cons_of_pos e, List.filter_cons_of_pos (h y e)]; exact Nat.succ_le_succ this
    | false =>
      rw [List.filter_cons_of_neg (by rw [e]; decide)]
      cases e2 : q y with
      | true => rw [List.filter_cons_of_pos e2]; exact Nat.le_succ_of_le this
      | false => rw [List.filter_cons_of_neg (by rw [e2]; decide)]; exact this
theorem nodup_leS {xs ys : List Int} (nd : xs.Nodup) (h : ∀ x ∈ xs, x ∈ ys) : xs.length ≤ ys.length := by
  induction xs generalizing ys with
  | nil => exact Nat.zero_le _
  | cons x xs ih =>
    rw [List.nodup_cons] at nd
    have hx := h x List.mem_cons_self
    have := ih (ys := ys.erase x) nd.2 fun z hz => (List.mem_erase_of_ne (fun e : z = x => nd.1 (by rw [← e]; exact hz))).mpr (h z (List.mem_cons_of_mem _ hz))
    rw [List.length_erase_of_mem hx] at this
    have : 0 < ys.length := List.length_pos_of_mem hx
    simp only [List.length_cons]
    omega
theorem inside_ge (nd : C.Nodup) (h : ∀ r ∈ C, r ∈ P.map (·.2)) : C.length ≤ (inside P C).length := by
  unfold inside
  rw [List.length_map, ← List.length_map (as := P.filter _) (·.2)]
  refine nodup_leS nd fun r hr => ?_
  obtain ⟨x, h1, h2⟩ := List.mem_map.mp (h r hr)
  exact List.mem_map.mpr ⟨x, List.mem_filter.mpr ⟨h1, decide_eq_true (by rw [h2]; exact hr)⟩, h2⟩
/-- in a loose region somebody shares a room -/
theorem shr_some (h : C.length < (inside P C).length) : shr P C ≠ [] := fun no => by
  have none : ∀ x ∈ P.filter (fun x => decide (x.2 ∈ C)), (inside P [x.2]).length ≤ 1 := fun x hx => by
    obtain ⟨h1, h2⟩ := List.mem_filter.mp hx
    refine Nat.le_of_not_lt fun lt => ?_
    have : x.1 ∈ shr P C := mem_shr.mpr ⟨x.2, h1, of_decide_eq_true h2, lt⟩
    rw [no] at this
    cases this
  have nd : ((P.filter fun x => decide (x.2 ∈ C)).map (·.2)).Nodup := by
    rw [List.nodup_iff_count]
    intro r
    by_cases m : r ∈ (P.filter fun x => decide (x.2 ∈ C)).map (·.2)
    · obtain ⟨x, hx, e⟩ := List.mem_map.mp m
      have l := none x hx
      rw [e] at l
      refine Nat.le_trans ?_ l
      unfold inside
      rw [List.length_map, List.count_eq_length_filter, List.filter_map, List.length_map, List.filter_filter]
      refine flt_le (fun y hy => ?_) P
      rw [Bool.and_eq_true] at hy
      have := hy.1
      simpa using this
    · rw [List.count_eq_zero_of_not_mem m]
      exact Nat.zero_le _
  have := nodup_leS nd fun r hr => by
    obtain ⟨x, hx, e⟩ := List.mem_map.mp hr
    rw [← e]
    exact of_decide_eq_true (List.mem_filter.mp hx).2
  unfold inside at h
  rw [List.length_map] at h this
  exact absurd (Nat.lt_of_lt_of_le h this) (Nat.lt_irrefl _)
end
end Fw
set_option maxHeartbeats 4000000
namespace Fw
open PySem PySem.Spec PyProof.Rows L2
/-! walk, sharing_people, exchange -/
theorem inV_st (x : Str) (R : List Str) : inV (.str x) (R.map V.str) = decide (x ∈ R) := by
  unfold inV
  rw [Bool.eq_iff_iff, List.any_eq_true, decide_eq_true_eq]
  constructor
  · rintro ⟨y, hy, e⟩
    obtain ⟨z, hz, rfl⟩ := List.mem_map.mp hy
    have : z = x := by simpa [eqV] using e
    exact this ▸ hz
  · intro h
    exact ⟨.str x, List.mem_map_of_mem h, by simp [eqV]⟩
theorem flat_st (R : List Str) : (R.map V.str).all flatV = true := by
  rw [List.all_eq_true]
  intro x hx
  obtain ⟨z, _, rfl⟩ := List.mem_map.mp hx
  rfl
/-- plans put together -/
def rCatP : R2 := fun x y H Q => ∃ (a b : Addr) (X Y : List (Str × Int)), x = .ref a ∧ y = .ref b ∧ PlAt H a X ∧ PlAt H b Y ∧ X.length + Y.length ≤ 1000 ∧ ∀ H' p, Same H H' → PlAt H' p (X ++ Y) → Q (.ref p) H'
theorem op_catP {X : Cx} : OpR X (binaryOp .Add) rCatP := by
  intro pins s σ H x y v u Q I rx ry h
  obtain ⟨a, b, Y, Z, rfl, rfl, hY, hZ, hz, q⟩ := h
  obtain ⟨ps, p1, p2, p3⟩ := id hY
  obtain ⟨qs, q1, q2, q3⟩ := id hZ
  have l1 : Y.length = ps.length := by rw [p2, List.length_map]
  have l2 : Z.length = qs.length := by rw [q2, List.length_map]
  refine op_catA pins s σ H _ _ v u Q I rx ry ⟨a, b, _, _, rfl, rfl, p1.sq, q1.sq, by rw [List.length_map, List.length_map]; exact Nat.le_of_lt (small1000 (by omega)), fun e => q H b (Same.refl _) ?_, fun _ e => q H a (Same.refl _) ?_, fun _ _ p hp => q _ p (same_upd hp) ?_⟩
  · rw [List.map_eq_nil_iff] at e
    rw [p2, e]
    exact hZ
  · rw [List.map_eq_nil_iff] at e
    rw [q2, e, List.map_nil, List.append_nil]
    exact hY
  · refine ⟨ps ++ qs, .inl ?_, by rw [p2, q2, List.map_append], fun z hz => ?_⟩
    · rw [upd_same, List.map_append]
    · rcases List.mem_append.mp hz with m | m
      · exact same_upd hp _ _ (p3 z m)
      · exact same_upd hp _ _ (q3 z m)
theorem shr_sub (P : List (Str × Int)) (C : List Int) : (shr P C).length ≤ P.length := by
  unfold shr
  rw [List.length_map]
  exact Nat.le_trans (List.length_filter_le _ _) (List.length_filter_le _ _)
section
variable {P : Program} {w : World} {K : PySem.W.Frag} {mg : Str → Option Value} {base : Heap}
def spWalk : Sp := fun vs H Q _ => ∃ (h : Addr) (n : Int) (D : List (Int × Int)) (U : List Int) (nm : Str) (a b : Int), vs = [.ref h, .str nm, .int a, .int b] ∧ HouseAt H h n D ∧ Forest n D ∧ n ≤ 8 ∧ 0 ≤ a ∧ a < n ∧ 0 ≤ b ∧ b < n ∧ Wk D U a b ∧
  ∀ H' t p, Same H H' → SP (adj D) a b p → p.length ≤ 8 → PlD H' t (go nm p) → Q (.ref t) H'
abbrev nWalk : List Str := ["house", "name", "start", "end", "room"]
theorem scWalk : FnScope nWalk ["house", "name", "start", "end"] (defScope sWalk) := ⟨rfl, rfl, rfl, by decide +kernel, rfl, by decide +kernel, by decide +kernel⟩
abbrev pWalk : List Str := ["house", "name", "start", "end"]
theorem ok_walk {f : Addr} {fd : FuncData} {k : Nat} (F : Fun K "walk" "walk" sWalk f fd) (T : Nm mg) (Cpath_between : Cal P w K mg base (k + 3) "path_between" ["house", "a", "b"] spPath) : FnOk P w K mg base CX0 (k + 4) f fd pWalk spWalk := by
  refine F.ok scWalk (fun vs H Q E h => ?_) (fun cdv A outer s H vs Q E hr h => ?_)
  · obtain ⟨h, n, D, U, nm, a, b, rfl, _⟩ := h
    rfl
  · obtain ⟨h, n, D, U, nm, c, r, rfl, hH, hF, n1, a0, a1, b0, b1, wk, q⟩ := h
    refine ⟨_, (pss_one (ps_ret (pe_callTy (call_tupleF K rfl) (by rfl) T.tuple (by decide +kernel) (pa_cons (pe_lc (own := [("room", 4)]) (g := gName 4) (by rfl) scWalk.nd (pi_tupK K rfl (pe_slice sl_tupA (pe_cal Cpath_between hr (by rfl) (pa_cons (pv 0) (pa_cons (pv 2) (pa_cons (pv 3) pa_nil)))) (po_some pe_int) po_none))
 (blkOk_by (own := [("room", 4)]) (N := nWalk) (sc := defScope sWalk) (by decide +kernel))
 (fun _ _ _ _ _ => (pg_name (i := 4) scWalk.nd rfl (.inl rfl))) (fun _ _ _ _ _ => pts_nil) (fun _ _ _ _ _ => (pe_tup (pa_cons (pv 1) (pa_cons (pv 4) pa_nil))))) pa_nil)))), ?_⟩
    refine ⟨_, rfl, _, rfl, _, rfl, h, n, D, c, r, rfl, hH, hF, n1, a0, a1, b0, b1, fun H2 s2 no => ?_, fun H2 u w s2 sp lw e2 => ?_⟩
    · obtain ⟨y, hy, _⟩ := wk.within
      exact absurd hy (no y)
    · have lw0 : 0 < w.length := List.length_pos_of_mem sp.head
      refine ⟨_, rfl, u, _, rfl, SqT.of e2, fun hf => ?_, fun _ a ha => ?_⟩
      · have h1 : min 1 (vi w).length = 0 := hf.1
        rw [List.length_map] at h1
        omega
      have ec := cut_tail w lw0
      rw [show cutV (vi w) (some 1) none = vi w.tail from ec]
      have s3 := s2.trans (same_upd (o := .tup (vi w.tail)) ha)
      have ea : (upd H2 a (.tup (vi w.tail))) a = some (.tup (vi w.tail)) := upd_same
      generalize upd H2 a (.tup (vi w.tail)) = H3 at *
      have lt : w.tail.length ≤ 7 := by rw [List.length_tail]; omega
      refine ⟨a, rfl, ⟨_, SqT.of ea⟩, fun L hL => lc_tup (K := K) (a := a) (xs := vi w.tail) (fun k H' => Same H3 H' ∧ LsAt H' L ((w.tail.take k).map fun t => (nm, t))) ⟨same_upd hL, .nil upd_same⟩ (fun k H' _ hh => SqT.of (hh.1 _ _ ea)) ?_ ?_⟩
      · rintro k x H' hx ⟨s', e'⟩
        obtain ⟨y, hy, rfl⟩ := get_vi hx
        refine ⟨rfl, ?_⟩
        unfold tYes
        refine iteT ⟨_, rfl, _, rfl, by show 2 ≤ sizeLine; decide, fun b hb => ?_⟩
        have sm := same_upd (o := .tup [V.str nm, V.int y]) hb
        obtain ⟨acc, e4, l4, e5⟩ := (e'.same sm).snoc (t := b) upd_same
        refine ⟨acc, e4, ?_, same_put (s'.trans sm) hL, ?_⟩
        · rw [l4, List.length_map, List.length_take]
          exact small1000 (by omega)
        · rw [take_snoc hy, List.map_append]
          exact e5
      · rintro H4 ⟨s4, e4⟩
        rw [List.length_map, List.take_length] at e4
        obtain ⟨xs, e5, e6⟩ := e4.tup
        refine ⟨L, _, rfl, SqL.of e5, fun t ob ht od => ?_⟩
        exact q _ t w (s3.trans (s4.trans (same_upd ht))) sp lw (e6 t ob ht od)
def spShare (K : PySem.W.Frag) : Sp := fun vs H Q _ => ∃ (p t : Addr) (P : List (Str × Int)) (C : List Int), vs = [.ref p, .ref t] ∧ PlAt H p P ∧ (P.map (·.1)).Nodup ∧ SqT K H t (vi C) ∧ P.length ≤ 100 ∧
  ∀ H' u, Same H H' → H' u = some (.tup ((shr P C).map V.str)) → Q (.ref u) H'
abbrev nSharing : List Str := ["placement", "rooms", "names", "name"]
theorem scSharing : FnScope nSharing ["placement", "rooms"] (defScope sSharing) := ⟨rfl, rfl, rfl, by decide +kernel, rfl, by decide +kernel, by decide +kernel⟩
abbrev pSharing : List Str := ["placement", "rooms"]
theorem ok_share {f : Addr} {fd : FuncData} {k : Nat} (F : Fun K "sharing_people" "sharing_people" sSharing f fd) (T : Nm mg) (Cpeople_within : Cal P w K mg base (k + 2) "people_within" pPWi (spPWi K)) (Cpeople_in : Cal P w K mg base (k + 2) "people_in" pPIn spPIn) (Croom_of : Cal P w K mg base (k + 2) "room_of" pRoomOf spRoomOf) : FnOk P w K mg base CX0 (k + 3) f fd pSharing (spShare K) := by
  refine F.ok scSharing (fun vs H Q E h => ?_) (fun cdv A outer s H vs Q E hr h => ?_)
  · obtain ⟨p, t, P, C, rfl, _⟩ := h
    rfl
  · obtain ⟨p, t, P, C, rfl, hP, nd, hC, lP, q⟩ := h
    refine ⟨_, (pss_cons (ps_set (i := 2) scSharing.nd rfl (.inl rfl) (pe_cal Cpeople_within hr (by rfl) (pa_cons (pv 0) (pa_cons (pv 1) pa_nil))))
      (pss_one (ps_ret (pe_callTy (call_tupleK K rfl) (by rfl) T.tuple (by decide +kernel) (pa_cons (pe_lc (own := [("name", 3)]) (g := gName 3) (by rfl) scSharing.nd (pi_tupK K rfl (pv 2))
 (blkOk_by (own := [("name", 3)]) (N := nSharing) (sc := defScope sSharing) (by decide +kernel))
 (fun _ _ _ _ _ => (pg_name (i := 3) scSharing.nd rfl (.inl rfl))) (fun _ _ _ _ _ => pts_one (pt_cmpR op_gt (pe_callB (call_lenK K rfl) (by rfl) T.len (by decide +kernel) (pa_cons (pe_cal Cpeople_in hr (by rfl) (pa_cons (pv 0) (pa_cons (pe_cal Croom_of hr (by rfl) (pa_cons (pv 0) (pa_cons (pv 3) pa_nil))) pa_nil))) pa_nil)) pe_int (nomark _))) (fun _ _ _ _ _ => (pv 3))) pa_nil))))), ?_⟩
    refine ⟨_, rfl, _, rfl, p, t, P, C, rfl, hP, hC, lP, fun H1 u s1 e1 => ?_⟩
    have hP1 := hP.same s1
    have ei : inside P C = (P.filter fun x => decide (x.2 ∈ C)).map (·.1) := rfl
    have lf : (P.filter fun x => decide (x.2 ∈ C)).length ≤ P.length := List.length_filter_le _ _
    have mf : ∀ x ∈ P.filter (fun x => decide (x.2 ∈ C)), x ∈ P := fun x hx => (List.mem_filter.mp hx).1
    have es : shr P C = ((P.filter fun x => decide (x.2 ∈ C)).filter fun x => decide (1 < (inside P [x.2]).length)).map (·.1) := rfl
    rw [ei] at e1
    generalize P.filter (fun x => decide (x.2 ∈ C)) = F' at *
    refine ⟨_, rfl, u, rfl, ⟨_, SqT.of e1⟩, fun L hL => lc_tup (K := K) (a := u) (xs := (F'.map (·.1)).map V.str) (fun k H' => Same H1 H' ∧ H' L = some (.lst ((((F'.take k).filter fun x => decide (1 < (inside P [x.2]).length)).map (·.1)).map V.str))) ⟨same_upd hL, upd_same⟩ (fun k H' _ hh => SqT.of (hh.1 _ _ e1)) ?_ ?_⟩
    · rintro k x H' hx ⟨s', e'⟩
      rw [List.getElem?_map, List.getElem?_map] at hx
      cases hf : F'[k]? with
      | none => rw [hf] at hx; cases hx
      | some y =>
        rw [hf] at hx
        obtain rfl : V.str y.1 = x := Option.some.inj hx
        have my := mf y (List.mem_of_getElem? hf)
        refine ⟨rfl, ?_⟩
        refine ⟨_, rfl, _, rfl, _, rfl, p, P, y.1, y.2, rfl, hP1.same s', my, nd, ?_⟩
        refine ⟨p, P, y.2, rfl, hP1.same s', lP, fun H2 v s2 e2 => ⟨v, _, rfl, .inr (SqT.of e2), ?_⟩⟩
        have e3 := s2 _ _ e'
        rw [List.length_map]
        have tk : (F'.take (k + 1)).filter (fun x => decide (1 < (inside P [x.2]).length)) = (F'.take k).filter (fun x => decide (1 < (inside P [x.2]).length)) ++ (if 1 < (inside P [y.2]).length then [y] else []) := by
          rw [take_snoc hf, List.filter_append]
          congr 1
          by_cases c : 1 < (inside P [y.2]).length
          · rw [if_pos c]; simp [c]
          · rw [if_neg c]; simp [c]
        refine ⟨_, _, rfl, rfl, _, rfl, ?_⟩
        refine ite2 (fun c => ?_) (fun c => ?_)
        · have c : 1 < (inside P [y.2]).length := by
            have := of_decide_eq_true c
            omega
          refine ⟨_, rfl, _, e3, ?_, same_put (s'.trans s2) hL, ?_⟩
          · rw [List.length_map, List.length_map]
            have := List.length_filter_le (fun x : Str × Int => decide (1 < (inside P [x.2]).length)) (F'.take k)
            rw [List.length_take] at this
            exact small1000 (by omega)
          · rw [upd_same, tk, if_pos c, List.map_append, vs_app]
            rfl
        · have c : ¬ 1 < (inside P [y.2]).length := fun z => c (decide_eq_true (by omega))
          rw [tk, if_neg c, List.append_nil]
          exact ⟨s'.trans s2, e3⟩
    · rintro H2 ⟨s2, e2⟩
      rw [List.length_map, List.length_map, List.take_length, ← es] at e2
      exact ⟨L, _, rfl, .inl ⟨SqL.of e2, fun v hv => q _ v (s1.trans (s2.trans (same_upd hv))) upd_same⟩⟩
def spExch (K : PySem.W.Frag) : Sp := fun vs H Q _ => ∃ (h p t : Addr) (n : Int) (D : List (Int × Int)) (P : List (Str × Int)) (C : List Int) (a b : Str) (ra rb : Int), vs = [.ref h, .ref p, .ref t, .str a, .str b] ∧ HouseAt H h n D ∧ Forest n D ∧ n ≤ 8 ∧ PlAt H p P ∧ Pl n P ∧ P.length ≤ 100 ∧ SqT K H t (vi C) ∧ (a, ra) ∈ P ∧ (b, rb) ∈ P ∧ IsC D (occ n P) ra C ∧ Wk D (P.map (·.2)) ra rb ∧ (ra = rb ∨ C.length < (inside P C).length) ∧
  ∀ H' u X, Same H H' → Xch D P C a ra b rb X → X.length ≤ 40 → PlAt H' u X → Q (.ref u) H'
abbrev nExch : List Str := ["house", "placement", "region", "a", "b", "room", "other", "there", "back", "sharing", "keeper", "home"]
theorem scExch : FnScope nExch ["house", "placement", "region", "a", "b"] (defScope sExch) := ⟨rfl, rfl, rfl, by decide +kernel, rfl, by decide +kernel, by decide +kernel⟩
abbrev pExch : List Str := ["house", "placement", "region", "a", "b"]
theorem ok_exch {f : Addr} {fd : FuncData} {k : Nat} (F : Fun K "exchange" "exchange" sExch f fd) (T : Nm mg) (Croom_of : Cal P w K mg base (k + 4) "room_of" pRoomOf spRoomOf) (Cwalk : Cal P w K mg base (k + 4) "walk" pWalk spWalk) (Csharing_people : Cal P w K mg base (k + 4) "sharing_people" pSharing (spShare K)) : FnOk P w K mg base CX0 (k + 5) f fd pExch (spExch K) := by
  refine F.ok scExch (fun vs H Q E h => ?_) (fun cdv A outer s H vs Q E hr h => ?_)
  · obtain ⟨h, p, t, n, D, P, C, a, b, ra, rb, rfl, _⟩ := h
    rfl
  · obtain ⟨h, p, t, n, D, P, C, a, b, ra, rb, rfl, hH, hF, n1, hP, pl, lP, hC, ma, mb, ic, wk, lo, q⟩ := h
    refine ⟨_, (pss_cons (ps_par (i := 5) (j := 6) (by rfl) scExch.nd rfl rfl (by decide) rfl rfl (pa_cons (pe_cal Croom_of hr (by rfl) (pa_cons (pv 1) (pa_cons (pv 3) pa_nil))) (pa_cons (pe_cal Croom_of hr (by rfl) (pa_cons (pv 1) (pa_cons (pv 4) pa_nil))) pa_nil)) (by rfl))
      (pss_cons (ps_if (pt_cmpR op_eq (pv 5) (pv 6) (nomark _))
      (pss_one (ps_ret (pe_tup pa_nil)))
      pss_nil)
      (pss_cons (ps_par (i := 7) (j := 8) (by rfl) scExch.nd rfl rfl (by decide) rfl rfl (pa_cons (pe_cal Cwalk hr (by rfl) (pa_cons (pv 0) (pa_cons (pv 3) (pa_cons (pv 5) (pa_cons (pv 6) pa_nil))))) (pa_cons (pe_cal Cwalk hr (by rfl) (pa_cons (pv 0) (pa_cons (pv 4) (pa_cons (pv 6) (pa_cons (pv 5) pa_nil))))) pa_nil)) (by rfl))
      (pss_cons (ps_set (i := 9) scExch.nd rfl (.inl rfl) (pe_cal Csharing_people hr (by rfl) (pa_cons (pv 1) (pa_cons (pv 2) pa_nil))))
      (pss_cons (ps_if (pt_cmpR (op_inK K rfl) (pv 3) (pv 9) (by rfl))
      (pss_one (ps_ret (pe_op op_catP (pv 7) (pv 8))))
      pss_nil)
      (pss_cons (ps_if (pt_cmpR (op_inK K rfl) (pv 4) (pv 9) (by rfl))
      (pss_one (ps_ret (pe_op op_catP (pv 8) (pv 7))))
      pss_nil)
      (pss_cons (ps_set (i := 10) scExch.nd rfl (.inl rfl) (pe_ix (ix_tupK K rfl) (pv 9) pe_int (fun _ _ => rfl)))
      (pss_cons (ps_set (i := 11) scExch.nd rfl (.inl rfl) (pe_cal Croom_of hr (by rfl) (pa_cons (pv 1) (pa_cons (pv 10) pa_nil))))
      (pss_one (ps_ret (pe_op op_catP (pe_op op_catP (pe_op op_catP (pe_cal Cwalk hr (by rfl) (pa_cons (pv 0) (pa_cons (pv 10) (pa_cons (pv 11) (pa_cons (pv 5) pa_nil))))) (pv 7)) (pv 8)) (pe_cal Cwalk hr (by rfl) (pa_cons (pv 0) (pa_cons (pv 10) (pa_cons (pv 5) (pa_cons (pv 11) pa_nil)))))))))))))))), ?_⟩
    refine ⟨_, rfl, _, rfl, p, P, a, ra, rfl, hP, ma, pl.nodup, _, rfl, _, rfl, p, P, b, rb, rfl, hP, mb, pl.nodup, _, _, rfl, ?_⟩
    have wk' := wk.symm (List.mem_map_of_mem (f := (·.2)) ma)
    have inC : ∀ r, r ∈ C ↔ Wk D (P.map (·.2)) ra r := fun r => by rw [ic.mem, Wk.congr fun x => pl.mem_occ]
    have ka := pl.rm _ ma
    have kb := pl.rm _ mb
    have ka : 0 ≤ ra ∧ ra < n := ka
    have kb : 0 ≤ rb ∧ rb < n := kb
    refine ⟨_, rfl, _, rfl, rfl, _, rfl, ?_⟩
    rw [int_dec]
    refine ite2 (fun z => ?_) (fun z => ?_)
    · have e : ra = rb := of_decide_eq_true z
      exact ⟨by show 0 ≤ sizeLine; exact Nat.zero_le _, fun e0 he => q _ e0 [] (same_upd he) (.inl ⟨e, rfl⟩) (Nat.zero_le _) ⟨[], .inl upd_same, rfl, fun z hz => nomatch hz⟩⟩
    have ne : ra ≠ rb := fun e => z (decide_eq_true e)
    have lo : C.length < (inside P C).length := lo.resolve_left ne
    clear z
    refine ⟨_, rfl, _, rfl, _, rfl, _, rfl, h, n, D, _, a, ra, rb, rfl, hH, hF, n1, ka.1, ka.2, kb.1, kb.2, wk, fun H1 t1 p1 s1 sp1 l1 hX1 => ?_⟩
    refine ⟨_, rfl, _, rfl, _, rfl, _, rfl, h, n, D, _, b, rb, ra, rfl, hH.same s1, hF, n1, kb.1, kb.2, ka.1, ka.2, wk', fun H2 t2 p2 s2 sp2 l2 hX2 => ⟨_, _, rfl, ?_⟩⟩
    have s12 := s1.trans s2
    have hX1 := hX1.pl.same s2
    have hX2 := hX2.pl
    have lg1 : (go a p1).length ≤ 8 := by unfold go; rw [List.length_map, List.length_tail]; omega
    have lg2 : (go b p2).length ≤ 8 := by unfold go; rw [List.length_map, List.length_tail]; omega
    refine ⟨_, rfl, _, rfl, p, t, P, C, rfl, hP.same s12, pl.nodup, sqT_same s12 hC, lP, fun H3 v s3 e3 => ?_⟩
    have s13 := s12.trans s3
    have hX1 := hX1.same s3
    have hX2 := hX2.same s3
    clear s12 s1 s2 s3
    refine ⟨_, rfl, _, rfl, v, _, rfl, .inr (SqT.of e3), rfl, flat_st _, _, rfl, ?_⟩
    rw [if_neg (by decide), inV_st]
    refine ite2 (fun z => ?_) (fun z => ?_)
    · refine ⟨_, rfl, _, rfl, t1, t2, _, _, rfl, rfl, hX1, hX2, by omega, fun H4 u s4 hu => q H4 u _ (s13.trans s4) (.inr ⟨ne, p1, p2, sp1, sp2, .inl ⟨of_decide_eq_true z, rfl⟩⟩) (by rw [List.length_append]; omega) hu⟩
    have na : a ∉ shr P C := fun m => z (decide_eq_true m)
    refine ⟨_, rfl, _, rfl, v, _, rfl, .inr (SqT.of e3), rfl, flat_st _, _, rfl, ?_⟩
    rw [if_neg (by decide), inV_st]
    clear z
    refine ite2 (fun z => ?_) (fun z => ?_)
    · refine ⟨_, rfl, _, rfl, t2, t1, _, _, rfl, rfl, hX2, hX1, by omega, fun H4 u s4 hu => q H4 u _ (s13.trans s4) (.inr ⟨ne, p1, p2, sp1, sp2, .inr (.inl ⟨of_decide_eq_true z, rfl⟩)⟩) (by rw [List.length_append]; omega) hu⟩
    have nb' : b ∉ shr P C := fun m => z (decide_eq_true m)
    -- the keeper
    obtain ⟨kp, r', es⟩ : ∃ kp r', shr P C = kp :: r' := by
      cases es : shr P C with
      | nil => exact absurd es (shr_some lo)
      | cons x r => exact ⟨x, r, rfl⟩
    have mk : kp ∈ shr P C := by rw [es]; exact List.mem_cons_self
    obtain ⟨rk, mP, kC, _⟩ := mem_shr.mp mk
    have kk : 0 ≤ rk ∧ rk < n := pl.rm _ mP
    have wkr := (inC rk).mp kC
    have wrk := wkr.symm (List.mem_map_of_mem (f := (·.2)) ma)
    rw [es] at e3
    refine ⟨_, rfl, v, _, _, _, rfl, rfl, SqT.of e3, atI0, ?_⟩
    refine ⟨_, rfl, _, rfl, p, P, kp, rk, rfl, hP.same s13, mP, pl.nodup, ?_⟩
    refine ⟨_, rfl, _, rfl, _, rfl, _, rfl, h, n, D, _, kp, rk, ra, rfl, hH.same s13, hF, n1, kk.1, kk.2, ka.1, ka.2, wrk, fun H4 t3 p3 s4 sp3 l3 hX3 => ?_⟩
    have lg3 : (go kp p3).length ≤ 8 := by unfold go; rw [List.length_map, List.length_tail]; omega
    refine ⟨_, rfl, t3, t1, _, _, rfl, rfl, hX3.pl, hX1.same s4, by omega, fun H5 t4 s5 hX4 => ?_⟩
    refine ⟨_, rfl, t4, t2, _, _, rfl, rfl, hX4, hX2.same (s4.trans s5), by rw [List.length_append]; omega, fun H6 t5 s6 hX5 => ?_⟩
    have s16 := s13.trans (s4.trans (s5.trans s6))
    refine ⟨_, rfl, _, rfl, _, rfl, _, rfl, h, n, D, _, kp, ra, rk, rfl, hH.same s16, hF, n1, ka.1, ka.2, kk.1, kk.2, wkr, fun H7 t6 p6 s7 sp6 l6 hX6 => ?_⟩
    have lg6 : (go kp p6).length ≤ 8 := by unfold go; rw [List.length_map, List.length_tail]; omega
    refine ⟨t5, t6, _, _, rfl, rfl, hX5.same s7, hX6.pl, by rw [List.length_append, List.length_append]; omega, fun H8 u s8 hu => q H8 u _ (s16.trans (s7.trans s8)) (.inr ⟨ne, p1, p2, sp1, sp2, .inr (.inr ⟨na, nb', kp, rk, p3, p6, mP, mk, sp3, sp6, rfl⟩)⟩) (by rw [List.length_append, List.length_append, List.length_append]; omega) hu⟩
end
end Fw
namespace Fw
open PySem PySem.Spec PyProof.Rows L2
open RZ
/-- the same value, to a depth -/
inductive Eqs (H : Hp) : Nat → V → V → Prop
  | non (k : Nat) : Eqs H k .non .non
  | int (k : Nat) (i : Int) : Eqs H k (.int i) (.int i)
  | bl (k : Nat) (b : Bool) : Eqs H k (.bl b) (.bl b)
  | str (k : Nat) (z : Str) : Eqs H k (.str z) (.str z)
  | tup {k : Nat} {a b : Addr} {xs ys : List V} : TpAt H a xs → TpAt H b ys → xs.length = ys.length → xs.length ≤ 500 → (∀ (i : Nat) x y, xs[i]? = some x → ys[i]? = some y → Eqs H k x y) → Eqs H (k + 1) (.ref a) (.ref b)
theorem Eqs.same {H H' : Hp} {k : Nat} {x y : V} (h : Eqs H k x y) (e : Same H H') : Eqs H' k x y := by
  induction h with
  | non k => exact .non k
  | int k i => exact .int k i
  | bl k i => exact .bl k i
  | str k i => exact .str k i
  | tup h1 h2 h3 h4 _ ih => exact .tup (h1.same e) (h2.same e) h3 h4 ih
theorem Eqs.ints {H : Hp} {k : Nat} {a b : Addr} {ns : List Int} (h1 : H a = some (.tup (vi ns))) (h2 : H b = some (.tup (vi ns))) (hl : ns.length ≤ 500) : Eqs H (k + 1) (.ref a) (.ref b) :=
  .tup (.inl h1) (.inl h2) rfl (by rw [List.length_map]; exact hl) fun i x y hx hy => by
    obtain ⟨v, _, rfl⟩ := get_vi hx
    rw [hx] at hy
    cases hy
    exact .int _ v
theorem Eqs.strs {H : Hp} {k : Nat} {a b : Addr} {ns : List Str} (h1 : H a = some (.tup (ns.map V.str))) (h2 : H b = some (.tup (ns.map V.str))) (hl : ns.length ≤ 500) : Eqs H (k + 1) (.ref a) (.ref b) :=
  .tup (.inl h1) (.inl h2) rfl (by rw [List.length_map]; exact hl) fun i x y hx hy => by
    obtain ⟨v, _, rfl⟩ := get_vs hx
    rw [hx] at hy
    cases hy
    exact .str _ v
theorem Eqs.pl {H : Hp} {k : Nat} {a b : Addr} {P : List (Str × Int)} (h1 : PlAt H a P) (h2 : PlAt H b P) (hl : P.length ≤ 500) : Eqs H (k + 2) (.ref a) (.ref b) := by
  obtain ⟨ps, e1, e2, e3⟩ := h1
  obtain ⟨qs, f1, f2, f3⟩ := h2
  have el : ps.length = qs.length := by
    have := congrArg List.length (e2.symm.trans f2)
    rw [List.length_map, List.length_map] at this
    exact this
  refine .tup e1 f1 (by rw [List.length_map, List.length_map, el]) (by rw [List.length_map]; rw [e2, List.length_map] at hl; exact hl) fun i x y hx hy => ?_
  rw [List.getElem?_map] at hx hy
  cases u : ps[i]? with
  | none => rw [u] at hx; cases hx
  | some p =>
    cases v : qs[i]? with
    | none => rw [v] at hy; cases hy
    | some q =>
      rw [u] at hx
      rw [v] at hy
      cases hx
      cases hy
      have e : p.2 = q.2 := by
        have h1 : P[i]? = some p.2 := by rw [e2, List.getElem?_map, u]; rfl
        have h2 : P[i]? = some q.2 := by rw [f2, List.getElem?_map, v]; rfl
        rw [h1] at h2
        exact Option.some.inj h2
      have g1 := e3 p (List.mem_of_getElem? u)
      have g2 := f3 q (List.mem_of_getElem? v)
      rw [← e] at g2
      refine .tup (.inl g1) (.inl g2) rfl (by show 2 ≤ 500; decide) fun j x y hx hy => ?_
      rw [hx] at hy
      cases hy
      match j, hx with
      | 0, hx => cases hx; exact .str _ _
      | 1, hx => cases hx; exact .int _ _
/-- how a zip of two tuples of one length walks -/
theorem both_walk {K : PySem.W.Frag} {a b : Addr} {xs ys : List V} (same : ys.length = xs.length) : Walk (ItzT K a b) xs.length (fun H => SqT K H a xs ∧ SqT K H b ys) (YPair (fun i => xs[i]?) fun i => ys[i]?) where
  goes i H lt q := ⟨_, _, _, _, q.1, q.2, List.getElem?_eq_getElem lt, List.getElem?_eq_getElem (same ▸ lt)⟩
  stops H q := ⟨_, _, q.1, q.2, .inl (Nat.le_refl _)⟩
  yields i H v H' _ q y := by
    obtain ⟨t, x, z, e1, e2, e3, e4, e5⟩ := y
    exact ⟨t, x, z, e1, e2, e3, e4 _ q.1, e5 _ q.2⟩

section
variable {P : Program} {w : World} {K : PySem.W.Frag} {mg : Str → Option Value} {base : Heap}
theorem tp_tyS {K : PySem.W.Frag} {H : Hp} {p : Addr} {xs : List V} (h : TpAt H p xs) : TyX K H (.ref p) (.type "tuple") := h.elim (fun h => .base (.tup h)) fun ⟨_, _, h⟩ => .fTuple h
theorem k_it : kitB "int" "tuple" = some false := by decide +kernel
theorem k_ib : kitB "int" "bool" = some false := by decide +kernel
theorem k_ii : kitB "int" "int" = some true := by decide +kernel
theorem k_nt : kitB "NoneType" "tuple" = some false := by decide +kernel
theorem k_tt : kitB "tuple" "tuple" = some true := by decide +kernel
theorem k_bt : kitB "bool" "tuple" = some false := by decide +kernel
theorem k_bb : kitB "bool" "bool" = some true := by decide +kernel
theorem k_st : kitB "str" "tuple" = some false := by decide +kernel
theorem k_sb : kitB "str" "bool" = some false := by decide +kernel
theorem k_si : kitB "str" "int" = some false := by decide +kernel
theorem k_ss2 : kitB "str" "str" = some true := by decide +kernel
end
end Fw
namespace Fw
open PySem PySem.Spec PyProof.Rows L2
/-- data that can be shown -/
structure Sw (b : Nat) (d : PyData) : Prop where
  s : d.showable = true
  n : d.hasDict = false
  p : d.depth ≤ 10
  l : d.leavesShort 13 = true
  k : d.bulk ≤ b
theorem Sw.shows {b : Nat} {d : PyData} (h : Sw b d) (hb : b ≤ 2 ^ 20) : Shows d := ⟨h.s, h.n, Nat.le_trans h.p (by decide), PyData.shown_fits_bulk (B := 13) (by decide) (by decide) h.l (Nat.le_trans h.k hb)⟩
def pp (x : Str × Int) : PyData := .tuple [.str x.1, .int x.2]
def pld (P : List (Str × Int)) : PyData := .tuple (P.map pp)
theorem pps_all {P : List (Str × Int)} (h : ∀ x ∈ P, Nam x.1 ∧ 0 ≤ x.2 ∧ x.2 ≤ 100) : PyData.showableAll (P.map pp) = true ∧ PyData.hasDictAll (P.map pp) = false ∧ PyData.depthAll (P.map pp) ≤ 1 ∧ PyData.leavesShortAll 13 (P.map pp) = true ∧ PyData.bulkAll (P.map pp) ≤ 20 * P.length := by
  induction P with
  | nil => simp [PyData.showableAll, PyData.hasDictAll, PyData.depthAll, PyData.leavesShortAll, PyData.bulkAll]
  | cons x P ih =>
    obtain ⟨i1, i2, i3, i4, i5⟩ := ih fun y hy => h y (List.mem_cons_of_mem _ hy)
    obtain ⟨hn, a0, a1⟩ := h x (List.mem_cons_self ..)
    have s1 := PyData.shown_int_le2 (i := x.2) (by omega) (by omega)
    have sz : x.1.cps.size ≤ 8 := hn.2.1
    have al : (x.1.cps.toList.all fun c => decide (c < 16 ^ 8)) = true := by
      rw [List.all_eq_true]
      intro c hc
      have := hn.2.2 c hc
      exact decide_eq_true (by omega)
    rw [List.map_cons]
    refine ⟨?_, ?_, ?_, ?_, ?_⟩
    · simp only [pp, PyData.showableAll, PyData.showable, i1, Bool.and_true]
      rw [decide_eq_true (log_small a0 a1)]
      rfl
    · simp only [pp, PyData.hasDictAll, PyData.hasDict, i2, Bool.or_false]
    · simp only [pp, PyData.depthAll, PyData.depth]
      omega
    · simp only [pp, PyData.leavesShortAll, PyData.leavesShort, i4, Bool.and_true]
      rw [decide_eq_true s1, al]
      rfl
    · simp only [pp, PyData.bulkAll, PyData.bulk, List.length_cons]
      omega
theorem pld_sw {P : List (Str × Int)} (h : ∀ x ∈ P, Nam x.1 ∧ 0 ≤ x.2 ∧ x.2 ≤ 100) : Sw (20 * P.length) (pld P) := by
  obtain ⟨i1, i2, i3, i4, i5⟩ := pps_all h
  exact ⟨by simp only [pld, PyData.showable, i1], by simp only [pld, PyData.hasDict, i2], by simp only [pld, PyData.depth]; omega, by simp only [pld, PyData.leavesShort, i4], by simp only [pld, PyData.bulk]; exact i5⟩
theorem Pl.sw {n : Int} {P : List (Str × Int)} (h : Pl n P) (hn : n ≤ 8) (lP : P.length ≤ 100) : Sw 2000 (pld P) := by
  have := pld_sw (P := P) fun x hx => ⟨h.nm.nam _ (List.mem_map_of_mem (f := (·.1)) hx), (h.rm x hx).1, by have := (h.rm x hx).2; omega⟩
  exact ⟨this.s, this.n, this.p, this.l, Nat.le_trans this.k (by omega)⟩
theorem hd_sw {n : Int} {D : List (Int × Int)} (f : Forest n D) (n0 : 0 ≤ n) (n1 : n ≤ 8) : Sw 100 (hd n D) := by
  have h : ∀ d ∈ D, 0 ≤ d.1 ∧ d.1 ≤ 100 ∧ 0 ≤ d.2 ∧ d.2 ≤ 100 := fun d hd => by
    have := f.ends (a := d.1) (b := d.2) hd
    omega
  have hl : D.length ≤ 8 := f.len
  obtain ⟨i1, i2⟩ := pds_show h
  have s1 := PyData.shown_int_le2 (i := n) (by omega) (by omega)
  have dp := pd_deep D
  refine ⟨?_, ?_, ?_, ?_, ?_⟩
  · simp only [hd, PyData.showable, PyData.showableAll, Bool.and_true, i1]
    rw [decide_eq_true (log_small n0 (by omega))]
  · simp only [hd, PyData.hasDict, PyData.hasDictAll, Bool.or_false, Bool.false_or]
    exact pds_nodict D
  · simp only [hd, PyData.depth, PyData.depthAll]
    omega
  · simp only [hd, PyData.leavesShort, PyData.leavesShortAll, Bool.and_true, i2]
    rw [decide_eq_true s1]
  · simp only [hd, PyData.bulk, PyData.bulkAll, pds_bulk]
    omega
theorem sw2 {b c : Nat} {d e : PyData} (x : Sw b d) (y : Sw c e) (h1 : d.depth ≤ 8) (h2 : e.depth ≤ 8) : Sw (b + c + 2) (.list [d, e]) := by
  refine ⟨?_, ?_, ?_, ?_, ?_⟩
  · simp only [PyData.showable, PyData.showableAll, x.s, y.s, Bool.and_true]
  · simp only [PyData.hasDict, PyData.hasDictAll, x.n, y.n, Bool.or_false]
  · simp only [PyData.depth, PyData.depthAll]
    omega
  · simp only [PyData.leavesShort, PyData.leavesShortAll, x.l, y.l, Bool.and_true]
  · simp only [PyData.bulk, PyData.bulkAll]
    have := x.k
    have := y.k
    omega
theorem sw3 {a b c : Nat} {d e f : PyData} (x : Sw a d) (y : Sw b e) (z : Sw c f) (h1 : d.depth ≤ 8) (h2 : e.depth ≤ 8) (h3 : f.depth ≤ 8) : Sw (a + b + c + 3) (.list [d, e, f]) := by
  refine ⟨?_, ?_, ?_, ?_, ?_⟩
  · simp only [PyData.showable, PyData.showableAll, x.s, y.s, z.s, Bool.and_true]
  · simp only [PyData.hasDict, PyData.hasDictAll, x.n, y.n, z.n, Bool.or_false]
  · simp only [PyData.depth, PyData.depthAll]
    omega
  · simp only [PyData.leavesShort, PyData.leavesShortAll, x.l, y.l, z.l, Bool.and_true]
  · simp only [PyData.bulk, PyData.bulkAll]
    have := x.k
    have := y.k
    have := z.k
    omega
theorem hd_deep (n : Int) (D : List (Int × Int)) : (hd n D).depth ≤ 8 := by
  have dp := pd_deep D
  simp only [hd, PyData.depth, PyData.depthAll]
  omega
theorem pps_deep (P : List (Str × Int)) : PyData.depthAll (P.map pp) ≤ 1 := by
  induction P with
  | nil => simp [PyData.depthAll]
  | cons x P ih =>
    rw [List.map_cons]
    simp only [pp, PyData.depthAll, PyData.depth]
    omega
theorem pld_deep (P : List (Str × Int)) : (pld P).depth ≤ 8 := by
  have := pps_deep P
  simp only [pld, PyData.depth]
  omega
theorem dp_pps {K : PySem.W.Frag} {H : Hp} : ∀ {ps : List (Addr × Str × Int)}, (∀ p ∈ ps, H p.1 = some (.tup [.str p.2.1, .int p.2.2])) → DpAll K H (ps.map fun p => V.ref p.1) ((ps.map (·.2)).map pp)
  | [], _ => .nil
  | p :: ps, h => .cons (.tup (SqT.of (h p (List.mem_cons_self ..))) (.cons (.str _) (.cons (.int _) .nil))) (dp_pps fun q hq => h q (List.mem_cons_of_mem _ hq))
theorem PlAt.dp {K : PySem.W.Frag} {H : Hp} {p : Addr} {P : List (Str × Int)} (x : PlAt H p P) : Dp K H (.ref p) (pld P) := by
  obtain ⟨ps, h1, h2, h3⟩ := x
  rw [h2]
  exact .tup h1.sq (dp_pps h3)
theorem sw2T {b c : Nat} {d e : PyData} (x : Sw b d) (y : Sw c e) (h1 : d.depth ≤ 8) (h2 : e.depth ≤ 8) : Sw (b + c + 2) (.tuple [d, e]) := by
  refine ⟨?_, ?_, ?_, ?_, ?_⟩
  · simp only [PyData.showable, PyData.showableAll, x.s, y.s, Bool.and_true]
  · simp only [PyData.hasDict, PyData.hasDictAll, x.n, y.n, Bool.or_false]
  · simp only [PyData.depth, PyData.depthAll]
    omega
  · simp only [PyData.leavesShort, PyData.leavesShortAll, x.l, y.l, Bool.and_true]
  · simp only [PyData.bulk, PyData.bulkAll]
    have := x.k
    have := y.k
    omega
/-- (house, placement) -/
def hpT (n : Int) (D : List (Int × Int)) (P : List (Str × Int)) : PyData := .tuple [hd n D, pld P]
theorem hpT_shows {n : Int} {D : List (Int × Int)} {P : List (Str × Int)} (f : Forest n D) (n0 : 0 ≤ n) (n1 : n ≤ 8) (h : Pl n P) (lP : P.length ≤ 100) : Shows (hpT n D P) :=
  (sw2T (hd_sw f n0 n1) (h.sw n1 lP) (hd_deep _ _) (pld_deep _)).shows (by decide)
theorem hpT_dp {K : PySem.W.Frag} {H : Hp} {l h p : Addr} {n : Int} {D : List (Int × Int)} {P : List (Str × Int)} (e : H l = some (.tup [.ref h, .ref p])) (x : HouseAt H h n D) (y : PlAt H p P) : Dp K H (.ref l) (hpT n D P) :=
  .tup (SqT.of e) (.cons x.dp (.cons y.dp .nil))
/-- [house, placement] -/
def hpd (n : Int) (D : List (Int × Int)) (P : List (Str × Int)) : PyData := .list [hd n D, pld P]
theorem hp_shows {n : Int} {D : List (Int × Int)} {P : List (Str × Int)} (f : Forest n D) (n0 : 0 ≤ n) (n1 : n ≤ 8) (h : Pl n P) (lP : P.length ≤ 100) : Shows (hpd n D P) :=
  (sw2 (hd_sw f n0 n1) (h.sw n1 lP) (hd_deep _ _) (pld_deep _)).shows (by decide)
theorem hp_dp {K : PySem.W.Frag} {H : Hp} {l h p : Addr} {n : Int} {D : List (Int × Int)} {P : List (Str × Int)} (e : H l = some (.lst [.ref h, .ref p])) (x : HouseAt H h n D) (y : PlAt H p P) : Dp K H (.ref l) (hpd n D P) :=
  .lst (SqL.of e) (.cons x.dp (.cons y.dp .nil))
theorem pps_lay : ∀ {X : List (Str × Int)}, (∀ x ∈ X, Nam x.1) → PyData.canLayAll0 (X.map pp) = true
  | [], _ => by simp [PyData.canLayAll0]
  | x :: X, h => by
    rw [List.map_cons, PyData.canLayAll0, pps_lay fun y hy => h y (List.mem_cons_of_mem _ hy)]
    simp [pp, PyData.canLay0, PyData.canLayAll0, nam_ok (h x (List.mem_cons_self ..))]
theorem pps_shapedL {X : List (Str × Int)} (h : ∀ x ∈ X, Nam x.1) : SeqAt.shaped (.list (X.map pp)) = true := by
  unfold SeqAt.shaped
  rw [PyData.canLay0, pps_lay h, PyData.depth]
  have := pps_deep X
  simp
  omega
theorem pld_shaped {X : List (Str × Int)} (h : ∀ x ∈ X, Nam x.1) : SeqAt.shaped (pld X) = true := by
  unfold SeqAt.shaped pld
  rw [PyData.canLay0, pps_lay h, PyData.depth]
  have := pps_deep X
  simp
  omega
theorem Pl.nams {n : Int} {P : List (Str × Int)} (h : Pl n P) : ∀ x ∈ P, Nam x.1 := fun x hx => h.nm.nam _ (List.mem_map_of_mem (f := (·.1)) hx)
theorem eqv_nilP (X : List (Str × Int)) : PyData.eqv (.list (X.map pp)) (.list []) = X.isEmpty := by
  rw [PyData.eqv]
  cases X with
  | nil => rw [List.map_nil, PyData.eqvAll]; rfl
  | cons n ns => rw [List.map_cons, PyData.eqvAll]; rfl
/-- [house, placement, target] -/
def hptd (n : Int) (D : List (Int × Int)) (P G : List (Str × Int)) : PyData := .list [hd n D, pld P, pld G]
theorem hpt_shows {n : Int} {D : List (Int × Int)} {P G : List (Str × Int)} (f : Forest n D) (n0 : 0 ≤ n) (n1 : n ≤ 8) (h : Pl n P) (lP : P.length ≤ 100) (k : Pl n G) (lG : G.length ≤ 100) : Shows (hptd n D P G) :=
  (sw3 (hd_sw f n0 n1) (h.sw n1 lP) (k.sw n1 lG) (hd_deep _ _) (pld_deep _) (pld_deep _)).shows (by decide)
theorem hpt_dp {K : PySem.W.Frag} {H : Hp} {l h p g : Addr} {n : Int} {D : List (Int × Int)} {P G : List (Str × Int)} (e : H l = some (.lst [.ref h, .ref p, .ref g])) (x : HouseAt H h n D) (y : PlAt H p P) (z : PlAt H g G) : Dp K H (.ref l) (hptd n D P G) :=
  .lst (SqL.of e) (.cons x.dp (.cons y.dp (.cons z.dp .nil)))
end Fw
namespace Fw
open PySem PySem.Spec PyProof.Rows L2
/-! ### dicts by names -/
def dk (F : List (Str × V)) : List (Key × V) := F.map fun x => (Sum.inr x.1, x.2)
theorem valV_none {F : List (Str × V)} {nm : Str} (h : nm ∉ F.map (·.1)) : valV (dk F) (Sum.inr nm) = none := by
  induction F with
  | nil => rfl
  | cons x F ih =>
    rw [List.map_cons, List.mem_cons, not_or] at h
    show valV ((Sum.inr x.1, x.2) :: dk F) _ = none
    rw [valV_neg (fun e => h.1 (Sum.inr.inj e).symm)]
    exact ih h.2
theorem valV_dk {F : List (Str × V)} (nd : (F.map (·.1)).Nodup) {nm : Str} {v : V} (h : (nm, v) ∈ F) : valV (dk F) (Sum.inr nm) = some v := by
  induction F with
  | nil => cases h
  | cons x F ih =>
    rw [List.map_cons, List.nodup_cons] at nd
    rcases List.mem_cons.mp h with e | m
    · subst e
      exact valV_pos rfl
    · show valV ((Sum.inr x.1, x.2) :: dk F) _ = _
      rw [valV_neg (fun e => nd.1 (by rw [Sum.inr.inj e]; exact List.mem_map_of_mem (f := (·.1)) m))]
      exact ih nd.2 m
theorem merge_app : ∀ {F G : List (Str × V)}, ((F ++ G).map (·.1)).Nodup → mergeK (dk F) (dk G) = dk (F ++ G)
  | F, [], _ => by rw [List.append_nil]; rfl
  | F, x :: G, nd => by
    have n1 : x.1 ∉ F.map (·.1) := fun m => by
      rw [List.map_append, List.map_cons, List.nodup_append] at nd
      exact nd.2.2 x.1 m x.1 (List.mem_cons_self ..) rfl
    show mergeK (putK (dk F) (Sum.inr x.1) x.2) (dk G) = _
    rw [putK_new _ (valV_none n1)]
    have e : dk F ++ [(Sum.inr x.1, x.2)] = dk (F ++ [x]) := by unfold dk; rw [List.map_append]; rfl
    rw [e, merge_app (by rw [List.append_assoc]; exact nd), List.append_assoc]
    rfl
theorem merge_dk {F : List (Str × V)} (nd : (F.map (·.1)).Nodup) : mergeK [] (dk F) = dk F := merge_app (F := []) nd
theorem dk_keys (F : List (Str × V)) : (dk F).map (·.1) = (F.map (·.1)).map Sum.inr := by
  unfold dk
  rw [List.map_map, List.map_map]
  rfl
theorem dk_len (F : List (Str × V)) : (dk F).length = F.length := by unfold dk; rw [List.length_map]
/-- dict(list of pairs) -/
theorem call_dictK {X : Cx} (K : PySem.W.Frag) (h : X.K = K) (hc : X.calm = true) : CallR X (.type "dict") (fun xs H Q => ∃ (a : Addr) (ps : List Addr) (kvs : List (Key × V)), xs = [.ref a] ∧ SqL K H a (ps.map V.ref) ∧ Paired (fun p kv => SqT K H p [kV kv.1, kv.2]) ps kvs ∧
    ∀ p, H p = none → Q (.ref p) (upd H p (.dK (mergeK [] kvs)))) := by subst h; exact call_dictP hc
theorem paired_of {K : PySem.W.Frag} {H : Hp} : ∀ {ps : List (Addr × Str × V)}, (∀ q ∈ ps, H q.1 = some (.tup [.str q.2.1, q.2.2])) → Paired (fun p kv => SqT K H p [kV kv.1, kv.2]) (ps.map (·.1)) (dk (ps.map (·.2)))
  | [], _ => .nil
  | p :: ps, h => .cons (SqT.of (h p (List.mem_cons_self ..))) (paired_of fun q hq => h q (List.mem_cons_of_mem _ hq))
theorem eqv_nilT (X : List (Str × Int)) : PyData.eqv (pld X) (.tuple []) = X.isEmpty := by
  unfold pld
  rw [PyData.eqv]
  cases X with
  | nil => rw [List.map_nil, PyData.eqvAll]; rfl
  | cons n ns => rw [List.map_cons, PyData.eqvAll]; rfl
theorem PlAt.at {K : PySem.W.Frag} {H : Hp} {l : Addr} {X : List (Str × Int)} (x : PlAt H l X) {r : Int} (h0 : 0 ≤ r) (h1 : r < (X.length : Nat)) : ∃ xs t nm v, SqT K H l xs ∧ atI xs r = some (.ref t) ∧ H t = some (.tup [.str nm, .int v]) ∧ (nm, v) ∈ X := by
  obtain ⟨ps, e1, e2, e3⟩ := x
  have hj : r.toNat < ps.length := by rw [e2, List.length_map] at h1; omega
  have hm := List.getElem_mem hj
  refine ⟨_, ps[r.toNat].1, ps[r.toNat].2.1, ps[r.toNat].2.2, e1.sq, ?_, e3 _ hm, by rw [e2]; exact List.mem_map_of_mem (f := (·.2)) hm⟩
  have := atI_nat (xs := ps.map fun q => V.ref q.1) (j := r.toNat) (v := V.ref ps[r.toNat].1) (by rw [List.getElem?_map, List.getElem?_eq_getElem hj]; rfl)
  rw [show ((r.toNat : Nat) : Int) = r by omega] at this
  exact this
theorem PlAt.sq' {K : PySem.W.Frag} {H : Hp} {l : Addr} {X : List (Str × Int)} (x : PlAt H l X) : ∃ xs, SqT K H l xs ∧ xs.length = X.length := by
  obtain ⟨ps, h1, h2, _⟩ := x
  exact ⟨_, h1.sq, by rw [h2, List.length_map, List.length_map]⟩
/-! ### dict(placement) -/
def dkI (P : List (Str × Int)) : List (Key × V) := dk (P.map fun x => (x.1, V.int x.2))
theorem dkI_keys (P : List (Str × Int)) : (P.map fun x => (x.1, V.int x.2)).map (·.1) = P.map (·.1) := by
  rw [List.map_map]
  rfl
theorem valV_dkI {P : List (Str × Int)} (nd : (P.map (·.1)).Nodup) {nm : Str} {r : Int} (h : (nm, r) ∈ P) : valV (dkI P) (Sum.inr nm) = some (.int r) :=
  valV_dk (by rw [dkI_keys]; exact nd) (List.mem_map.mpr ⟨(nm, r), h, rfl⟩)
theorem valV_dkI_none {P : List (Str × Int)} {nm : Str} (h : nm ∉ P.map (·.1)) : valV (dkI P) (Sum.inr nm) = none := valV_none (by rw [dkI_keys]; exact h)
theorem pairs_in {X : Cx} {pins : List (Addr × Obj)} {σ : L2.St} {H : Hp} {s : Shared} (I : Inv X pins σ H s) : ∀ {ps : List (Addr × Str × Int)}, (∀ q ∈ ps, H q.1 = some (.tup [.str q.2.1, .int q.2.2])) →
    ∃ (vs : List (Value × Value)) (kv : List (Key × Value)), vs.length = ps.length ∧ KV (dkI (ps.map (·.2))) kv ∧ kv.length = ps.length ∧
      ∀ (j : Nat) (u v : Value), vs[j]? = some (u, v) → ∃ q k, ps[j]? = some q ∧ PairAt s.heap q.1 u v ∧ kv[j]? = some (k, v) ∧ (mixKind X.prog X.w).is k u = true
  | [], _ => ⟨[], [], rfl, .nil, rfl, fun j u v e => by cases e⟩
  | p :: ps, h => by
    obtain ⟨vs, kv, l1, rel, l2, f⟩ := pairs_in I fun q hq => h q (List.mem_cons_of_mem _ hq)
    obtain ⟨its, rv, ht, _⟩ := I.tuple (SqT.of (h p (List.mem_cons_self ..)))
    obtain ⟨u, y, ei, ru, ry⟩ := vals2 rv
    subst ei
    refine ⟨(u, y) :: vs, (Sum.inr p.2.1, y) :: kv, by rw [List.length_cons, List.length_cons, l1], .cons ⟨rfl, ry⟩ rel, by rw [List.length_cons, List.length_cons, l2], fun j u' v' e => ?_⟩
    cases j with
    | zero =>
      cases e
      exact ⟨p, _, rfl, .inl ht, rfl, kV_is (P := X.prog) (w := X.w) (k := Sum.inr p.2.1) ru⟩
    | succ j => exact f j u' v' (by simpa using e)
theorem call_dictT {X : Cx} (hcalm : X.calm = true) : CallR X (.type "dict") (fun xs H Q => ∃ (a : Addr) (P : List (Str × Int)), xs = [.ref a] ∧ PlD H a P ∧ (P.map (·.1)).Nodup ∧ P.length ≤ 1000 ∧ ∀ p, H p = none → Q (.ref p) (upd H p (.dK (dkI P)))) := by
  intro pins s σ H xs us Q I r q
  obtain ⟨a, P, rfl, ⟨ps, ob, od, hp, eP, hps⟩, nd, lP, q⟩ := q
  obtain ⟨u, rfl, ru⟩ := vals1 r
  obtain rfl : u = Value.ref a := ru
  obtain ⟨ho, hz, its, rel, ⟨o2, ho2, hc2, n2, hd2⟩⟩ := (show ObjOk X.prog X.w H s.heap a (.frz ob (.tup (ps.map fun q => V.ref q.1))) from I.hok a _ hp)
  have e2 : o2 = ob := by
    rw [ho] at ho2
    exact (Option.some.inj ho2).symm
  subst e2
  have ei : its = (ps.map (·.1)).map Value.ref := refs_at (by rw [List.map_map]; exact rel)
  obtain ⟨vs, kv, l1, rk, l2, f⟩ := pairs_in I hps
  have lp : ps.length = P.length := by rw [eP, List.length_map]
  have hlen : (dkI P).length ≤ sizeLine := by
    unfold dkI
    rw [dk_len, List.length_map]
    exact Nat.le_of_lt (small1000 lP)
  have hsz : vs.length ≤ sizeLine := by
    rw [l1, lp]
    exact Nat.le_of_lt (small1000 lP)
  refine PySem.call_dict_pairs (knd := mixKind X.prog X.w) (kvs := kv) (PairArg.tuple a its.toArray (fun j => (ps.map (·.1)).getD j 0) vs) (I.ok.hd hcalm) ⟨⟨o2, n2, ho, hc2, od, hd2⟩, ?_, fun j k v e => ?_⟩ ⟨by rw [l2, l1], fun j key v e => ?_⟩ hsz fun h' tk hd' k => ?_
  · rw [ei, List.size_toArray, List.length_map, List.length_map, l1]
  · obtain ⟨q', k', hq, hpa, _, _⟩ := f j k v e
    have hg : (ps.map (·.1))[j]? = some q'.1 := by rw [List.getElem?_map, hq]; rfl
    have hT : (ps.map (·.1)).getD j 0 = q'.1 := by rw [List.getD_eq_getElem?_getD, hg]; rfl
    show its.toArray[j]? = some (Value.ref ((ps.map (·.1)).getD j 0)) ∧ PairAt s.heap ((ps.map (·.1)).getD j 0) k v
    rw [hT]
    refine ⟨?_, hpa⟩
    rw [ei, List.getElem?_toArray, List.getElem?_map, hg]
    rfl
  · obtain ⟨q', k', _, _, hk, hi⟩ := f j key v e
    exact ⟨k', hk, hi⟩
  · have hm : (s.heap.objs.size == sysModules) = false := beq_eq_false_iff_ne.mpr (Nat.ne_of_gt I.big)
    have em : mergeK [] (dkI P) = dkI P := merge_dk (by rw [dkI_keys]; exact nd)
    have rk' : KV (dkI P) (merged [] kv) := by
      have := KV.merge (kvs := []) (vs := []) rk .nil
      rw [← eP, em] at this
      exact this
    exact ⟨.ref s.heap.objs.size, upd H s.heap.objs.size (.dK (dkI P)), I.laid (t' := tk) (fun b o e => k b o List.not_mem_nil e) (Nat.le_refl _) (show ObjOk X.prog X.w _ _ _ (.dK (dkI P)) from ⟨hlen, hm, merged [] kv, rk', hd'⟩), rfl, q _ (I.hok.fresh (Nat.le_refl _))⟩
end Fw
set_option maxHeartbeats 2000000
namespace Fw
open PySem PySem.Spec PyProof.Rows L2
/-- what the written part says of one of the error classes -/
structure EC (K : PySem.W.Frag) (C : Addr) : Prop where
  o : OexC K C
  x : XfC K C
  cl : (PySem.W.clsIn K C).isSome = true
  ofc : PySem.W.findIn K (.ref C) "__class__" = some (some (.builtin "object.__class__"))
  sp : PySem.W.specialIn K (.builtin "object.__class__") "__get__" = some (some (.builtin "getset_descriptor.__get__"))
  tk : PySem.W.takesIn K (.builtin "object.__class__") = some true
  mo : PySem.W.mroIn K C (.type "object") = some true
/-- C(e, ..) as a value: the exception stays tracked -/
def tMkV (C : Addr) (sp : Sp) (ta : TA) : TE := fun σ H Q => ta σ H fun vs H1 => vs.length ≤ 1000 ∧ ∀ a, H1 a = none → sp (.ref a :: vs) (upd H1 a (exo a C none)) (fun v H2 => v = .non ∧ Q (.ref a) H2) E0
section
variable {X : Cx} {e : Expr} {es : List Expr} {ta : TA} {p pos : Pos}
theorem run_oex {C fI : Addr} {k : Nat} {fd : FuncData} {ps : List Str} {sp : Sp} {pins : List (Addr × Obj)} {σ : L2.St} {H1 : Hp} {z : Shared} {us : List Value} {vs : List V} {Q : VK} (T : OexC X.K C) (iC : PySem.W.findIn X.K (.ref C) "__init__" = some (some (.ref fI))) (tI : PySem.W.typeIn X.K (.ref fI) = some (.type "function"))
    (F1 : FnOk X.prog X.w X.K X.mg X.base CX0 k fI fd ps sp) (hr : Room (k + 1) X.A) (hb : Binds X.K fd ps []) (I1 : Inv X pins σ H1 z) (r1 : Vals vs us) (hz : vs.length ≤ 1000)
    (qi : ∀ a, H1 a = none → sp (.ref a :: vs) (upd H1 a (exo a C none)) (fun v H2 => v = .non ∧ Q (.ref a) H2) E0) : wpAny (model X.prog X.w) X.A (call (.ref C) us) (EP X pins σ Q) X.xe z := by
  obtain ⟨_, _, _, _, bm, _, _, _, _, _, _, _, _, _, _, hC, hbm⟩ := T.cls
  obtain ⟨hp, g, dr, tk, os⟩ := z
  have le : hp.objs.size ≤ hp.objs.size + 1 := Nat.le_succ _
  have hq := qi (hp.objs.size + 1) (I1.hok.fresh le)
  have at2 : ((hp.push (PySem.W.kdv_tup us)).push (PySem.HandSPX.excO C hp.objs.size)).get? (hp.objs.size + 1) = some (PySem.HandSPX.excO C hp.objs.size) := by heap_get
  have Jn : Inv X pins σ (upd H1 (hp.objs.size + 1) (exo (hp.objs.size + 1) C none)) ⟨(hp.push (PySem.W.kdv_tup us)).push (PySem.HandSPX.excO C hp.objs.size), g, dr, tk, os⟩ :=
    I1.laid (t' := tk) (fun b o e => Heap.get?_push_of_some _ (Heap.get?_push_of_some _ e)) le (exo_ok at2)
  have rs : Vals (V.ref (hp.objs.size + 1) :: vs) (Value.ref (hp.objs.size + 1) :: us) := .cons rfl r1
  have ln : (Value.ref (hp.objs.size + 1) :: us ++ []).length = ps.length := by
    rw [List.append_nil, ← rs.length]
    exact F1.len _ _ _ _ hq
  have few : us.length ≤ sizeLine := by
    rw [← r1.length, sizeLine_eq]
    omega
  have bi := hb _ (Value.ref (hp.objs.size + 1) :: us) Jn.kIn ln
  rw [List.append_nil] at bi
  refine wpAny_call (PySem.HandSPX.call_own F.excBase_ValueError (fun Y => PySem.HandSPX.refsVE_contains Y bm hbm) (I1.kIn _ _ hC) (PySem.W.looks_findIn I1.kIn iC) (fun self => PySem.W.bind_fn I1.kIn self tI) few
    (codeAny_mono (F1.run _ X.stack _ _ ⟨Value.ref (hp.objs.size + 1) :: us, []⟩ (Value.ref (hp.objs.size + 1) :: us) _ _ E0 (hr.make C us []) (Jn.env0.make C us []) bi rs hq) ?_))
  intro r z' e
  match r, e with
  | .error _, e => exact e.elim
  | .ok .next, e => exact e.elim
  | .ok .brk, e => exact e.elim
  | .ok .cont, e => exact e.elim
  | .ok (.ret u), e =>
    obtain ⟨v, H2, J, rv, ev, qv⟩ := Jn.after e
    subst ev
    exact ⟨rv, .ref (hp.objs.size + 1), H2, J, rfl, qv⟩
theorem pe_oex {x : Str} {C fI : Addr} {k : Nat} {fd : FuncData} {ps : List Str} {sp : Sp} (T : OexC X.K C) (iC : PySem.W.findIn X.K (.ref C) "__init__" = some (some (.ref fI))) (tI : PySem.W.typeIn X.K (.ref fI) = some (.type "function"))
    (F1 : FnOk X.prog X.w X.K X.mg X.base CX0 k fI fd ps sp) (hr : Room (k + 1) X.A) (hb : Binds X.K fd ps []) (hg : Gl X x) (hm : X.mg x = some (.ref C)) (ha : PA X (e :: es) ta)
    (hdb : (x == ("__debug__" : Str)) = false := by decide) (h1 : starEach (e :: es) X.env = (false, eval e X.env) :: starEach es X.env := by rfl) (h2 : (backTo pos (starEach es X.env)).any (·.1) = false := by rfl) :
    PE X (.Call (.Name x p) (e :: es) [] pos) (tMkV C sp ta) := by
  constructor
  intro pins z σ H Q I h
  refine wpAny_Call_Name_kw (ld_glob I hg hm (PySem.W.callWith_K (h₀ := X.base) I.ok.mod.kin T.kC (thn (ha.run pos pins z σ H _ I h) ?_) h1 h2) hdb)
  rintro us z1 ⟨vs, H1, I1, r1, hz, q1⟩
  exact ⟨I1.kIn, run_oex T iC tI F1 hr hb I1 r1 hz q1⟩
theorem pe_oex0 {x : Str} {C fI : Addr} {k : Nat} {fd : FuncData} {ps : List Str} {sp : Sp} (T : OexC X.K C) (iC : PySem.W.findIn X.K (.ref C) "__init__" = some (some (.ref fI))) (tI : PySem.W.typeIn X.K (.ref fI) = some (.type "function"))
    (F1 : FnOk X.prog X.w X.K X.mg X.base CX0 k fI fd ps sp) (hr : Room (k + 1) X.A) (hb : Binds X.K fd ps []) (hg : Gl X x) (hm : X.mg x = some (.ref C)) (hdb : (x == ("__debug__" : Str)) = false := by decide) : PE X (.Call (.Name x p) [] [] pos) (tMkV C sp tNil) := by
  constructor
  intro pins z σ H Q I h
  obtain ⟨hz, q1⟩ := h
  exact wpAny_Call_Name_kw (ld_glob I hg hm (PySem.W.callWith_K0 I.kIn T.kC (run_oex T iC tI F1 hr hb I .nil hz q1)) hdb)
/-- e.f of such an exception -/
def tEf (K : PySem.W.Frag) (f : Str) (te : TE) : TE := fun σ H Q => te σ H fun x H1 => ∃ (a C dx : Addr) (fs : List (Str × V)) (v : V), x = .ref a ∧ XfC K C ∧ PySem.W.findIn K (.ref C) f = some none ∧ H1 a = some (exo a C (some dx)) ∧ H1 dx = some (exd dx fs) ∧ fs.lookup f = some v ∧ Q v H1
theorem pe_ef {te : TE} {f : Str} (he : PE X e te) (hb : attributeBase e f X.env (eval e X.env) = eval e X.env := by rfl) : PE X (.Attribute e f pos) (tEf X.K f te) := by
  constructor
  intro pins z σ H Q I h
  refine attr_of hb (thn (he.run pins z σ H _ I h) ?_)
  rintro u z1 ⟨x, H1, I1, rx, a, C, dx, fs, v, rfl, T, no, ea, ed, l, q⟩
  obtain rfl : u = Value.ref a := rx
  obtain ⟨t1, ho⟩ := exo_at I1.hok ea
  obtain ⟨mA, ns, hr⟩ := exd_at I1.hok ed
  obtain ⟨od, hod, hl⟩ := lookIn_ns ns
  obtain ⟨u, hu, ru⟩ := RelO.some_of (v := v) (o := mA f) (by rw [← l]; exact hr f)
  have J : PySem.W.InstAt z1.heap a _ C (some od) := ⟨ho, rfl, rfl, hod⟩
  exact HandSPX.exc_get I1.kIn J T.ga T.gg T.exC (PySem.W.findObj_own T.hdC no rfl (by rw [hl, hu])) (handed_of ru) ⟨v, H1, I1.tok _, ru, q⟩
/-- isinstance(e, c) of such an exception -/
def rIsX (K : PySem.W.Frag) : List V → Hp → VK → Prop := fun xs H Q => ∃ (a D : Addr) (c : V) (cv : Value) (d : Option Addr) (b : Bool), xs = [.ref a, c] ∧ ClsV c cv ∧ EC K D ∧ H a = some (exo a D d) ∧ (∀ dx, d = some dx → ∃ fs, H dx = some (exd dx fs)) ∧ PySem.W.kitOne K (.ref D) cv = some b ∧ Q (.bl b) H
theorem call_isX : CallR X (.builtin "isinstance") (rIsX X.K) := by
  intro pn sh σ H xs us Q J rr hx
  obtain ⟨a, D, c, cv, d, b, rfl, k, T, ea, hd, e, q⟩ := hx
  obtain ⟨ua, ub, rfl, ra, rb⟩ := vals2 rr
  have e2 := k.eq rb
  subst e2
  cases (show ua = Value.ref a from ra)
  obtain ⟨t1, ho⟩ := exo_at J.hok ea
  have M : ∃ od, PySem.W.InstAt sh.heap a { cls := .ref D, dict := d, data := .fields #[.ref t1, .none, .none, .none, .bool false, .none] } D od := by
    cases d with
    | none => exact ⟨none, ho, rfl, rfl, trivial⟩
    | some dx =>
      obtain ⟨fs, ed⟩ := hd dx rfl
      obtain ⟨mA, ns, _⟩ := exd_at J.hok ed
      obtain ⟨od, hod, _⟩ := lookIn_ns ns
      exact ⟨some od, ho, rfl, rfl, hod⟩
  obtain ⟨od, M⟩ := M
  exact PySem.W.kia_one (PySem.W.kitx_exc T.cl T.x.ga T.x.gg T.x.exC T.ofc T.sp T.tk T.mo) J.kIn M e (fun z => nomatch z) fun tk => ⟨.bl b, H, J.tok tk, rfl, q⟩
/-- l.count(True), l a list of bools -/
def rCntB (K : PySem.W.Frag) : V → List V → Hp → VK → Prop := fun x xs H Q => ∃ (p : Addr) (bs : List Bool), x = .ref p ∧ xs = [.bl true] ∧ SqL K H p (bs.map V.bl) ∧ Q (.int ((bs.count true : Nat) : Int)) H
def isT : Value → Bool
  | .bool b => b
  | _ => false
theorem mt_countB : MtR X "list.count" (rCntB X.K) := by
  intro pn s σ H x xs v us Q I rx rys hx
  obtain ⟨p, bs, rfl, rfl, hs, q⟩ := hx
  cases rx
  obtain ⟨ut, rfl, rt⟩ := rys.one
  cases (show ut = Value.bool true from rt)
  obtain ⟨its, rv, ⟨⟨oc, dd, od, sl⟩, n, ho, hc, _, hd⟩, _⟩ := I.list hs
  simp only at hc hd
  subst hc hd
  have all : ∀ {bs : List Bool} {us : List Value}, Vals (bs.map V.bl) us → (∀ y ∈ us, ∃ b, y = Value.bool b) ∧ us.countP isT = bs.count true := by
    intro bs
    induction bs with
    | nil => intro us r; cases r; exact ⟨fun y hy => (by cases hy), rfl⟩
    | cons b bs ih =>
      intro us r
      cases r with
      | cons r rr =>
        obtain ⟨h1, h2⟩ := ih rr
        have e := (show _ = Value.bool b from r)
        subst e
        refine ⟨fun y hy => ?_, ?_⟩
        · rcases List.mem_cons.mp hy with e | e
          · exact ⟨b, e⟩
          · exact h1 y e
        · rw [List.countP_cons, List.count_cons, h2]
          cases b <;> rfl
  obtain ⟨h1, h2⟩ := all rv
  refine call_meets PySem.F.slot_list_count ⟨_, ho, rfl⟩ PySem.F.entry_list_count (PySem.F.args_list_count_2 _ _) (SeqAt.list_countAt p its.toArray n dd sl (.bool true) isT) ⟨ho, fun y hy => ?_, ?_⟩
  · obtain ⟨b, rfl⟩ := h1 y (by simpa using hy)
    have := SeqAt.EqAt.bool_bool (A := X.A.in1) (s := s) b true
    rw [show (b == true) = isT (.bool b) by cases b <;> rfl] at this
    exact this
  · refine ⟨.int ((bs.count true : Nat) : Int), H, I.tok _, ⟨s.toks, ?_⟩, q⟩
    show Value.int ((its.toArray.toList.countP isT : Nat) : Int) s.toks = _
    rw [← h2]
end
end Fw
set_option maxHeartbeats 2000000
namespace Fw
open PySem PySem.Spec PyProof.Rows L2
/-- the classes above an error class, without itself -/
abbrev above (E : Addr) : List Value := [.ref E, .type "ValueError", .type "Exception", .type "BaseException", .type "object"]
/-- an error class by its place, with its __init__ -/
structure CF (K : PySem.W.Frag) (mg : Str → Option Value) (x : Str) (q : Str) (st : Stmt) (ps : List Str) (E C : Addr) (f : Addr) (fd : FuncData) : Prop where
  e : EC K C
  g : mg x = some (.ref C)
  mro : ∃ cd, PySem.W.clsIn K C = some cd ∧ cd.mro = .ref C :: above E
  i : PySem.W.findIn K (.ref C) "__init__" = some (some (.ref f))
  t : PySem.W.typeIn K (.ref f) = some (.type "function")
  F : Fun K "__init__" q st f fd
  b : Binds K fd ps []
theorem cf_mk {K : PySem.W.Frag} {h : Heap} {mg : Str → Option Value} {x q : Str} {st : Stmt} {ps : List Str} {E C f : Addr}
    {nm qn : Str} {N : Addr} {bs : List Value} {sn : List Str} {sub : List Value} {ab : Bool} {col : Option Bool} {dd : Option Addr} {m0 m1 m2 m3 m5 : Option Value}
    {od an : Option Addr} {sl : Array (Option Value)} {oc kV dc pm cd ct : Value} (X : K.In h) (G : h.Ns mainGlobals mg)
    (hb : ∀ fd, Fun K "__init__" q st f fd → Binds K fd ps [])
    (aC : PySem.W.nsIn K mainGlobals x = some (some (.ref C)))
    (xL : K.lookup C = some (excClassObj nm qn C N bs (above E) true sn sub ab col dd m0 m1 m2 m3 m5 "ValueError.__new__"))
    (sa : PySem.W.findIn K (.ref C) "__setattr__" = some (some (.builtin "object.__setattr__"))) (ga : PySem.W.findIn K (.ref C) "__getattribute__" = some (some (.builtin "BaseException.__getattribute__"))) (gg : PySem.W.findIn K (.ref C) "__getattr__" = some none)
    (a1 : PySem.W.findIn K (.ref C) "__init__" = some (some (.ref f))) (t1 : PySem.W.typeIn K (.ref f) = some (.type "function"))
    (l1 : K.lookup f = some ⟨oc, od, .func (PySem.W.fnOf "__init__" q (defArgs st) (defBody st) (defScope st) .none kV dc pm an cd ct), sl⟩) (c1 : PySem.W.codeIn K cd q = true) (k1 : PySem.W.keepIn K (.ref f) = true)
    (kC : PySem.W.keepIn K (.ref C) = true) (tC : PySem.W.typeIn K (.ref C) = some (.type "type")) (hC : PySem.W.hasDictIn K C = true)
    (ca : PySem.W.findIn K (.ref C) "__class__" = some (some (.builtin "object.__class__")))
    (sp : PySem.W.specialIn K (.builtin "object.__class__") "__get__" = some (some (.builtin "getset_descriptor.__get__"))) (tk : PySem.W.takesIn K (.builtin "object.__class__") = some true) :
    ∃ fd, CF K mg x q st ps E C f fd := by
  have cl : PySem.W.clsIn K C = some { name := nm, bases := bs, mro := .ref C :: above E, ns := N, qualname := qn, hasDict := true, slotNames := sn, subclasses := sub, abstract := ab, collection := col, hasDel := false } := by
    unfold PySem.W.clsIn
    rw [xL]
  have mr : ∀ v, PySem.W.mroIn K C v = some ((Value.ref C :: above E).contains v) := fun v => by
    unfold PySem.W.mroIn
    rw [cl]
    rfl
  have exC : PySem.W.subIn K (.ref C) (.type "BaseException") = some true := (mr _).trans rfl
  have F1 := fun_mk (st := st) l1 c1 k1
  refine ⟨_, ⟨⟨⟨nm, qn, N, bs, _, sn, sub, ab, col, dd, m0, m1, m2, m3, m5, xL, rfl⟩, sa, exC, tC, kC⟩, ⟨ga, gg, exC, hC⟩, by rw [cl]; rfl, ca, sp, tk, (mr _).trans rfl⟩, PySem.W.mg_of X G aC, ⟨_, cl, rfl⟩, a1, t1, F1, hb _ F1⟩
end Fw
set_option maxHeartbeats 2000000
namespace Fw
open PySem PySem.Spec PyProof.Rows L2
/-- what the __init__ of an error with a field does -/
def spIniF (f : Str) (C : Addr) : Sp := fun vs H Q _ => ∃ (a : Addr) (v : V), vs = [.ref a, v] ∧ H a = some (exo a C none) ∧ ∀ dx, H dx = none → dx ≠ a → Q .non (upd (upd H dx (exd dx [(f, v)])) a (exo a C (some dx)))
/-- an error class of the text with one field -/
def CE (K : PySem.W.Frag) (mg : Str → Option Value) (x q fld : Str) (st : Stmt) : Prop := ∃ E C f fd, CF K mg x q st ["self", fld] E C f fd ∧ PySem.W.findIn K (.ref C) fld = some none
/-- an error class that can be raised, by its name -/
structure ErR (P : Program) (w : World) (K : PySem.W.Frag) (mg : Str → Option Value) (base : Heap) (x fld : Str) (E C : Addr) : Prop where
  e : EC K C
  g : mg x = some (.ref C)
  mro : ∃ cd, PySem.W.clsIn K C = some cd ∧ cd.mro = .ref C :: above E
  no : PySem.W.findIn K (.ref C) fld = some none
  i : ∃ f fd, PySem.W.findIn K (.ref C) "__init__" = some (some (.ref f)) ∧ PySem.W.typeIn K (.ref f) = some (.type "function") ∧ Binds K fd ["self", fld] [] ∧ FnOk P w K mg base CX0 1 f fd ["self", fld] (spIniF fld C)
section
variable {P : Program} {w : World} {K : PySem.W.Frag} {mg : Str → Option Value} {base : Heap}
theorem er_NotAdjacent (c : CE K mg "NotAdjacent" "NotAdjacent.__init__" "room" iNotAdjacent) : ∃ E C, ErR P w K mg base "NotAdjacent" "room" E C := by
  obtain ⟨E, C, f, fd, c, no⟩ := c
  refine ⟨E, C, c.e, c.g, c.mro, no, f, fd, c.i, c.t, c.b, ?_⟩
  refine Fun.ok c.F (N := ["self", "room"]) ⟨rfl, rfl, rfl, by decide +kernel, rfl, by decide +kernel, by decide +kernel⟩ (fun vs H Q E h => ?_) (fun cdv A outer s H vs Q E hr h => ?_)
  · obtain ⟨a, v, rfl, _⟩ := h
    rfl
  · obtain ⟨a, v, rfl, ea, q⟩ := h
    exact ⟨_, pss_one (ps_ost (pv 0) (pv 1)), _, rfl, _, rfl, a, C, rfl, c.e.o, no, .inl ⟨ea, q⟩⟩
theorem er_EmptyRoom (c : CE K mg "EmptyRoom" "EmptyRoom.__init__" "room" iEmptyRoom) : ∃ E C, ErR P w K mg base "EmptyRoom" "room" E C := by
  obtain ⟨E, C, f, fd, c, no⟩ := c
  refine ⟨E, C, c.e, c.g, c.mro, no, f, fd, c.i, c.t, c.b, ?_⟩
  refine Fun.ok c.F (N := ["self", "room"]) ⟨rfl, rfl, rfl, by decide +kernel, rfl, by decide +kernel, by decide +kernel⟩ (fun vs H Q E h => ?_) (fun cdv A outer s H vs Q E hr h => ?_)
  · obtain ⟨a, v, rfl, _⟩ := h
    rfl
  · obtain ⟨a, v, rfl, ea, q⟩ := h
    exact ⟨_, pss_one (ps_ost (pv 0) (pv 1)), _, rfl, _, rfl, a, C, rfl, c.e.o, no, .inl ⟨ea, q⟩⟩
end
/-! ### except among the errors -/
theorem exm_ref {K : PySem.W.Frag} {D E C : Addr} (hm : ∃ cd, PySem.W.clsIn K D = some cd ∧ cd.mro = .ref D :: above E) (e : EC K C) : PySem.W.exmOne K (.ref D) (.ref C) = some (decide (C = D ∨ C = E)) := by
  obtain ⟨cd, h1, h2⟩ := hm
  unfold PySem.W.exmOne
  rw [if_pos (by rw [e.o.exC]; rfl)]
  unfold PySem.W.kitCls
  simp only [e.cl, e.o.tyC]
  rw [if_pos (by rfl)]
  show PySem.W.mroIn K D (.ref C) = _
  unfold PySem.W.mroIn
  rw [h1]
  show (if cd.mro.isEmpty then none else some (cd.mro.contains (.ref C))) = _
  rw [h2]
  show some ((Value.ref D :: above E).contains (.ref C)) = _
  by_cases e1 : C = D <;> by_cases e2 : C = E <;> simp [e1, e2]
theorem exm_two {K : PySem.W.Frag} {D E C1 C2 : Addr} (hm : ∃ cd, PySem.W.clsIn K D = some cd ∧ cd.mro = .ref D :: above E) (e1 : EC K C1) (e2 : EC K C2) (h : C1 = D ∨ C2 = D) : PySem.W.exmAny K (.ref D) [.ref C1, .ref C2] = some true := by
  unfold PySem.W.exmAny PySem.W.exmAny PySem.W.exmAny
  rw [exm_ref hm e1, exm_ref hm e2]
  show some _ = some true
  congr 1
  rcases h with h | h <;> simp [h]
/-! ### raise -/
theorem raise_end {fld : Str} {C : Addr} {v : V} {H1 : Hp} {Q : XK} (q : ∀ d H', Same H1 H' → H' d = some (.xd [(fld, v)]) → Q (.ref C) (some d) H') : ([v] : List V).length ≤ 1000 ∧ ∀ a, H1 a = none → spIniF fld C (.ref a :: ([v] ++ [])) (upd H1 a (exo a C none))
    (fun v H2 => v = .non ∧ ∃ (d : Addr) (fs : List (Str × V)), H2 a = some (exo a C (some d)) ∧ H2 d = some (exd d fs) ∧ H1 d = none ∧ Q (.ref C) (some d) (upd (del H2 a) d (.xd fs))) (fun _ _ _ => False) := by
  refine ⟨by show 1 ≤ 1000; decide, fun a ha => ⟨a, v, rfl, upd_same, fun dx h1 h2 => ?_⟩⟩
  have hd : H1 dx = none := by rw [← h1, upd_ne h2]
  refine ⟨rfl, dx, _, upd_same, (upd_ne h2).trans upd_same, hd, q _ _ (fun b o e => ?_) upd_same⟩
  have n1 : b ≠ a := ne_of_none e ha
  have n2 : b ≠ dx := ne_of_none e hd
  rw [upd_ne n2, del_ne n1, upd_ne n1, upd_ne n2, upd_ne n1]
  exact e
theorem pmk_er {X : Cx} {x fld : Str} {E C : Addr} {k : Nat} {p pos : Pos} {e : Expr} {te : TE} (R : ErR X.prog X.w X.K X.mg X.base x fld E C) (hr : Room (k + 2) X.A) (hg : Gl X x) (he : PE X e te) (hdb : (x == ("__debug__" : Str)) = false := by decide)
    (h1 : starEach [e] X.env = (false, eval e X.env) :: starEach [] X.env := by rfl) (h2 : (backTo pos (starEach [] X.env)).any (·.1) = false := by rfl) : PMk X (.Call (.Name x p) [e] [] pos) (tMkO C (spIniF fld C) [] (tCons te tNil)) := by
  obtain ⟨f, fd, a, b, c, d⟩ := R.i
  exact pmk_oex R.e.o a b (d.mono (Nat.le_add_left 1 k)) hr c .nil pass0 hg R.g (pa_cons he pa_nil (hs := h1)) hdb h1 h2
/-! ### a def that may raise, by its name -/
def CalX (P : Program) (w : World) (K : PySem.W.Frag) (mg : Str → Option Value) (base : Heap) (k : Nat) (x : Str) (ps : List Str) (sp : Sp) : Prop :=
  ∃ f fd, mg x = some (.ref f) ∧ PySem.W.keepIn K (.ref f) = true ∧ Binds K fd ps [] ∧ FnOk P w K mg base (L2.CX P w) k f fd ps sp
theorem DefE.calX {P : Program} {w : World} {K : PySem.W.Frag} {mg : Str → Option Value} {base : Heap} {x : Str} {st : Stmt} {ps : List Str} {k : Nat} {sp : Sp} (D : DefE K mg x st ps) (h : ∀ f fd, Def K mg x st f fd ps → FnOk P w K mg base (L2.CX P w) k f fd ps sp) : CalX P w K mg base k x ps sp := by
  obtain ⟨f, fd, d⟩ := D
  exact ⟨f, fd, d.g, d.F.kp, d.b, h f fd d⟩
theorem pe_calX {X : Cx} {W : WX} {k : Nat} {ps : List Str} {sp : Sp} {x : Str} {p pos : Pos} {e : Expr} {es : List Expr} {t : TA} (C : CalX X.prog X.w X.K X.mg X.base k x ps sp) (tk : Takes X W) (hr : Room k X.A) (hg : Gl X x) (ha : PA X (e :: es) t) (hdb : (x == ("__debug__" : Str)) = false := by decide)
    (h1 : starEach (e :: es) X.env = (false, eval e X.env) :: starEach es X.env := by rfl) (h2 : (backTo pos (starEach es X.env)).any (·.1) = false := by rfl) : PE X (.Call (.Name x p) (e :: es) [] pos) (tCallS sp (WE W) t) := by
  obtain ⟨f, fd, a, b, c, d⟩ := C
  exact pe_callS d hr hg a b c (fun σ => passAt tk σ) ha hdb h1 h2
/-! ### an exception that has landed, and the state around it -/
structure Air (X : Cx) (pins : List (Addr × Obj)) (B : Heap) (a : Addr) (cls : Value) (d : Option Addr) (σ : L2.St) (H : Hp) (z : Shared) : Prop where
  ex : ∃ g : Shared, Inv X pins σ H g ∧ (∀ b o, g.heap.get? b = some o → b ∉ frs X.stack → B.get? b = some o) ∧ g.heap.UpToSlots z.heap ∧ z.os = g.os
  fly : HandSPX.FlyingZ B (X.env :: X.outer) a (Zc cls d) z.heap
  free : H a = none
  bare : AllBare z.gens
section
variable {X : Cx} {pins : List (Addr × Obj)} {B : Heap} {a : Addr} {cls : Value} {d : Option Addr} {σ : L2.St} {H : Hp} {z : Shared}
theorem Air.inv (x : Air X pins B a cls d σ H z) : Inv X pins σ H z := by
  obtain ⟨g, i, k, u, o⟩ := x.ex
  exact i.landed k x.fly.1 u o x.bare
theorem Air.step {h' : Heap} (x : Air X pins B a cls d σ H z) (f : HandSPX.FlyingZ B (X.env :: X.outer) a (Zc cls d) h') (u : z.heap.UpToSlots h') : Air X pins B a cls d σ H { z with heap := h' } := by
  obtain ⟨g, i, k, u0, o⟩ := x.ex
  exact ⟨⟨g, i, k, u0.trans u, o⟩, f, x.free, x.bare⟩
theorem Air.push (x : Air X pins B a cls d σ H z) (o : Obj) : Air X pins B a cls d σ H { z with heap := z.heap.push o } := by
  have up : ∀ b q, z.heap.get? b = some q → (z.heap.push o).get? b = some q := fun b q e => Heap.get?_push_of_some _ e
  obtain ⟨c1, c2, c3, ob, fs, tb, ot, us, g1, g2, g3, g4, g5, g6, g7, g8, g9⟩ := x.fly
  exact x.step ⟨fun b q e => up b q (c1 b q e), c2, c3.of_keeps fun b q e _ => ⟨q, up b q e, rfl⟩, ob, fs, tb, ot, us, up _ _ g1, g2, g3, g4, g5, g6, up _ _ g7, g8, g9⟩ (Heap.UpToSlots.of_keeps up)
theorem Air.hold (x : Air X pins B a cls d σ H z) (fr : X.env.frame = some X.env.locals) : ∃ oe, z.heap.get? a = some oe ∧ Zc cls d oe ∧ (∃ vs, oe.data = .fields vs) ∧ Inv (X.suite a ((a, oe) :: (X.pn ++ pins))) [] σ H z := by
  obtain ⟨oe, fs, at0, zc, fd⟩ := x.fly.there
  have off : ∀ v : Env, v ∈ X.env :: X.outer → v.frame ≠ some a := by
    intro v mv ev
    obtain ⟨_, ob, at1, plain⟩ := x.fly.2.2.1.mem (List.mem_filterMap.2 ⟨v, mv, ev⟩)
    cases Option.some.inj (at0.symm.trans at1)
    exact plain fs fd
  refine ⟨oe, at0, zc, ⟨fs, fd⟩, x.inv.suite at0 fd x.free ?_ ?_⟩
  · intro same
    exact off X.env (.head _) (by rw [fr, same])
  · intro inFs
    obtain ⟨v, mv, ev⟩ := List.mem_filterMap.1 inFs
    exact off v (.tail _ mv) ev
/-- what comes of a suite, and of a try's body, told outside of it -/
theorem sp_suite {q : Addr × Obj} {D : Ends} {f : Flow} (ok : X.Ok) (h : L2.SP (X.suite a (q :: (X.pn ++ pins))) [] D f z) : L2.SP X pins D f z :=
  match f, h with
  | .next, ⟨t, G, J, w⟩ | .brk, ⟨t, G, J, w⟩ | .cont, ⟨t, G, J, w⟩ => ⟨t, G, J.unsuite ok, w⟩
  | .ret _, ⟨v, t, G, J, r, w⟩ => ⟨v, t, G, J.unsuite ok, r, w⟩
theorem sp_body {xe : Value → Shared → Prop} {D : Ends} {f : Flow} (ok : X.Ok) (h : L2.SP (X.tr (X.pn ++ pins) xe) [] D f z) : L2.SP X pins D f z :=
  match f, h with
  | .next, ⟨t, G, J, w⟩ | .brk, ⟨t, G, J, w⟩ | .cont, ⟨t, G, J, w⟩ => ⟨t, G, J.ofTry ok, w⟩
  | .ret _, ⟨v, t, G, J, r, w⟩ => ⟨v, t, G, J.ofTry ok, r, w⟩
/-- it lands -/
theorem air_of {W : WX} {xe : Value → Shared → Prop} {u : Value} {Q : Unit → Shared → Prop} {E : Value → Shared → Prop} (st : X.stack = X.env :: X.outer) (fr : X.env.frame = some X.env.locals) (ok : X.Ok) (x : XE (X.tr (X.pn ++ pins) xe) W u z)
    (k : ∀ B a cls d σ H z', u = .ref a → Air X pins B a cls d σ H z' → W cls d σ H → Q () z') :
    wpAny (model X.prog X.w) X.A (noteFrame u X.env) (fun _ y => wpAny (model X.prog X.w) X.A (setFlight u none) Q E y) E z := by
  obtain ⟨a, B, g, _, σ, H, cls, d, rfl, i, gr, us, sky, free, eo, bare, w⟩ := x
  refine Sky.land Zc.steady (ok.frames.trans (congrArg some st)) fr (st ▸ sky) fun h' fl us' => ?_
  exact k B a cls d σ H _ rfl ⟨⟨g, i.ofTry ok, gr, us.trans us', eo⟩, fl, free, bare⟩ w
/-- a class of the text, or a builtin one, by its name in a clause -/
theorem Air.name {x : Str} {c : Value} {p : Pos} {Q : Value → Shared → Prop} {E : Value → Shared → Prop} (y : Air X pins B a cls d σ H z) (fr : X.env.frame = some X.env.locals) (nm : L2.Names X x c) (h : Q c z) : wpAny (model X.prog X.w) (X.A.mark (some (.ref a))) (eval (.Name x p) X.env) Q E z := by
  obtain ⟨oe, _, _, _, J⟩ := y.hold fr
  obtain ⟨gl, nd, own | ⟨out, blt, nn⟩⟩ := nm
  · exact ld_glob J gl own h nd
  · exact ld_blt J gl out blt h nn nd
end
/-! ### try: .. except (A, B): .. , where it surely is one of the two -/
theorem ps_try_two {X : Cx} {body : List Stmt} {x1 x2 : Str} {c1 c2 : Value} {b₀ : Stmt} {suite : List Stmt} {p1 p2 tpos pos' pos : Pos} {kk : Nat} {tb : WX → TS} {ts : TS} (st : X.stack = X.env :: X.outer) (fr : X.env.frame = some X.env.locals) (n1 : L2.Names X x1 c1) (n2 : L2.Names X x2 c2)
    (hb : ∀ (W : WX) (pn : List (Addr × Obj)) (xe : Value → Shared → Prop), Takes (X.tr pn xe) W → PassesOwn (model X.prog X.w) X.A X.env xe → PSs (X.tr pn xe) body (tb W))
    (hsu : ∀ (a : Addr) (oe : Obj) (pn : List (Addr × Obj)), PSs (X.suite a ((a, oe) :: pn)) (b₀ :: suite) ts) :
    PS X (.Try body [.ExceptHandler (some (.Tuple [.Name x1 p1, .Name x2 p2] kk tpos)) none (b₀ :: suite) pos'] [] [] pos) (fun D σ H => tb (fun cls _ σ' H' => PySem.W.exmAny X.K cls [c1, c2] = some true ∧ ts D σ' H') D σ H) := by
  constructor
  intro pins z σ H D I rd
  have ok := I.ok
  have caught : ∀ (xe : Value → Shared → Prop) (u : Value) (y : Shared), XE (X.tr (X.pn ++ pins) xe) (fun cls _ σ' H' => PySem.W.exmAny X.K cls [c1, c2] = some true ∧ ts D σ' H') u y →
      wpAny (model X.prog X.w) X.A (noteFrame u X.env) (fun _ y1 => wpAny (model X.prog X.w) X.A (setFlight u none) (fun _ y2 =>
        wpAny (model X.prog X.w) X.A (handleBy u X.env [.ExceptHandler (some (.Tuple [.Name x1 p1, .Name x2 p2] kk tpos)) none (b₀ :: suite) pos']) (L2.SP X pins D) X.xe y2) X.xe y1) X.xe y := by
    intro xe u y air
    refine air_of st fr ok air fun B a cls d σ1 H1 y1 eu y1a yes => ?_
    subst eu
    refine wpAny_handleBy_cons (codeAny_handlers_test (wpAny_Tuple (wpAny_items_cons (y1a.name fr n1 (wpAny_items_cons (y1a.name fr n2 (wpAny_items_nil ⟨?_, ?_⟩))))))) fun e => nomatch e
    · show 2 ≤ sizeLine
      decide
    have y2a := y1a.push { cls := .type "tuple", data := .seq [c1, c2].toArray }
    obtain ⟨oe, at2, zc, _, _⟩ := y2a.hold fr
    have kind : PySem.W.Looks (model X.prog X.w) (y1.heap.push { cls := .type "tuple", data := .seq [c1, c2].toArray }) (typeOf (.ref a)) cls := fun _ _ _ _ keep w => wpAny_typeOf_ref (keep _ _ at2) (zc.1.symm ▸ w)
    refine (PySem.W.exm_tup2 y2a.inv.kIn kind (Heap.get?_push_size _ rfl) yes.1).here (codeAny_handlers_suite (HandSPX.lands_againZ y2a.fly fun h3 f3 u3 => ?_))
    obtain ⟨oe3, _, _, _, J3⟩ := (y2a.step f3 u3).hold fr
    exact wpAny_mono ((hsu a oe3 (X.pn ++ pins)).run [] _ _ H1 _ J3 yes.2) (fun _ _ r => sp_suite ok r) fun _ _ no => no.elim
  refine wpAny_Try_except (wpAny_mono ((hb _ (X.pn ++ pins) _ (fun u y air => caught _ u y air) PassesOwn.looking).run [] z σ H D (I.toTry _) rd) (fun f y r => ?_) fun _ _ r => r)
  have r := sp_body ok r
  match f, r with
  | .next, r => exact wpAny_execs_nil r
  | .brk, r | .cont, r | .ret _, r => exact r
end Fw
set_option maxHeartbeats 2000000
namespace Fw
open PySem PySem.Spec PyProof.Rows L2
/-- the class above all errors -/
structure HE (K : PySem.W.Frag) (mg : Str → Option Value) (E : Addr) : Prop where
  g : mg "HouseError" = some (.ref E)
  ex : PySem.W.subIn K (.ref E) (.type "BaseException") = some true
  cl : (PySem.W.clsIn K E).isSome = true
  ty : PySem.W.typeIn K (.ref E) = some (.type "type")
  m : (PySem.W.clsIn K E).map (·.mro) = some (above E)
/-- an error class of the text with one field, below E -/
def CEE (K : PySem.W.Frag) (mg : Str → Option Value) (E : Addr) (x q fld : Str) (st : Stmt) : Prop := ∃ C f fd, CF K mg x q st ["self", fld] E C f fd ∧ PySem.W.findIn K (.ref C) fld = some none
abbrev Mro (K : PySem.W.Frag) (E D : Addr) : Prop := ∃ cd, PySem.W.clsIn K D = some cd ∧ cd.mro = .ref D :: above E
theorem he_mk {K : PySem.W.Frag} {h : Heap} {mg : Str → Option Value} {E : Addr} {nm qn : Str} {N : Addr} {bs : List Value} {sn : List Str} {sub : List Value} {ab : Bool} {col : Option Bool} {dd : Option Addr} {m0 m1 m2 m3 m5 : Option Value} (X : K.In h) (G : h.Ns mainGlobals mg)
    (aE : PySem.W.nsIn K mainGlobals "HouseError" = some (some (.ref E))) (ex : PySem.W.subIn K (.ref E) (.type "BaseException") = some true)
    (xL : K.lookup E = some (excClassObj nm qn E N bs [.type "ValueError", .type "Exception", .type "BaseException", .type "object"] true sn sub ab col dd m0 m1 m2 m3 m5 "ValueError.__new__")) (ty : PySem.W.typeIn K (.ref E) = some (.type "type")) : HE K mg E := by
  have cl : ∃ cd, PySem.W.clsIn K E = some cd ∧ cd.mro = above E := by
    unfold PySem.W.clsIn
    rw [xL]
    exact ⟨_, rfl, rfl⟩
  obtain ⟨cd, h1, h2⟩ := cl
  exact ⟨PySem.W.mg_of X G aE, ex, by rw [h1]; rfl, ty, by rw [h1, ← h2]; rfl⟩
theorem HE.ne {K : PySem.W.Frag} {mg : Str → Option Value} {E C : Addr} (h : HE K mg E) (c : Mro K E C) : C ≠ E := fun e => by
  obtain ⟨cd, h1, h2⟩ := c
  have := h.m
  rw [← e, h1] at this
  simp only [Option.map_some, Option.some.injEq] at this
  rw [h2] at this
  have := congrArg List.length this
  cases this
theorem exm_he {K : PySem.W.Frag} {mg : Str → Option Value} {D E : Addr} (hm : Mro K E D) (h : HE K mg E) : PySem.W.exmOne K (.ref D) (.ref E) = some true := by
  obtain ⟨cd, h1, h2⟩ := hm
  unfold PySem.W.exmOne
  rw [if_pos (by rw [h.ex]; rfl)]
  unfold PySem.W.kitCls
  simp only [h.cl, h.ty]
  rw [if_pos (by rfl)]
  show PySem.W.mroIn K D (.ref E) = _
  unfold PySem.W.mroIn
  rw [h1]
  show (if cd.mro.isEmpty then none else some (cd.mro.contains (.ref E))) = _
  rw [h2]
  simp
theorem kitR {K : PySem.W.Frag} {D E C : Addr} (hm : Mro K E D) (hC : (PySem.W.clsIn K C).isSome = true) (tC : PySem.W.typeIn K (.ref C) = some (.type "type")) : PySem.W.kitOne K (.ref D) (.ref C) = some (decide (C = D ∨ C = E)) := by
  obtain ⟨cd, h1, h2⟩ := hm
  unfold PySem.W.kitOne
  by_cases e : D = C
  · rw [if_pos (by rw [e]; exact beq_self_eq_true _)]
    simp [e]
  · rw [if_neg (by simpa using e)]
    unfold PySem.W.kitCls
    simp only [hC, tC]
    rw [if_pos (by rfl)]
    show PySem.W.mroIn K D (.ref C) = _
    unfold PySem.W.mroIn
    rw [h1]
    show (if cd.mro.isEmpty then none else some (cd.mro.contains (.ref C))) = _
    rw [h2]
    show some ((Value.ref D :: above E).contains (.ref C)) = _
    have e' : C ≠ D := fun z => e z.symm
    by_cases e2 : C = E <;> simp [e', e2]
theorem kitVE {K : PySem.W.Frag} {D E : Addr} (hm : Mro K E D) : PySem.W.kitOne K (.ref D) (.type "ValueError") = some true := by
  obtain ⟨cd, h1, h2⟩ := hm
  unfold PySem.W.kitOne
  rw [if_neg (by simp)]
  unfold PySem.W.kitCls
  simp only []
  rw [if_pos (by decide +kernel)]
  show PySem.W.mroIn K D (.type "ValueError") = _
  unfold PySem.W.mroIn
  rw [h1]
  show (if cd.mro.isEmpty then none else some (cd.mro.contains _)) = _
  rw [h2]
  show some ((Value.ref D :: above E).contains _) = _
  simp
/-- none of them -/
theorem kit_none {K : PySem.W.Frag} {t : Value} : ∀ {cs : List Value}, (∀ c ∈ cs, PySem.W.kitOne K t c = some false) → PySem.W.kitAny K t cs = some false
  | [], _ => rfl
  | c :: cs, h => by
    unfold PySem.W.kitAny
    rw [h c (List.mem_cons_self ..)]
    exact kit_none fun x hx => h x (List.mem_cons_of_mem _ hx)
/-- isinstance of the exception that a suite holds -/
structure HeldX (K : PySem.W.Frag) (cls : Value) (d : Option Addr) (D : Addr) (H : Hp) : Prop where
  c : cls = .ref D
  e : EC K D
  x : ∀ dx, d = some dx → ∃ fs, H dx = some (.xd fs)
def rIsC (K : PySem.W.Frag) (a : Addr) (cls : Value) (d : Option Addr) : List V → Hp → VK → Prop := fun xs H Q => ∃ (D : Addr) (c : V) (cv : Value) (b : Bool), xs = [.ref a, c] ∧ HeldX K cls d D H ∧ ClsV c cv ∧ PySem.W.kitOne K (.ref D) cv = some b ∧ Q (.bl b) H
def rIsT (K : PySem.W.Frag) (a : Addr) (cls : Value) (d : Option Addr) : List V → Hp → VK → Prop := fun xs H Q => ∃ (D t : Addr) (cs : List V) (cvs : List Value) (b : Bool), xs = [.ref a, .ref t] ∧ HeldX K cls d D H ∧ SqT K H t cs ∧ (∀ us, Vals cs us → us = cvs) ∧ PySem.W.kitAny K (.ref D) cvs = some b ∧ Q (.bl b) H
section
variable {X : Cx} {a : Addr} {oe : Obj} {pn : List (Addr × Obj)} {cls : Value} {d : Option Addr}
theorem held_inst {pins : List (Addr × Obj)} {σ : L2.St} {H : Hp} {s : Shared} {D : Addr} (I : Inv (X.suite a ((a, oe) :: pn)) pins σ H s) (hz : Zc cls d oe) (hf : ∃ vs, oe.data = .fields vs) (h : HeldX X.K cls d D H) : ∃ od, PySem.W.InstAt s.heap a oe D od := by
  obtain ⟨here, _⟩ := I.pin (a, oe) (List.mem_append_left _ (List.mem_cons_self ..))
  obtain ⟨vs, hv⟩ := hf
  have nc : PySem.W.notCls oe := by unfold PySem.W.notCls; rw [hv]
  cases d with
  | none => exact ⟨none, here, hz.1.trans h.c, nc, by rw [hz.2]; trivial⟩
  | some dx =>
    obtain ⟨fs, e⟩ := h.x dx rfl
    obtain ⟨mA, ns, _⟩ := (show ObjOk X.prog X.w H s.heap dx (.xd fs) from I.hok dx _ e)
    obtain ⟨od, ho, _⟩ := lookIn_ns ns
    exact ⟨some od, here, hz.1.trans h.c, nc, by rw [hz.2]; exact ho⟩
theorem call_isC (hz : Zc cls d oe) (hf : ∃ vs, oe.data = .fields vs) : CallR (X.suite a ((a, oe) :: pn)) (.builtin "isinstance") (rIsC X.K a cls d) := by
  rintro pins s σ H _ us Q I r ⟨D, c, cv, b, rfl, h, k, e, q⟩
  obtain ⟨ua, ub, rfl, ra, rb⟩ := vals2 r
  cases k.eq rb
  cases (show ua = Value.ref a from ra)
  obtain ⟨od, M⟩ := held_inst I hz hf h
  exact PySem.W.kia_one (PySem.W.kitx_exc h.e.cl h.e.x.ga h.e.x.gg h.e.x.exC h.e.ofc h.e.sp h.e.tk h.e.mo) I.kIn M e (fun z => nomatch z) fun tk => ⟨.bl b, H, I.tok tk, rfl, q⟩
theorem call_isT (hz : Zc cls d oe) (hf : ∃ vs, oe.data = .fields vs) : CallR (X.suite a ((a, oe) :: pn)) (.builtin "isinstance") (rIsT X.K a cls d) := by
  rintro pins s σ H _ us Q I r ⟨D, t, cs, cvs, b, rfl, h, ht, all, e, q⟩
  obtain ⟨ua, ub, rfl, ra, rb⟩ := vals2 r
  cases (show ua = Value.ref a from ra)
  cases (show ub = Value.ref t from rb)
  obtain ⟨od, M⟩ := held_inst I hz hf h
  obtain ⟨its, rv, ⟨⟨tc, dd, da, ss⟩, at0, c0, n, d0⟩, _⟩ := I.tuple ht
  cases c0
  cases d0
  cases all its rv
  exact PySem.W.kia_tup (PySem.W.kitx_exc h.e.cl h.e.x.ga h.e.x.gg h.e.x.exC h.e.ofc h.e.sp h.e.tk h.e.mo) I.kIn M at0 e (fun z => nomatch z) fun tk => ⟨.bl b, H, I.tok tk, rfl, q⟩
end
/-- two classes of unlike names are not one -/
theorem CF.ne {K : PySem.W.Frag} {mg : Str → Option Value} {x y q1 q2 : Str} {s1 s2 : Stmt} {p1 p2 : List Str} {E C1 C2 f1 f2 : Addr} {d1 d2 : FuncData} (a : CF K mg x q1 s1 p1 E C1 f1 d1) (b : CF K mg y q2 s2 p2 E C2 f2 d2) (n : q1 ≠ q2) : C1 ≠ C2 := fun e => by
  subst e
  have ef : f1 = f2 := by
    have := a.i.symm.trans b.i
    cases this
    rfl
  subst ef
  obtain ⟨oc, od, kV, doc, pm, an, c, ct, osl, rfl, l1, _⟩ := a.F.ex
  obtain ⟨oc', od', kV', doc', pm', an', c', ct', osl', rfl, l2, _⟩ := b.F.ex
  rw [l1] at l2
  simp only [Option.some.injEq, Obj.mk.injEq, Data.func.injEq] at l2
  exact n (by have := congrArg (·.qualname) l2.2.2.1; exact this)
end Fw
set_option maxHeartbeats 2000000
namespace Fw
open PySem PySem.Spec PyProof.Rows L2
/-- an error class that can be raised, with all that is told of it -/
structure Er1 (P : Program) (w : World) (K : PySem.W.Frag) (mg : Str → Option Value) (base : Heap) (x q fld : Str) (E C : Addr) : Prop where
  r : ErR P w K mg base x fld E C
  c : ∃ st f fd, CF K mg x q st ["self", fld] E C f fd
theorem Er1.ne {P : Program} {w : World} {K : PySem.W.Frag} {mg : Str → Option Value} {base : Heap} {x y q1 q2 f1 f2 : Str} {E C1 C2 : Addr} (a : Er1 P w K mg base x q1 f1 E C1) (b : Er1 P w K mg base y q2 f2 E C2) (n : q1 ≠ q2) : C1 ≠ C2 := by
  obtain ⟨_, _, _, a⟩ := a.c
  obtain ⟨_, _, _, b⟩ := b.c
  exact a.ne b n
/-- e of class C is no D -/
theorem Er1.isnt {P : Program} {w : World} {K : PySem.W.Frag} {mg : Str → Option Value} {base : Heap} {x y q1 q2 f1 f2 : Str} {E C1 C2 : Addr} (a : Er1 P w K mg base x q1 f1 E C1) (b : Er1 P w K mg base y q2 f2 E C2) (h : HE K mg E) (n : q1 ≠ q2) : PySem.W.kitOne K (.ref C1) (.ref C2) = some false := by
  rw [kitR a.r.mro b.r.e.cl b.r.e.o.tyC, decide_eq_false]
  rintro (e | e)
  · exact a.ne b n e.symm
  · exact h.ne b.r.mro e
theorem Er1.is {P : Program} {w : World} {K : PySem.W.Frag} {mg : Str → Option Value} {base : Heap} {x q1 f1 : Str} {E C1 : Addr} (a : Er1 P w K mg base x q1 f1 E C1) : PySem.W.kitOne K (.ref C1) (.ref C1) = some true := by
  rw [kitR a.r.mro a.r.e.cl a.r.e.o.tyC, decide_eq_true (.inl rfl)]
section
variable {P : Program} {w : World} {K : PySem.W.Frag} {mg : Str → Option Value} {base : Heap} {E : Addr}
theorem HE.names {X : Cx} {E : Addr} (h : HE X.K X.mg E) (g : Gl X "HouseError") : L2.Names X "HouseError" (.ref E) := ⟨g, by decide, .inl h.g⟩
theorem er1_UnknownPerson (c : CEE K mg E "UnknownPerson" "UnknownPerson.__init__" "name" iUnknownPerson) : ∃ C, Er1 P w K mg base "UnknownPerson" "UnknownPerson.__init__" "name" E C := by
  obtain ⟨C, f, fd, c, no⟩ := c
  refine ⟨C, ⟨c.e, c.g, c.mro, no, f, fd, c.i, c.t, c.b, ?_⟩, _, _, _, c⟩
  refine Fun.ok c.F (N := ["self", "name"]) ⟨rfl, rfl, rfl, by decide +kernel, rfl, by decide +kernel, by decide +kernel⟩ (fun vs H Q E h => ?_) (fun cdv A outer s H vs Q E hr h => ?_)
  · obtain ⟨a, v, rfl, _⟩ := h
    rfl
  · obtain ⟨a, v, rfl, ea, q⟩ := h
    exact ⟨_, pss_one (ps_ost (pv 0) (pv 1)), _, rfl, _, rfl, a, C, rfl, c.e.o, no, .inl ⟨ea, q⟩⟩
theorem er1_InvalidRoom (c : CEE K mg E "InvalidRoom" "InvalidRoom.__init__" "room" iInvalidRoom) : ∃ C, Er1 P w K mg base "InvalidRoom" "InvalidRoom.__init__" "room" E C := by
  obtain ⟨C, f, fd, c, no⟩ := c
  refine ⟨C, ⟨c.e, c.g, c.mro, no, f, fd, c.i, c.t, c.b, ?_⟩, _, _, _, c⟩
  refine Fun.ok c.F (N := ["self", "room"]) ⟨rfl, rfl, rfl, by decide +kernel, rfl, by decide +kernel, by decide +kernel⟩ (fun vs H Q E h => ?_) (fun cdv A outer s H vs Q E hr h => ?_)
  · obtain ⟨a, v, rfl, _⟩ := h
    rfl
  · obtain ⟨a, v, rfl, ea, q⟩ := h
    exact ⟨_, pss_one (ps_ost (pv 0) (pv 1)), _, rfl, _, rfl, a, C, rfl, c.e.o, no, .inl ⟨ea, q⟩⟩
theorem er1_NotAdjacent (c : CEE K mg E "NotAdjacent" "NotAdjacent.__init__" "room" iNotAdjacent) : ∃ C, Er1 P w K mg base "NotAdjacent" "NotAdjacent.__init__" "room" E C := by
  obtain ⟨C, f, fd, c, no⟩ := c
  refine ⟨C, ⟨c.e, c.g, c.mro, no, f, fd, c.i, c.t, c.b, ?_⟩, _, _, _, c⟩
  refine Fun.ok c.F (N := ["self", "room"]) ⟨rfl, rfl, rfl, by decide +kernel, rfl, by decide +kernel, by decide +kernel⟩ (fun vs H Q E h => ?_) (fun cdv A outer s H vs Q E hr h => ?_)
  · obtain ⟨a, v, rfl, _⟩ := h
    rfl
  · obtain ⟨a, v, rfl, ea, q⟩ := h
    exact ⟨_, pss_one (ps_ost (pv 0) (pv 1)), _, rfl, _, rfl, a, C, rfl, c.e.o, no, .inl ⟨ea, q⟩⟩
theorem er1_EmptyRoom (c : CEE K mg E "EmptyRoom" "EmptyRoom.__init__" "room" iEmptyRoom) : ∃ C, Er1 P w K mg base "EmptyRoom" "EmptyRoom.__init__" "room" E C := by
  obtain ⟨C, f, fd, c, no⟩ := c
  refine ⟨C, ⟨c.e, c.g, c.mro, no, f, fd, c.i, c.t, c.b, ?_⟩, _, _, _, c⟩
  refine Fun.ok c.F (N := ["self", "room"]) ⟨rfl, rfl, rfl, by decide +kernel, rfl, by decide +kernel, by decide +kernel⟩ (fun vs H Q E h => ?_) (fun cdv A outer s H vs Q E hr h => ?_)
  · obtain ⟨a, v, rfl, _⟩ := h
    rfl
  · obtain ⟨a, v, rfl, ea, q⟩ := h
    exact ⟨_, pss_one (ps_ost (pv 0) (pv 1)), _, rfl, _, rfl, a, C, rfl, c.e.o, no, .inl ⟨ea, q⟩⟩
theorem er1_InvalidMoves (c : CEE K mg E "InvalidMoves" "InvalidMoves.__init__" "position" iInvalidMoves) : ∃ C, Er1 P w K mg base "InvalidMoves" "InvalidMoves.__init__" "position" E C := by
  obtain ⟨C, f, fd, c, no⟩ := c
  refine ⟨C, ⟨c.e, c.g, c.mro, no, f, fd, c.i, c.t, c.b, ?_⟩, _, _, _, c⟩
  refine Fun.ok c.F (N := ["self", "position"]) ⟨rfl, rfl, rfl, by decide +kernel, rfl, by decide +kernel, by decide +kernel⟩ (fun vs H Q E h => ?_) (fun cdv A outer s H vs Q E hr h => ?_)
  · obtain ⟨a, v, rfl, _⟩ := h
    rfl
  · obtain ⟨a, v, rfl, ea, q⟩ := h
    exact ⟨_, pss_one (ps_ost (pv 0) (pv 1)), _, rfl, _, rfl, a, C, rfl, c.e.o, no, .inl ⟨ea, q⟩⟩
theorem er1_OtherRegion (c : CEE K mg E "OtherRegion" "OtherRegion.__init__" "room" iOtherRegion) : ∃ C, Er1 P w K mg base "OtherRegion" "OtherRegion.__init__" "room" E C := by
  obtain ⟨C, f, fd, c, no⟩ := c
  refine ⟨C, ⟨c.e, c.g, c.mro, no, f, fd, c.i, c.t, c.b, ?_⟩, _, _, _, c⟩
  refine Fun.ok c.F (N := ["self", "room"]) ⟨rfl, rfl, rfl, by decide +kernel, rfl, by decide +kernel, by decide +kernel⟩ (fun vs H Q E h => ?_) (fun cdv A outer s H vs Q E hr h => ?_)
  · obtain ⟨a, v, rfl, _⟩ := h
    rfl
  · obtain ⟨a, v, rfl, ea, q⟩ := h
    exact ⟨_, pss_one (ps_ost (pv 0) (pv 1)), _, rfl, _, rfl, a, C, rfl, c.e.o, no, .inl ⟨ea, q⟩⟩
theorem er1_TightRegion (c : CEE K mg E "TightRegion" "TightRegion.__init__" "room" iTightRegion) : ∃ C, Er1 P w K mg base "TightRegion" "TightRegion.__init__" "room" E C := by
  obtain ⟨C, f, fd, c, no⟩ := c
  refine ⟨C, ⟨c.e, c.g, c.mro, no, f, fd, c.i, c.t, c.b, ?_⟩, _, _, _, c⟩
  refine Fun.ok c.F (N := ["self", "room"]) ⟨rfl, rfl, rfl, by decide +kernel, rfl, by decide +kernel, by decide +kernel⟩ (fun vs H Q E h => ?_) (fun cdv A outer s H vs Q E hr h => ?_)
  · obtain ⟨a, v, rfl, _⟩ := h
    rfl
  · obtain ⟨a, v, rfl, ea, q⟩ := h
    exact ⟨_, pss_one (ps_ost (pv 0) (pv 1)), _, rfl, _, rfl, a, C, rfl, c.e.o, no, .inl ⟨ea, q⟩⟩
theorem er1_Blocked (c : CEE K mg E "Blocked" "Blocked.__init__" "block" iBlocked) : ∃ C, Er1 P w K mg base "Blocked" "Blocked.__init__" "block" E C := by
  obtain ⟨C, f, fd, c, no⟩ := c
  refine ⟨C, ⟨c.e, c.g, c.mro, no, f, fd, c.i, c.t, c.b, ?_⟩, _, _, _, c⟩
  refine Fun.ok c.F (N := ["self", "block"]) ⟨rfl, rfl, rfl, by decide +kernel, rfl, by decide +kernel, by decide +kernel⟩ (fun vs H Q E h => ?_) (fun cdv A outer s H vs Q E hr h => ?_)
  · obtain ⟨a, v, rfl, _⟩ := h
    rfl
  · obtain ⟨a, v, rfl, ea, q⟩ := h
    exact ⟨_, pss_one (ps_ost (pv 0) (pv 1)), _, rfl, _, rfl, a, C, rfl, c.e.o, no, .inl ⟨ea, q⟩⟩
theorem er1_InvalidName (c : CEE K mg E "InvalidName" "InvalidName.__init__" "name" iInvalidName) : ∃ C, Er1 P w K mg base "InvalidName" "InvalidName.__init__" "name" E C := by
  obtain ⟨C, f, fd, c, no⟩ := c
  refine ⟨C, ⟨c.e, c.g, c.mro, no, f, fd, c.i, c.t, c.b, ?_⟩, _, _, _, c⟩
  refine Fun.ok c.F (N := ["self", "name"]) ⟨rfl, rfl, rfl, by decide +kernel, rfl, by decide +kernel, by decide +kernel⟩ (fun vs H Q E h => ?_) (fun cdv A outer s H vs Q E hr h => ?_)
  · obtain ⟨a, v, rfl, _⟩ := h
    rfl
  · obtain ⟨a, v, rfl, ea, q⟩ := h
    exact ⟨_, pss_one (ps_ost (pv 0) (pv 1)), _, rfl, _, rfl, a, C, rfl, c.e.o, no, .inl ⟨ea, q⟩⟩
theorem er1_DuplicateName (c : CEE K mg E "DuplicateName" "DuplicateName.__init__" "name" iDuplicateName) : ∃ C, Er1 P w K mg base "DuplicateName" "DuplicateName.__init__" "name" E C := by
  obtain ⟨C, f, fd, c, no⟩ := c
  refine ⟨C, ⟨c.e, c.g, c.mro, no, f, fd, c.i, c.t, c.b, ?_⟩, _, _, _, c⟩
  refine Fun.ok c.F (N := ["self", "name"]) ⟨rfl, rfl, rfl, by decide +kernel, rfl, by decide +kernel, by decide +kernel⟩ (fun vs H Q E h => ?_) (fun cdv A outer s H vs Q E hr h => ?_)
  · obtain ⟨a, v, rfl, _⟩ := h
    rfl
  · obtain ⟨a, v, rfl, ea, q⟩ := h
    exact ⟨_, pss_one (ps_ost (pv 0) (pv 1)), _, rfl, _, rfl, a, C, rfl, c.e.o, no, .inl ⟨ea, q⟩⟩
theorem er1_LimitReached (c : CEE K mg E "LimitReached" "LimitReached.__init__" "limit" iLimitReached) : ∃ C, Er1 P w K mg base "LimitReached" "LimitReached.__init__" "limit" E C := by
  obtain ⟨C, f, fd, c, no⟩ := c
  refine ⟨C, ⟨c.e, c.g, c.mro, no, f, fd, c.i, c.t, c.b, ?_⟩, _, _, _, c⟩
  refine Fun.ok c.F (N := ["self", "limit"]) ⟨rfl, rfl, rfl, by decide +kernel, rfl, by decide +kernel, by decide +kernel⟩ (fun vs H Q E h => ?_) (fun cdv A outer s H vs Q E hr h => ?_)
  · obtain ⟨a, v, rfl, _⟩ := h
    rfl
  · obtain ⟨a, v, rfl, ea, q⟩ := h
    exact ⟨_, pss_one (ps_ost (pv 0) (pv 1)), _, rfl, _, rfl, a, C, rfl, c.e.o, no, .inl ⟨ea, q⟩⟩
theorem er1_AlreadyAdjacent (c : CEE K mg E "AlreadyAdjacent" "AlreadyAdjacent.__init__" "room" iAlreadyAdjacent) : ∃ C, Er1 P w K mg base "AlreadyAdjacent" "AlreadyAdjacent.__init__" "room" E C := by
  obtain ⟨C, f, fd, c, no⟩ := c
  refine ⟨C, ⟨c.e, c.g, c.mro, no, f, fd, c.i, c.t, c.b, ?_⟩, _, _, _, c⟩
  refine Fun.ok c.F (N := ["self", "room"]) ⟨rfl, rfl, rfl, by decide +kernel, rfl, by decide +kernel, by decide +kernel⟩ (fun vs H Q E h => ?_) (fun cdv A outer s H vs Q E hr h => ?_)
  · obtain ⟨a, v, rfl, _⟩ := h
    rfl
  · obtain ⟨a, v, rfl, ea, q⟩ := h
    exact ⟨_, pss_one (ps_ost (pv 0) (pv 1)), _, rfl, _, rfl, a, C, rfl, c.e.o, no, .inl ⟨ea, q⟩⟩
theorem er1_WouldFormCycle (c : CEE K mg E "WouldFormCycle" "WouldFormCycle.__init__" "room" iWouldFormCycle) : ∃ C, Er1 P w K mg base "WouldFormCycle" "WouldFormCycle.__init__" "room" E C := by
  obtain ⟨C, f, fd, c, no⟩ := c
  refine ⟨C, ⟨c.e, c.g, c.mro, no, f, fd, c.i, c.t, c.b, ?_⟩, _, _, _, c⟩
  refine Fun.ok c.F (N := ["self", "room"]) ⟨rfl, rfl, rfl, by decide +kernel, rfl, by decide +kernel, by decide +kernel⟩ (fun vs H Q E h => ?_) (fun cdv A outer s H vs Q E hr h => ?_)
  · obtain ⟨a, v, rfl, _⟩ := h
    rfl
  · obtain ⟨a, v, rfl, ea, q⟩ := h
    exact ⟨_, pss_one (ps_ost (pv 0) (pv 1)), _, rfl, _, rfl, a, C, rfl, c.e.o, no, .inl ⟨ea, q⟩⟩
theorem er1_BatchFailed (c : CEE K mg E "BatchFailed" "BatchFailed.__init__" "position" iBatchFailed) : ∃ C, Er1 P w K mg base "BatchFailed" "BatchFailed.__init__" "position" E C := by
  obtain ⟨C, f, fd, c, no⟩ := c
  refine ⟨C, ⟨c.e, c.g, c.mro, no, f, fd, c.i, c.t, c.b, ?_⟩, _, _, _, c⟩
  refine Fun.ok c.F (N := ["self", "position"]) ⟨rfl, rfl, rfl, by decide +kernel, rfl, by decide +kernel, by decide +kernel⟩ (fun vs H Q E h => ?_) (fun cdv A outer s H vs Q E hr h => ?_)
  · obtain ⟨a, v, rfl, _⟩ := h
    rfl
  · obtain ⟨a, v, rfl, ea, q⟩ := h
    exact ⟨_, pss_one (ps_ost (pv 0) (pv 1)), _, rfl, _, rfl, a, C, rfl, c.e.o, no, .inl ⟨ea, q⟩⟩
theorem er1_InvalidMoment (c : CEE K mg E "InvalidMoment" "InvalidMoment.__init__" "position" iInvalidMoment) : ∃ C, Er1 P w K mg base "InvalidMoment" "InvalidMoment.__init__" "position" E C := by
  obtain ⟨C, f, fd, c, no⟩ := c
  refine ⟨C, ⟨c.e, c.g, c.mro, no, f, fd, c.i, c.t, c.b, ?_⟩, _, _, _, c⟩
  refine Fun.ok c.F (N := ["self", "position"]) ⟨rfl, rfl, rfl, by decide +kernel, rfl, by decide +kernel, by decide +kernel⟩ (fun vs H Q E h => ?_) (fun cdv A outer s H vs Q E hr h => ?_)
  · obtain ⟨a, v, rfl, _⟩ := h
    rfl
  · obtain ⟨a, v, rfl, ea, q⟩ := h
    exact ⟨_, pss_one (ps_ost (pv 0) (pv 1)), _, rfl, _, rfl, a, C, rfl, c.e.o, no, .inl ⟨ea, q⟩⟩
theorem er1_InvalidText (c : CEE K mg E "InvalidText" "InvalidText.__init__" "position" iInvalidText) : ∃ C, Er1 P w K mg base "InvalidText" "InvalidText.__init__" "position" E C := by
  obtain ⟨C, f, fd, c, no⟩ := c
  refine ⟨C, ⟨c.e, c.g, c.mro, no, f, fd, c.i, c.t, c.b, ?_⟩, _, _, _, c⟩
  refine Fun.ok c.F (N := ["self", "position"]) ⟨rfl, rfl, rfl, by decide +kernel, rfl, by decide +kernel, by decide +kernel⟩ (fun vs H Q E h => ?_) (fun cdv A outer s H vs Q E hr h => ?_)
  · obtain ⟨a, v, rfl, _⟩ := h
    rfl
  · obtain ⟨a, v, rfl, ea, q⟩ := h
    exact ⟨_, pss_one (ps_ost (pv 0) (pv 1)), _, rfl, _, rfl, a, C, rfl, c.e.o, no, .inl ⟨ea, q⟩⟩
end
end Fw
namespace Fw
open PySem PySem.Spec PyProof.Rows L2
/-- a statement that raises nothing, in a def that may raise -/
theorem ps_calm {X : Cx} {st : Stmt} {t : TS} (h : PS X.nox st t) : PS X st t := by
  constructor
  intro pins z σ H D I rd
  exact wpAny_mono (h.run pins z σ H D (I.wish _) rd) (fun _ _ => L2.SP.unwish) fun _ _ no => no.elim
section
variable {P : Program} {w : World} {K : PySem.W.Frag} {mg : Str → Option Value} {base : Heap}
/-- region_of of any room: the region, or the error -/
def spRegOfX (C : Addr) : Sp := fun vs H Q E => ∃ (h p : Addr) (n : Int) (D : List (Int × Int)) (P : List (Str × Int)) (r : Int), vs = [.ref h, .ref p, .int r] ∧ HouseAt H h n D ∧ Forest n D ∧ 0 ≤ n ∧ n ≤ 8 ∧ PlAt H p P ∧ Pl n P ∧ P.length ≤ 100 ∧
  (r ∈ P.map (·.2) → ∀ H' t l, Same H H' → H' t = some (.tup (vi l)) → IsC D (occ n P) r l → l.length ≤ 8 → Q (.ref t) H') ∧
  (r ∉ P.map (·.2) → ∀ d H', Same H H' → H' d = some (.xd [("room", .int r)]) → E (.ref C) (some d) H')
theorem ok_regofX {f : Addr} {fd : FuncData} {k : Nat} {E0 C : Addr} (F : Fun K "region_of" "region_of" sRegOf f fd) (Cfind_regions : Cal P w K mg base (k + 4) "find_regions" pHP spFReg) (RE : ErR P w K mg base "EmptyRoom" "room" E0 C) : FnOk P w K mg base (L2.CX P w) (k + 5) f fd pRegOf (spRegOfX C) := by
  refine F.okX scRegOf (fun vs H Q E h => ?_) (fun cdv A outer s H vs Q E hr h => ?_)
  · obtain ⟨h, p, n, D, P, r, rfl, _⟩ := h
    rfl
  · obtain ⟨h, p, n, D, P, r, rfl, hH, hF, n0, n1, hP, pl, lP, q, qE⟩ := h
    refine ⟨_, (pss_cons (ps_calm (ps_for PassesOwn.never rfl (pi_tup (pe_cal Cfind_regions hr (by rfl) (pa_cons (pv 0) (pa_cons (pv 1) pa_nil)))) (pg_name (i := 3) scRegOf.nd rfl (.inl rfl))
      (pss_one (ps_if (pt_cmpR (op_inK K rfl) (pv 2) (pv 3) (by rfl))
       (pss_one (ps_ret (pv 3)))
       pss_nil))))
      (pss_one (ps_raise rfl (takes_of rfl rfl rfl rfl) (pmk_er RE hr (by rfl) (pv 2))))), ?_⟩
    refine ⟨_, rfl, _, rfl, h, p, n, D, P, rfl, hH, hF, n0, n1, hP, lP, fun H1 t Cs s1 rg => ?_⟩
    refine ⟨t, rfl, ⟨_, SqT.of rg.1⟩, for_tup (K := K) (a := t) (xs := refs Cs) (fun i σ' H' => ∃ y3, σ' = [some (.ref h), some (.ref p), some (.int r), y3] ∧ H' = H1 ∧ ∀ c ∈ Cs.take i, r ∉ c.2) ⟨_, rfl, rfl, fun x hx => by cases hx⟩ ?_ ?_ ?_⟩
    · rintro i σ' H' _ ⟨_, _, rfl, _⟩
      exact SqT.of rg.1
    · rintro i x σ' H' hx ⟨y3, rfl, rfl, hn⟩
      obtain ⟨c, hc, rfl⟩ := get_refs hx
      have mc := List.mem_of_getElem? hc
      refine ⟨_, rfl, _, rfl, c.1, _, rfl, .inr (SqT.of (rg.2.1 c mc).1), rfl, flat_vi _, _, rfl, ?_⟩
      rw [if_neg (by decide), inV_vi]
      refine ite2 (fun z => ?_) (fun z => ?_)
      · have z : r ∈ c.2 := of_decide_eq_true z
        have ic := (rg.2.2.2.has (List.mem_map_of_mem (f := (·.2)) mc) z).2
        have ho : r ∈ occ n P := (rg.2.2.2.has (List.mem_map_of_mem (f := (·.2)) mc) z).1
        exact ⟨_, rfl, q (pl.mem_occ.mp ho) _ c.1 c.2 s1 (rg.2.1 c mc).1 ic (ic.len ho n1)⟩
      · have z : r ∉ c.2 := fun e => z (decide_eq_true e)
        refine ⟨_, rfl, rfl, fun d hd => ?_⟩
        rw [take_snoc hc, List.mem_append] at hd
        rcases hd with hd | hd
        · exact hn d hd
        · rw [List.mem_singleton.mp hd]
          exact z
    · rintro σ' H' ⟨y3, rfl, rfl, hn⟩
      have : (refs Cs).length = Cs.length := by unfold refs; rw [List.length_map]
      rw [this, List.take_length] at hn
      have no : r ∉ P.map (·.2) := fun m => by
        obtain ⟨l, hl, hr'⟩ := rg.2.2.2.ex (occ_up n P) (pl.mem_occ.mpr m)
        obtain ⟨c, hc, rfl⟩ := List.mem_map.mp hl
        exact hn c hc hr'
      exact ⟨_, rfl, raise_end fun d H2 s2 e2 => qE no d H2 (s1.trans s2) e2⟩
end
end Fw
set_option maxHeartbeats 2000000
namespace Fw
open PySem PySem.Spec PyProof.Rows L2
/-! try: .. except A as e: .. except (B, C) as e: .. , where it surely is one of them -/
/-- the name of the clause is gone at the end -/
abbrev gone (i : Nat) (D : Ends) : Ends := { nx := fun σ' H' => D.nx (σ'.set i none) H', rt := D.rt, bk := fun σ' H' => D.bk (σ'.set i none) H', ct := fun σ' H' => D.ct (σ'.set i none) H' }
section
variable {X : Cx} {pins : List (Addr × Obj)} {B : Heap} {a : Addr} {cls : Value} {d : Option Addr} {σ : L2.St} {H : Hp} {z : Shared}
theorem Air.named {i : Nat} {n : Str} {b₀ : Stmt} {u : List Stmt} {q : Pos} {t : TS} {D : Ends} (y : Air X pins B a cls d σ H z) (ok : X.Ok) (fr : X.env.frame = some X.env.locals) (hN : X.N.Nodup) (hi : X.N[i]? = some n) (hl : X.env.kindOf n = some .local)
    (su : ∀ (oe : Obj) (pn : List (Addr × Obj)), Zc cls d oe → (∃ l, oe.data = .fields l) → PSs (X.suite a ((a, oe) :: pn)) (b₀ :: u) t) (w : t (gone i D) (σ.set i (some (.ref a))) H) :
    codeAny (model X.prog X.w) (X.A.mark (some (.ref a))) (.handlers (.ref a) [.ExceptHandler none (some n) (b₀ :: u) q] X.env) (fun r z2 => match r with
      | .ok f => wpAny (model X.prog X.w) X.A (do bindName X.env n .none; unbindBehindTheSuite X.env n q) (fun _ z3 => L2.SP X pins D f z3) X.xe z2
      | .error x => cameBackBy (model X.prog X.w) X.A X.env X.xe x z2) z := by
  refine codeAny_handlers_suite_as (HandSPX.lands_againZ y.fly fun h3 f3 u3 => ?_)
  obtain ⟨oe, _, zc, fd, J⟩ := (y.step f3 u3).hold fr
  refine store_ok (X := X.suite a ((a, oe) :: (X.pn ++ pins))) (v := .ref a) J hN hi (.inl hl) rfl (fun z5 S5 => ?_) (.inr hl)
  refine wpAny_mono ((su oe (X.pn ++ pins) zc fd).run [] z5 _ H _ S5 w) (fun f z6 r => ?_) fun _ _ no => no.elim
  match f, r with
  | .next, ⟨t1, G, S6, w6⟩ | .brk, ⟨t1, G, S6, w6⟩ | .cont, ⟨t1, G, S6, w6⟩ => exact gone_ok (S6.unsuite ok) hN hi hl fun _ J7 => ⟨_, _, J7, w6⟩
  | .ret v, ⟨v6, t1, G, S6, r6, w6⟩ => exact gone_ok (S6.unsuite ok) hN hi hl fun _ J7 => ⟨_, _, _, J7, r6, w6⟩
end
theorem ps_try_three {X : Cx} {body : List Stmt} {x0 x1 x2 n : Str} {c0 c1 c2 : Value} {i : Nat} {b₀ b₁ : Stmt} {u₀ u₁ : List Stmt} {p0 p1 p2 tpos q0 q1 pos : Pos} {kk : Nat} {tb : WX → TS} {t₀ t₁ : Addr → Value → Option Addr → TS} (st : X.stack = X.env :: X.outer) (fr : X.env.frame = some X.env.locals)
    (hN : X.N.Nodup) (hi : X.N[i]? = some n) (hl : X.env.kindOf n = some .local) (n0 : L2.Names X x0 c0) (n1 : L2.Names X x1 c1) (n2 : L2.Names X x2 c2)
    (hb : ∀ (W : WX) (pn : List (Addr × Obj)) (xe : Value → Shared → Prop), Takes (X.tr pn xe) W → PassesOwn (model X.prog X.w) X.A X.env xe → PSs (X.tr pn xe) body (tb W))
    (s0 : ∀ (a : Addr) (oe : Obj) (cls : Value) (d : Option Addr) (pn : List (Addr × Obj)), Zc cls d oe → (∃ l, oe.data = .fields l) → PSs (X.suite a ((a, oe) :: pn)) (b₀ :: u₀) (t₀ a cls d))
    (s1 : ∀ (a : Addr) (oe : Obj) (cls : Value) (d : Option Addr) (pn : List (Addr × Obj)), Zc cls d oe → (∃ l, oe.data = .fields l) → PSs (X.suite a ((a, oe) :: pn)) (b₁ :: u₁) (t₁ a cls d)) :
    PS X (.Try body [.ExceptHandler (some (.Name x0 p0)) (some n) (b₀ :: u₀) q0, .ExceptHandler (some (.Tuple [.Name x1 p1, .Name x2 p2] kk tpos)) (some n) (b₁ :: u₁) q1] [] [] pos)
      (fun D σ H => tb (fun cls d σ' H' => ∃ b, PySem.W.exmOne X.K cls c0 = some b ∧ (b = true → ∀ a, H' a = none → t₀ a cls d (gone i D) (σ'.set i (some (.ref a))) H') ∧
        (b = false → PySem.W.exmAny X.K cls [c1, c2] = some true ∧ ∀ a, H' a = none → t₁ a cls d (gone i D) (σ'.set i (some (.ref a))) H')) D σ H) := by
  constructor
  intro pins z σ H D I rd
  have ok := I.ok
  have caught : ∀ (xe : Value → Shared → Prop) (u : Value) (y : Shared), XE (X.tr (X.pn ++ pins) xe) (fun cls d σ' H' => ∃ b, PySem.W.exmOne X.K cls c0 = some b ∧ (b = true → ∀ a, H' a = none → t₀ a cls d (gone i D) (σ'.set i (some (.ref a))) H') ∧
        (b = false → PySem.W.exmAny X.K cls [c1, c2] = some true ∧ ∀ a, H' a = none → t₁ a cls d (gone i D) (σ'.set i (some (.ref a))) H')) u y →
      wpAny (model X.prog X.w) X.A (noteFrame u X.env) (fun _ y1 => wpAny (model X.prog X.w) X.A (setFlight u none) (fun _ y2 =>
        wpAny (model X.prog X.w) X.A (handleBy u X.env [.ExceptHandler (some (.Name x0 p0)) (some n) (b₀ :: u₀) q0, .ExceptHandler (some (.Tuple [.Name x1 p1, .Name x2 p2] kk tpos)) (some n) (b₁ :: u₁) q1]) (L2.SP X pins D) X.xe y2) X.xe y1) X.xe y := by
    intro xe u y air
    refine air_of st fr ok air fun B a cls d σ1 H1 y1 eu y1a w => ?_
    subst eu
    obtain ⟨b, hb1, yes, no⟩ := w
    obtain ⟨oe, at1, zc, _, _⟩ := y1a.hold fr
    have kind1 : PySem.W.Looks (model X.prog X.w) y1.heap (typeOf (.ref a)) cls := fun _ _ _ _ keep w => wpAny_typeOf_ref (keep _ _ at1) (zc.1.symm ▸ w)
    refine wpAny_handleBy_cons (codeAny_handlers_test (y1a.name fr n0 ((PySem.W.exm_one (M := model X.prog X.w) y1a.inv.kIn kind1 hb1).here ?_))) fun e => nomatch e
    cases b with
    | true => exact y1a.named ok fr hN hi hl (fun oe pn => s0 a oe cls d pn) (yes rfl a y1a.free)
    | false =>
      obtain ⟨any, go⟩ := no rfl
      show wpAny _ X.A (handleBy (.ref a) X.env [.ExceptHandler (some (.Tuple [.Name x1 p1, .Name x2 p2] kk tpos)) (some n) (b₁ :: u₁) q1]) _ _ _
      refine wpAny_handleBy_cons (codeAny_handlers_test (wpAny_Tuple (wpAny_items_cons (y1a.name fr n1 (wpAny_items_cons (y1a.name fr n2 (wpAny_items_nil ⟨?_, ?_⟩))))))) fun e => nomatch e
      · show 2 ≤ sizeLine
        decide
      have y2a := y1a.push { cls := .type "tuple", data := .seq [c1, c2].toArray }
      obtain ⟨oe2, at2, zc2, _, _⟩ := y2a.hold fr
      have kind2 : PySem.W.Looks (model X.prog X.w) (y1.heap.push { cls := .type "tuple", data := .seq [c1, c2].toArray }) (typeOf (.ref a)) cls := fun _ _ _ _ keep w => wpAny_typeOf_ref (keep _ _ at2) (zc2.1.symm ▸ w)
      exact (PySem.W.exm_tup2 y2a.inv.kIn kind2 (Heap.get?_push_size _ rfl) any).here (y2a.named ok fr hN hi hl (fun oe pn => s1 a oe cls d pn) (go a y2a.free))
  refine wpAny_Try_except (wpAny_mono ((hb _ (X.pn ++ pins) _ (fun u y air => caught _ u y air) PassesOwn.looking).run [] z σ H D (I.toTry _) rd) (fun f y r => ?_) fun _ _ r => r)
  have r := sp_body ok r
  match f, r with
  | .next, r => exact wpAny_execs_nil r
  | .brk, r | .cont, r | .ret _, r => exact r
end Fw
set_option maxHeartbeats 2000000
namespace Fw
open PySem PySem.Spec PyProof.Rows L2
/-! a def that is given the error which is being handled -/
/-- a promise by the error's address, its class, its dict -/
abbrev SpE := Addr → Value → Option Addr → Sp
structure FnE (P : Program) (w : World) (K : PySem.W.Frag) (mg : Str → Option Value) (base : Heap) (k : Nat) (f : Addr) (fd : FuncData) (ps : List Str) (sp : SpE) : Prop where
  len : ∀ a c d vs H Q, sp a c d vs H Q E0 → vs.length = ps.length
  run : ∀ (A : Around) (outer : List Env) (s : Shared) (H : Hp) (args : Args) (us : List Value) (vs : List V) (Q : VK) (p : Addr × Obj) (c : Value) (d : Option Addr), L2H.RoomH k A → Zc c d p.2 → (∃ l, p.2.data = .fields l) → L2H.PinOk outer H s p → Env0 P w K mg base A outer s H →
    BindsTo s fd args (ps.zip us) → Vals vs us → sp p.1 c d vs H Q E0 → codeAny (model P w) A (.call (.ref f) args) (CR CX0 outer P w H s Q E0) s
section
variable {P : Program} {w : World} {K : PySem.W.Frag} {mg : Str → Option Value} {base : Heap}
theorem Fun.okE {x qual : Str} {st : Stmt} {f : Addr} {fd : FuncData} {N ps : List Str} {k : Nat} {sp : SpE} (F : Fun K x qual st f fd) (S : FnScope N ps (defScope st)) (len : ∀ a c d vs H Q, sp a c d vs H Q E0 → vs.length = ps.length)
    (body : ∀ (cdv : Value) (A : Around) (outer : List Env) (s : Shared) (H : Hp) (vs : List V) (Q : VK) (p : Addr × Obj) (c : Value) (d : Option Addr), Zc c d p.2 → (∃ l, p.2.data = .fields l) → L2H.RoomH k (A.deeper (envOfC qual (defScope st) s.heap.objs.size f cdv)) → sp p.1 c d vs H Q E0 →
      ∃ t, PSs (L2H.cxH CX0 P w K mg base N qual (defScope st) f cdv A outer s H E0 p) (defBody st) t ∧ t { nx := fun _ H' => Q .non H', rt := Q } (L2.start N vs) H) : FnE P w K mg base (k + 1) f fd ps sp := by
  obtain ⟨oc, od, kV, doc, pm, an, cdv, ct, osl, rfl, lk, code⟩ := F.ex
  constructor
  · exact len
  intro A outer z H args us vs Q p c d room hz hf pin env bnd rel want
  have stay : ∀ b o, base.get? b = some o → z.heap.get? b = some o := fun b o e => (env.bs b o e).1
  have here : K.In z.heap := env.mod.kin.keeps stay
  obtain ⟨t, walk, wish⟩ := body cdv A outer z H vs Q p c d hz hf (room.deeper _) want
  refine codeAny_call_function room.depth (here _ _ lk) rfl S.co S.gen rfl (PySem.W.codeRec_of here code) (bnd _ _ _ _ (wpAny_newFunctionEnv_cells S.kind ?par ?go))
  case par =>
    rintro ⟨y, v⟩ hy
    cases S.par y (List.of_mem_zip hy).1 with
    | inl l => exact .inl l
    | inr l => exact .inr ⟨l, PySem.W.cellsFrom_some _ _ _ (.inl l)⟩
  case go =>
    rintro env' rfl z1 inside
    refine ⟨(env.mod.nolimit.keeps stay).keeps inside.toInCall.keep, codeAny_func (wpAny_mono (walk.run [] z1 _ H _ (L2H.inv_startH (CX := CX0) (E := E0) S pin env (len _ _ _ _ _ _ want) rel inside) wish) ?_ fun _ _ no => no)⟩
    intro fl z2 out
    match fl, out with
    | .ret u, ⟨v, σ', H', J, rv, q⟩ => exact ⟨v, H', J.os, J.bare, J.base, J.hok, rv, q⟩
    | .next, ⟨σ', H', J, q⟩ => exact ⟨V.non, H', J.os, J.bare, J.base, J.hok, rfl, q⟩
    | .brk, ⟨_, _, _, no⟩ => exact no.elim
    | .cont, ⟨_, _, _, no⟩ => exact no.elim
/-- such a def, by its name -/
def CalE (P : Program) (w : World) (K : PySem.W.Frag) (mg : Str → Option Value) (base : Heap) (k : Nat) (x : Str) (ps : List Str) (sp : SpE) : Prop :=
  ∃ f fd, mg x = some (.ref f) ∧ PySem.W.keepIn K (.ref f) = true ∧ Binds K fd ps [] ∧ FnE P w K mg base k f fd ps sp
theorem DefE.calE {x : Str} {st : Stmt} {ps : List Str} {k : Nat} {sp : SpE} (D : DefE K mg x st ps) (h : ∀ f fd, Def K mg x st f fd ps → FnE P w K mg base k f fd ps sp) : CalE P w K mg base k x ps sp := by
  obtain ⟨f, fd, d⟩ := D
  exact ⟨f, fd, d.g, d.F.kp, d.b, h f fd d⟩
end
section
variable {X : Cx} {a : Addr} {oe : Obj} {pn : List (Addr × Obj)} {cls : Value} {d : Option Addr}
/-- the call of such a def in an except suite -/
def tCalE (sp : SpE) (a : Addr) (cls : Value) (d : Option Addr) (t : TA) : TE := fun σ H Q => t σ H fun vs H1 => sp a cls d vs H1 Q E0
theorem pe_calE {k : Nat} {x : Str} {ps : List Str} {sp : SpE} {e : Expr} {es : List Expr} {t : TA} {q pos : Pos} (hz : Zc cls d oe) (hf : ∃ l, oe.data = .fields l) (C : CalE X.prog X.w X.K X.mg X.base k x ps sp) (hr : Room k X.A) (hg : Gl X x)
    (ha : PA (X.suite a ((a, oe) :: pn)) (e :: es) t) (hdb : (x == ("__debug__" : Str)) = false := by decide) (h1 : starEach (e :: es) X.env = (false, eval e X.env) :: starEach es X.env := by rfl) (h2 : (backTo pos (starEach es X.env)).any (·.1) = false := by rfl) :
    PE (X.suite a ((a, oe) :: pn)) (.Call (.Name x q) (e :: es) [] pos) (tCalE sp a cls d t) := by
  obtain ⟨f, fd, g, kp, bd, F⟩ := C
  constructor
  intro pins z σ H Q I h
  refine wpAny_Call_Name_kw (ld_glob I hg g (PySem.W.callWith_K (h₀ := X.base) I.ok.mod.kin kp (thn (ha.run pos pins z σ H _ I h) ?_) h1 h2) hdb)
  rintro us z1 ⟨vs, H1, J, rel, want⟩
  refine ⟨J.kIn, ?_⟩
  have ln : us.length = ps.length := by rw [← rel.length]; exact F.len _ _ _ _ _ _ want
  have b := bd z1 us J.kIn (by rw [List.append_nil]; exact ln)
  rw [List.append_nil] at b
  obtain ⟨g1, g2, g3, g4, g5⟩ := J.pin (a, oe) (List.mem_append_left _ List.mem_cons_self)
  have pin : L2H.PinOk (X.suite a ((a, oe) :: pn)).stack H1 z1 (a, oe) := ⟨g1, g2, fun m => (List.mem_cons.mp (J.stkSub a m)).elim g3 g4, g5⟩
  refine wpAny_call (codeAny_mono (F.run _ _ z1 H1 ⟨us, []⟩ us vs Q (a, oe) cls d ⟨hr.dp, hr.un⟩ hz hf pin J.env0 b rel want) ?_)
  intro r z2 out
  match r, out with
  | .error _, no => exact no.elim
  | .ok .next, no => exact no.elim
  | .ok .brk, no => exact no.elim
  | .ok .cont, no => exact no.elim
  | .ok (.ret u), got => exact J.after got
end
/-! isinstance of an error that the context holds -/
section
variable {X : Cx} {a : Addr} {oe : Obj} {cls : Value} {d : Option Addr}
theorem pin_inst {pins : List (Addr × Obj)} {σ : L2.St} {H : Hp} {s : Shared} {D : Addr} (m : (a, oe) ∈ X.pn) (I : Inv X pins σ H s) (hz : Zc cls d oe) (hf : ∃ l, oe.data = .fields l) (h : HeldX X.K cls d D H) : ∃ od, PySem.W.InstAt s.heap a oe D od := by
  obtain ⟨here, _⟩ := I.pin (a, oe) (List.mem_append_left _ m)
  obtain ⟨l, hl⟩ := hf
  have nc : PySem.W.notCls oe := by unfold PySem.W.notCls; rw [hl]
  cases d with
  | none => exact ⟨none, here, hz.1.trans h.c, nc, by rw [hz.2]; trivial⟩
  | some dx =>
    obtain ⟨fs, e⟩ := h.x dx rfl
    obtain ⟨mA, ns, _⟩ := (show ObjOk X.prog X.w H s.heap dx (.xd fs) from I.hok dx _ e)
    obtain ⟨od, ho, _⟩ := lookIn_ns ns
    exact ⟨some od, here, hz.1.trans h.c, nc, by rw [hz.2]; exact ho⟩
theorem call_isCp (K : PySem.W.Frag) (hK : X.K = K) (m : (a, oe) ∈ X.pn) (hz : Zc cls d oe) (hf : ∃ l, oe.data = .fields l) : CallR X (.builtin "isinstance") (rIsC K a cls d) := by
  subst hK
  rintro pins s σ H _ us Q I r ⟨D, c, cv, b, rfl, h, k, e, q⟩
  obtain ⟨ua, ub, rfl, ra, rb⟩ := vals2 r
  cases k.eq rb
  cases (show ua = Value.ref a from ra)
  obtain ⟨od, M⟩ := pin_inst m I hz hf h
  exact PySem.W.kia_one (PySem.W.kitx_exc h.e.cl h.e.x.ga h.e.x.gg h.e.x.exC h.e.ofc h.e.sp h.e.tk h.e.mo) I.kIn M e (fun z => nomatch z) fun tk => ⟨.bl b, H, I.tok tk, rfl, q⟩
theorem call_isTp (K : PySem.W.Frag) (hK : X.K = K) (m : (a, oe) ∈ X.pn) (hz : Zc cls d oe) (hf : ∃ l, oe.data = .fields l) : CallR X (.builtin "isinstance") (rIsT K a cls d) := by
  subst hK
  rintro pins s σ H _ us Q I r ⟨D, t, cs, cvs, b, rfl, h, ht, all, e, q⟩
  obtain ⟨ua, ub, rfl, ra, rb⟩ := vals2 r
  cases (show ua = Value.ref a from ra)
  cases (show ub = Value.ref t from rb)
  obtain ⟨od, M⟩ := pin_inst m I hz hf h
  obtain ⟨its, rv, ⟨⟨tc, dd, da, ss⟩, at0, c0, n, d0⟩, _⟩ := I.tuple ht
  cases c0
  cases d0
  cases all its rv
  exact PySem.W.kia_tup (PySem.W.kitx_exc h.e.cl h.e.x.ga h.e.x.gg h.e.x.exC h.e.ofc h.e.sp h.e.tk h.e.mo) I.kIn M at0 e (fun z => nomatch z) fun tk => ⟨.bl b, H, I.tok tk, rfl, q⟩
end
end Fw
set_option maxHeartbeats 4000000
namespace Fw
open PySem PySem.Spec PyProof.Rows L2
/-! the class of the handled error, told by a def -/
structure Er (K : PySem.W.Frag) (mg : Str → Option Value) (x q : Str) (E C : Addr) : Prop where
  c : ∃ st ps f fd, CF K mg x q st ps E C f fd
theorem Er.g {K : PySem.W.Frag} {mg : Str → Option Value} {x q : Str} {E C : Addr} (r : Er K mg x q E C) : mg x = some (.ref C) := by
  obtain ⟨_, _, _, _, c⟩ := r.c
  exact c.g
theorem Er.e {K : PySem.W.Frag} {mg : Str → Option Value} {x q : Str} {E C : Addr} (r : Er K mg x q E C) : EC K C := by
  obtain ⟨_, _, _, _, c⟩ := r.c
  exact c.e
theorem Er.mro {K : PySem.W.Frag} {mg : Str → Option Value} {x q : Str} {E C : Addr} (r : Er K mg x q E C) : Mro K E C := by
  obtain ⟨_, _, _, _, c⟩ := r.c
  exact c.mro
theorem Er.is {K : PySem.W.Frag} {mg : Str → Option Value} {x q : Str} {E C : Addr} (r : Er K mg x q E C) : PySem.W.kitOne K (.ref C) (.ref C) = some true := by
  rw [kitR r.mro r.e.cl r.e.o.tyC, decide_eq_true (.inl rfl)]
theorem Er.he {K : PySem.W.Frag} {mg : Str → Option Value} {x q : Str} {E C : Addr} (r : Er K mg x q E C) (h : HE K mg E) : PySem.W.kitOne K (.ref C) (.ref E) = some true := by
  rw [kitR r.mro h.cl h.ty, decide_eq_true (.inr rfl)]
theorem Er.isnt {K : PySem.W.Frag} {mg : Str → Option Value} {x y q1 q2 : Str} {E C1 C2 : Addr} (a : Er K mg x q1 E C1) (b : Er K mg y q2 E C2) (h : HE K mg E) (n : q1 ≠ q2) : PySem.W.kitOne K (.ref C1) (.ref C2) = some false := by
  rw [kitR a.mro b.e.cl b.e.o.tyC, decide_eq_false]
  rintro (e | e)
  · obtain ⟨_, _, _, _, ca⟩ := a.c
    obtain ⟨_, _, _, _, cb⟩ := b.c
    exact ca.ne cb n e.symm
  · exact h.ne b.mro e
theorem Er1.er {P : Program} {w : World} {K : PySem.W.Frag} {mg : Str → Option Value} {base : Heap} {x q fld : Str} {E C : Addr} (r : Er1 P w K mg base x q fld E C) : Er K mg x q E C := by
  obtain ⟨st, f, fd, c⟩ := r.c
  exact ⟨st, _, f, fd, c⟩
/-- a class without fields -/
def CE0 (K : PySem.W.Frag) (mg : Str → Option Value) (E : Addr) (x q : Str) (st : Stmt) : Prop := ∃ C f fd, CF K mg x q st ["self"] E C f fd
theorem CE0.er {K : PySem.W.Frag} {mg : Str → Option Value} {E : Addr} {x q : Str} {st : Stmt} (c : CE0 K mg E x q st) : ∃ C, Er K mg x q E C := by
  obtain ⟨C, f, fd, c⟩ := c
  exact ⟨C, st, _, f, fd, c⟩
structure Ers (K : PySem.W.Frag) (mg : Str → Option Value) (E : Addr) : Prop where
  UnknownPerson : ∃ C, Er K mg "UnknownPerson" "UnknownPerson.__init__" E C
  InvalidRoom : ∃ C, Er K mg "InvalidRoom" "InvalidRoom.__init__" E C
  NotAdjacent : ∃ C, Er K mg "NotAdjacent" "NotAdjacent.__init__" E C
  EmptyRoom : ∃ C, Er K mg "EmptyRoom" "EmptyRoom.__init__" E C
  InvalidMoves : ∃ C, Er K mg "InvalidMoves" "InvalidMoves.__init__" E C
  OtherRegion : ∃ C, Er K mg "OtherRegion" "OtherRegion.__init__" E C
  TightRegion : ∃ C, Er K mg "TightRegion" "TightRegion.__init__" E C
  Blocked : ∃ C, Er K mg "Blocked" "Blocked.__init__" E C
  InvalidName : ∃ C, Er K mg "InvalidName" "InvalidName.__init__" E C
  DuplicateName : ∃ C, Er K mg "DuplicateName" "DuplicateName.__init__" E C
  LimitReached : ∃ C, Er K mg "LimitReached" "LimitReached.__init__" E C
  AlreadyAdjacent : ∃ C, Er K mg "AlreadyAdjacent" "AlreadyAdjacent.__init__" E C
  WouldFormCycle : ∃ C, Er K mg "WouldFormCycle" "WouldFormCycle.__init__" E C
  BatchFailed : ∃ C, Er K mg "BatchFailed" "BatchFailed.__init__" E C
  InvalidMoment : ∃ C, Er K mg "InvalidMoment" "InvalidMoment.__init__" E C
  InvalidText : ∃ C, Er K mg "InvalidText" "InvalidText.__init__" E C
  NothingToUndo : ∃ C, Er K mg "NothingToUndo" "NothingToUndo.__init__" E C
  HistoryFull : ∃ C, Er K mg "HistoryFull" "HistoryFull.__init__" E C
  SessionBusy : ∃ C, Er K mg "SessionBusy" "SessionBusy.__init__" E C
  InvalidActions : ∃ C, Er K mg "InvalidActions" "InvalidActions.__init__" E C
  InvalidHouse : ∃ C, Er K mg "InvalidHouse" "InvalidHouse.__init__" E C
  InvalidPlacement : ∃ C, Er K mg "InvalidPlacement" "InvalidPlacement.__init__" E C
section
variable {X : Cx}
theorem tellK {K : PySem.W.Frag} {x : Expr} {T : String} {r : V → List V → Hp → VK → Prop} {to : TE} {t : TA} (hK : X.K = K) (h : PE X x (tBM X.K T r to t)) : PE X x (tBM K T r to t) := by
  subst hK
  exact h
theorem mt_countK (K : PySem.W.Frag) (h : X.K = K) : MtR X "list.count" (rCntB K) := by subst h; exact mt_countB
theorem mt_indexK (K : PySem.W.Frag) (h : X.K = K) : MtR X "list.index" (rIndex K) := by subst h; exact mt_index
end
theorem le_szE {n : Nat} (h : n ≤ 100) : n ≤ sizeLine := Nat.le_trans h (by decide)
section
variable {P : Program} {w : World} {K : PySem.W.Frag} {mg : Str → Option Value} {base : Heap}
/-- what it tells of an error of the class at D -/
def spLEC (D : Addr) (z : Str) : SpE := fun a c d vs H Q _ => vs = [.ref a] ∧ c = .ref D ∧ (∀ dx, d = some dx → ∃ fs, H dx = some (.xd fs)) ∧ ∀ H', Same H H' → Q (.str z) H'
abbrev nLErrorClass : List Str := ["_law_e", "_law_flags", "_law_words"]
theorem scLErrorClass : FnScope nLErrorClass ["_law_e"] (defScope sLErrorClass) := ⟨rfl, rfl, rfl, by decide +kernel, rfl, by decide +kernel, by decide +kernel⟩
theorem ok_lec_TightRegion {f : Addr} {fd : FuncData} {k : Nat} {E CTightRegion : Addr} (F : Fun K "_law_error_class" "_law_error_class" sLErrorClass f fd) (T : Nm mg) (TValueError : mg "ValueError" = none) (hE : HE K mg E) (Es : Ers K mg E) (RTightRegion : Er K mg "TightRegion" "TightRegion.__init__" E CTightRegion) : FnE P w K mg base (k + 1) f fd ["_law_e"] (spLEC CTightRegion "TightRegion") := by
  obtain ⟨CUnknownPerson, RUnknownPerson⟩ := Es.UnknownPerson
  obtain ⟨CInvalidRoom, RInvalidRoom⟩ := Es.InvalidRoom
  obtain ⟨CNotAdjacent, RNotAdjacent⟩ := Es.NotAdjacent
  obtain ⟨CEmptyRoom, REmptyRoom⟩ := Es.EmptyRoom
  obtain ⟨CInvalidMoves, RInvalidMoves⟩ := Es.InvalidMoves
  obtain ⟨COtherRegion, ROtherRegion⟩ := Es.OtherRegion
  obtain ⟨CBlocked, RBlocked⟩ := Es.Blocked
  obtain ⟨CInvalidName, RInvalidName⟩ := Es.InvalidName
  obtain ⟨CDuplicateName, RDuplicateName⟩ := Es.DuplicateName
  obtain ⟨CLimitReached, RLimitReached⟩ := Es.LimitReached
  obtain ⟨CAlreadyAdjacent, RAlreadyAdjacent⟩ := Es.AlreadyAdjacent
  obtain ⟨CWouldFormCycle, RWouldFormCycle⟩ := Es.WouldFormCycle
  obtain ⟨CBatchFailed, RBatchFailed⟩ := Es.BatchFailed
  obtain ⟨CInvalidMoment, RInvalidMoment⟩ := Es.InvalidMoment
  obtain ⟨CInvalidText, RInvalidText⟩ := Es.InvalidText
  obtain ⟨CNothingToUndo, RNothingToUndo⟩ := Es.NothingToUndo
  obtain ⟨CHistoryFull, RHistoryFull⟩ := Es.HistoryFull
  obtain ⟨CSessionBusy, RSessionBusy⟩ := Es.SessionBusy
  obtain ⟨CInvalidActions, RInvalidActions⟩ := Es.InvalidActions
  obtain ⟨CInvalidHouse, RInvalidHouse⟩ := Es.InvalidHouse
  obtain ⟨CInvalidPlacement, RInvalidPlacement⟩ := Es.InvalidPlacement
  refine Fun.okE F scLErrorClass (fun a c d vs H Q h => ?_) (fun cdv A outer s H vs Q p c d hz hf hr h => ?_)
  · obtain ⟨rfl, _⟩ := h
    rfl
  · obtain ⟨rfl, rfl, hd, q⟩ := h
    obtain ⟨a, oe⟩ := p
    have hm : (a, oe) ∈ [(a, oe)] := List.mem_singleton_self _
    refine ⟨_, (pss_cons (ps_set (i := 1) scLErrorClass.nd rfl (.inl rfl) (pe_lst (pa_cons (pe_callB (call_isCp K rfl hm hz hf) (by rfl) T.isinstance (by decide +kernel) (pa_cons (pv 0) (pa_cons (pe_glob (v := .ref CUnknownPerson) (by rfl) RUnknownPerson.g rfl) pa_nil))) (pa_cons (pe_callB (call_isCp K rfl hm hz hf) (by rfl) T.isinstance (by decide +kernel) (pa_cons (pv 0) (pa_cons (pe_glob (v := .ref COtherRegion) (by rfl) ROtherRegion.g rfl) pa_nil))) (pa_cons (pe_callB (call_isCp K rfl hm hz hf) (by rfl) T.isinstance (by decide +kernel) (pa_cons (pv 0) (pa_cons (pe_glob (v := .ref CTightRegion) (by rfl) RTightRegion.g rfl) pa_nil))) pa_nil)))))
      (pss_cons (ps_set (i := 1) scLErrorClass.nd rfl (.inl rfl) (pe_op op_cat (pv 1) (pe_lst (pa_cons (pe_callB (call_isCp K rfl hm hz hf) (by rfl) T.isinstance (by decide +kernel) (pa_cons (pv 0) (pa_cons (pe_glob (v := .ref CBlocked) (by rfl) RBlocked.g rfl) pa_nil))) (pa_cons (pe_callB (call_isCp K rfl hm hz hf) (by rfl) T.isinstance (by decide +kernel) (pa_cons (pv 0) (pa_cons (pe_glob (v := .ref CInvalidText) (by rfl) RInvalidText.g rfl) pa_nil))) pa_nil)))))
      (pss_cons (ps_set (i := 1) scLErrorClass.nd rfl (.inl rfl) (pe_op op_cat (pv 1) (pe_lst (pa_cons (pe_callB (call_isTp K rfl hm hz hf) (by rfl) T.isinstance (by decide +kernel) (pa_cons (pv 0) (pa_cons (pe_tup (pa_cons (pe_glob (v := .ref CInvalidRoom) (by rfl) RInvalidRoom.g rfl) (pa_cons (pe_glob (v := .ref CNotAdjacent) (by rfl) RNotAdjacent.g rfl) (pa_cons (pe_glob (v := .ref CEmptyRoom) (by rfl) REmptyRoom.g rfl) (pa_cons (pe_glob (v := .ref CInvalidMoves) (by rfl) RInvalidMoves.g rfl) (pa_cons (pe_glob (v := .ref CInvalidName) (by rfl) RInvalidName.g rfl) pa_nil)))))) pa_nil))) pa_nil))))
      (pss_cons (ps_set (i := 1) scLErrorClass.nd rfl (.inl rfl) (pe_op op_cat (pv 1) (pe_lst (pa_cons (pe_callB (call_isTp K rfl hm hz hf) (by rfl) T.isinstance (by decide +kernel) (pa_cons (pv 0) (pa_cons (pe_tup (pa_cons (pe_glob (v := .ref CDuplicateName) (by rfl) RDuplicateName.g rfl) (pa_cons (pe_glob (v := .ref CLimitReached) (by rfl) RLimitReached.g rfl) (pa_cons (pe_glob (v := .ref CAlreadyAdjacent) (by rfl) RAlreadyAdjacent.g rfl) (pa_cons (pe_glob (v := .ref CWouldFormCycle) (by rfl) RWouldFormCycle.g rfl) pa_nil))))) pa_nil))) pa_nil))))
      (pss_cons (ps_set (i := 1) scLErrorClass.nd rfl (.inl rfl) (pe_op op_cat (pv 1) (pe_lst (pa_cons (pe_callB (call_isTp K rfl hm hz hf) (by rfl) T.isinstance (by decide +kernel) (pa_cons (pv 0) (pa_cons (pe_tup (pa_cons (pe_glob (v := .ref CNothingToUndo) (by rfl) RNothingToUndo.g rfl) (pa_cons (pe_glob (v := .ref CHistoryFull) (by rfl) RHistoryFull.g rfl) (pa_cons (pe_glob (v := .ref CSessionBusy) (by rfl) RSessionBusy.g rfl) (pa_cons (pe_glob (v := .ref CInvalidActions) (by rfl) RInvalidActions.g rfl) pa_nil))))) pa_nil))) pa_nil))))
      (pss_cons (ps_set (i := 1) scLErrorClass.nd rfl (.inl rfl) (pe_op op_cat (pv 1) (pe_lst (pa_cons (pe_callB (call_isTp K rfl hm hz hf) (by rfl) T.isinstance (by decide +kernel) (pa_cons (pv 0) (pa_cons (pe_tup (pa_cons (pe_glob (v := .ref CBatchFailed) (by rfl) RBatchFailed.g rfl) (pa_cons (pe_glob (v := .ref CInvalidMoment) (by rfl) RInvalidMoment.g rfl) (pa_cons (pe_glob (v := .ref CInvalidHouse) (by rfl) RInvalidHouse.g rfl) (pa_cons (pe_glob (v := .ref CInvalidPlacement) (by rfl) RInvalidPlacement.g rfl) pa_nil))))) pa_nil))) pa_nil))))
      (pss_cons (ps_set (i := 2) scLErrorClass.nd rfl (.inl rfl) (pe_op op_cat (pe_lst (pa_cons pe_str (pa_cons pe_str (pa_cons pe_str (pa_cons pe_str (pa_cons pe_str pa_nil)))))) (pe_op op_rep (pe_lst (pa_cons pe_str pa_nil)) pe_int)))
      (pss_cons (ps_if (PW.pt (pw_or (pt_cmpR op_ne (tellK (K := K) rfl <| pe_bm PySem.F.plainAttrs_list PySem.F.slot_list_count PySem.F.type_list_count (mt_countK K rfl) (pv 1) (pa_cons pe_bl pa_nil)) pe_int (nomark _)) (pw_or (pt_not (pt_val (pe_callB (call_isCp K rfl hm hz hf) (by rfl) T.isinstance (by decide +kernel) (pa_cons (pv 0) (pa_cons (pe_glob (v := .ref E) (by rfl) hE.g rfl) pa_nil))))) (pw_or1 (pt_not (pt_val (pe_callB (call_isCp K rfl hm hz hf) (by rfl) T.isinstance (by decide +kernel) (pa_cons (pv 0) (pa_cons (pe_bltn (v := .ty "ValueError") (by rfl) TValueError (by decide +kernel) rfl) pa_nil)))))))))
      (pss_one (ps_ret pe_str))
      pss_nil)
      (pss_one (ps_ret (pe_ix (ix_listK K rfl) (pv 2) (tellK (K := K) rfl <| pe_bm PySem.F.plainAttrs_list PySem.F.slot_list_index PySem.F.type_list_index (mt_indexK K rfl) (pv 1) (pa_cons pe_bl pa_nil)) (fun _ _ => rfl)))))))))))), ?_⟩
    have hx : ∀ {H' : Hp}, Same H H' → HeldX K (.ref CTightRegion) d CTightRegion H' := fun {H'} s' => ⟨rfl, RTightRegion.e, fun dx e => by
      obtain ⟨fs, e2⟩ := hd dx e
      exact ⟨fs, s' _ _ e2⟩⟩
    refine ⟨_, rfl, CTightRegion, _, _, false, rfl, hx (Same.refl _), .own _, RTightRegion.isnt RUnknownPerson hE (by decide), _, rfl, CTightRegion, _, _, false, rfl, hx (Same.refl _), .own _, RTightRegion.isnt ROtherRegion hE (by decide), _, rfl, CTightRegion, _, _, true, rfl, hx (Same.refl _), .own _, RTightRegion.is, by show 3 ≤ sizeLine; decide, fun l0 h0 => ?_⟩
    have u0 := same_upd (o := .lst [V.bl false, V.bl false, V.bl true]) h0
    have e0 : (upd H l0 (.lst [V.bl false, V.bl false, V.bl true])) l0 = some (.lst [V.bl false, V.bl false, V.bl true]) := upd_same
    generalize upd H l0 (.lst [V.bl false, V.bl false, V.bl true]) = J0 at *
    refine ⟨_, rfl, _, rfl, CTightRegion, _, _, false, rfl, hx u0, .own _, RTightRegion.isnt RBlocked hE (by decide), _, rfl, CTightRegion, _, _, false, rfl, hx u0, .own _, RTightRegion.isnt RInvalidText hE (by decide), by show 2 ≤ sizeLine; decide, fun l h => ?_⟩
    have v := same_upd (o := .lst [V.bl false, V.bl false]) h
    have e : (upd J0 l (.lst [V.bl false, V.bl false])) l = some (.lst [V.bl false, V.bl false]) := upd_same
    have w := u0.trans v
    have e0' := v _ _ e0
    generalize upd J0 l (.lst [V.bl false, V.bl false]) = I0 at *
    refine ⟨l0, l, _, _, rfl, rfl, e0', e, le_szE (by simp), fun l1 h1 => ?_⟩
    have u1 := w.trans (same_upd (o := .lst ([V.bl false, V.bl false, V.bl true] ++ [V.bl false, V.bl false])) h1)
    have e1 : (upd I0 l1 (.lst ([V.bl false, V.bl false, V.bl true] ++ [V.bl false, V.bl false]))) l1 = some (.lst [V.bl false, V.bl false, V.bl true, V.bl false, V.bl false]) := upd_same
    generalize upd I0 l1 (.lst ([V.bl false, V.bl false, V.bl true] ++ [V.bl false, V.bl false])) = J1 at *
    clear u0 e0 e0' w v e
    refine ⟨_, rfl, _, rfl, by show 5 ≤ sizeLine; decide, fun t ht => ?_⟩
    have v := u1.trans (same_upd (o := .tup [V.ref CInvalidRoom, V.ref CNotAdjacent, V.ref CEmptyRoom, V.ref CInvalidMoves, V.ref CInvalidName]) ht)
    have et : (upd J1 t (.tup [V.ref CInvalidRoom, V.ref CNotAdjacent, V.ref CEmptyRoom, V.ref CInvalidMoves, V.ref CInvalidName])) t = some (.tup [V.ref CInvalidRoom, V.ref CNotAdjacent, V.ref CEmptyRoom, V.ref CInvalidMoves, V.ref CInvalidName]) := upd_same
    have e := same_upd (o := .tup [V.ref CInvalidRoom, V.ref CNotAdjacent, V.ref CEmptyRoom, V.ref CInvalidMoves, V.ref CInvalidName]) ht _ _ e1
    generalize upd J1 t (.tup [V.ref CInvalidRoom, V.ref CNotAdjacent, V.ref CEmptyRoom, V.ref CInvalidMoves, V.ref CInvalidName]) = I1 at *
    refine ⟨CTightRegion, t, _, [.ref CInvalidRoom, .ref CNotAdjacent, .ref CEmptyRoom, .ref CInvalidMoves, .ref CInvalidName], false, rfl, hx v, SqT.of et, fun us hu => ClsV.all (.cons (.own _) (.cons (.own _) (.cons (.own _) (.cons (.own _) (.cons (.own _) .nil))))) hu, kit_none fun c hc => ?_, by show 1 ≤ sizeLine; decide, fun l h => ?_⟩
    · simp only [List.mem_cons, List.not_mem_nil, or_false] at hc
      rcases hc with rfl | rfl | rfl | rfl | rfl
      · exact RTightRegion.isnt RInvalidRoom hE (by decide)
      · exact RTightRegion.isnt RNotAdjacent hE (by decide)
      · exact RTightRegion.isnt REmptyRoom hE (by decide)
      · exact RTightRegion.isnt RInvalidMoves hE (by decide)
      · exact RTightRegion.isnt RInvalidName hE (by decide)
    have vn := same_upd (o := .lst [V.bl false]) h
    have en : (upd I1 l (.lst [V.bl false])) l = some (.lst [V.bl false]) := upd_same
    replace e := vn _ _ e
    generalize upd I1 l (.lst [V.bl false]) = G1 at *
    refine ⟨l1, l, _, _, rfl, rfl, e, en, le_szE (by simp), fun l2 h2 => ?_⟩
    have u2 := (v.trans vn).trans (same_upd (o := .lst ([V.bl false, V.bl false, V.bl true, V.bl false, V.bl false] ++ [V.bl false])) h2)
    have e2 : (upd G1 l2 (.lst ([V.bl false, V.bl false, V.bl true, V.bl false, V.bl false] ++ [V.bl false]))) l2 = some (.lst [V.bl false, V.bl false, V.bl true, V.bl false, V.bl false, V.bl false]) := upd_same
    generalize upd G1 l2 (.lst ([V.bl false, V.bl false, V.bl true, V.bl false, V.bl false] ++ [V.bl false])) = J2 at *
    clear u1 e1 v et e vn en
    refine ⟨_, rfl, _, rfl, by show 4 ≤ sizeLine; decide, fun t ht => ?_⟩
    have v := u2.trans (same_upd (o := .tup [V.ref CDuplicateName, V.ref CLimitReached, V.ref CAlreadyAdjacent, V.ref CWouldFormCycle]) ht)
    have et : (upd J2 t (.tup [V.ref CDuplicateName, V.ref CLimitReached, V.ref CAlreadyAdjacent, V.ref CWouldFormCycle])) t = some (.tup [V.ref CDuplicateName, V.ref CLimitReached, V.ref CAlreadyAdjacent, V.ref CWouldFormCycle]) := upd_same
    have e := same_upd (o := .tup [V.ref CDuplicateName, V.ref CLimitReached, V.ref CAlreadyAdjacent, V.ref CWouldFormCycle]) ht _ _ e2
    generalize upd J2 t (.tup [V.ref CDuplicateName, V.ref CLimitReached, V.ref CAlreadyAdjacent, V.ref CWouldFormCycle]) = I2 at *
    refine ⟨CTightRegion, t, _, [.ref CDuplicateName, .ref CLimitReached, .ref CAlreadyAdjacent, .ref CWouldFormCycle], false, rfl, hx v, SqT.of et, fun us hu => ClsV.all (.cons (.own _) (.cons (.own _) (.cons (.own _) (.cons (.own _) .nil)))) hu, kit_none fun c hc => ?_, by show 1 ≤ sizeLine; decide, fun l h => ?_⟩
    · simp only [List.mem_cons, List.not_mem_nil, or_false] at hc
      rcases hc with rfl | rfl | rfl | rfl
      · exact RTightRegion.isnt RDuplicateName hE (by decide)
      · exact RTightRegion.isnt RLimitReached hE (by decide)
      · exact RTightRegion.isnt RAlreadyAdjacent hE (by decide)
      · exact RTightRegion.isnt RWouldFormCycle hE (by decide)
    have vn := same_upd (o := .lst [V.bl false]) h
    have en : (upd I2 l (.lst [V.bl false])) l = some (.lst [V.bl false]) := upd_same
    replace e := vn _ _ e
    generalize upd I2 l (.lst [V.bl false]) = G2 at *
    refine ⟨l2, l, _, _, rfl, rfl, e, en, le_szE (by simp), fun l3 h3 => ?_⟩
    have u3 := (v.trans vn).trans (same_upd (o := .lst ([V.bl false, V.bl false, V.bl true, V.bl false, V.bl false, V.bl false] ++ [V.bl false])) h3)
    have e3 : (upd G2 l3 (.lst ([V.bl false, V.bl false, V.bl true, V.bl false, V.bl false, V.bl false] ++ [V.bl false]))) l3 = some (.lst [V.bl false, V.bl false, V.bl true, V.bl false, V.bl false, V.bl false, V.bl false]) := upd_same
    generalize upd G2 l3 (.lst ([V.bl false, V.bl false, V.bl true, V.bl false, V.bl false, V.bl false] ++ [V.bl false])) = J3 at *
    clear u2 e2 v et e vn en
    refine ⟨_, rfl, _, rfl, by show 4 ≤ sizeLine; decide, fun t ht => ?_⟩
    have v := u3.trans (same_upd (o := .tup [V.ref CNothingToUndo, V.ref CHistoryFull, V.ref CSessionBusy, V.ref CInvalidActions]) ht)
    have et : (upd J3 t (.tup [V.ref CNothingToUndo, V.ref CHistoryFull, V.ref CSessionBusy, V.ref CInvalidActions])) t = some (.tup [V.ref CNothingToUndo, V.ref CHistoryFull, V.ref CSessionBusy, V.ref CInvalidActions]) := upd_same
    have e := same_upd (o := .tup [V.ref CNothingToUndo, V.ref CHistoryFull, V.ref CSessionBusy, V.ref CInvalidActions]) ht _ _ e3
    generalize upd J3 t (.tup [V.ref CNothingToUndo, V.ref CHistoryFull, V.ref CSessionBusy, V.ref CInvalidActions]) = I3 at *
    refine ⟨CTightRegion, t, _, [.ref CNothingToUndo, .ref CHistoryFull, .ref CSessionBusy, .ref CInvalidActions], false, rfl, hx v, SqT.of et, fun us hu => ClsV.all (.cons (.own _) (.cons (.own _) (.cons (.own _) (.cons (.own _) .nil)))) hu, kit_none fun c hc => ?_, by show 1 ≤ sizeLine; decide, fun l h => ?_⟩
    · simp only [List.mem_cons, List.not_mem_nil, or_false] at hc
      rcases hc with rfl | rfl | rfl | rfl
      · exact RTightRegion.isnt RNothingToUndo hE (by decide)
      · exact RTightRegion.isnt RHistoryFull hE (by decide)
      · exact RTightRegion.isnt RSessionBusy hE (by decide)
      · exact RTightRegion.isnt RInvalidActions hE (by decide)
    have vn := same_upd (o := .lst [V.bl false]) h
    have en : (upd I3 l (.lst [V.bl false])) l = some (.lst [V.bl false]) := upd_same
    replace e := vn _ _ e
    generalize upd I3 l (.lst [V.bl false]) = G3 at *
    refine ⟨l3, l, _, _, rfl, rfl, e, en, le_szE (by simp), fun l4 h4 => ?_⟩
    have u4 := (v.trans vn).trans (same_upd (o := .lst ([V.bl false, V.bl false, V.bl true, V.bl false, V.bl false, V.bl false, V.bl false] ++ [V.bl false])) h4)
    have e4 : (upd G3 l4 (.lst ([V.bl false, V.bl false, V.bl true, V.bl false, V.bl false, V.bl false, V.bl false] ++ [V.bl false]))) l4 = some (.lst [V.bl false, V.bl false, V.bl true, V.bl false, V.bl false, V.bl false, V.bl false, V.bl false]) := upd_same
    generalize upd G3 l4 (.lst ([V.bl false, V.bl false, V.bl true, V.bl false, V.bl false, V.bl false, V.bl false] ++ [V.bl false])) = J4 at *
    clear u3 e3 v et e vn en
    refine ⟨_, rfl, _, rfl, by show 4 ≤ sizeLine; decide, fun t ht => ?_⟩
    have v := u4.trans (same_upd (o := .tup [V.ref CBatchFailed, V.ref CInvalidMoment, V.ref CInvalidHouse, V.ref CInvalidPlacement]) ht)
    have et : (upd J4 t (.tup [V.ref CBatchFailed, V.ref CInvalidMoment, V.ref CInvalidHouse, V.ref CInvalidPlacement])) t = some (.tup [V.ref CBatchFailed, V.ref CInvalidMoment, V.ref CInvalidHouse, V.ref CInvalidPlacement]) := upd_same
    have e := same_upd (o := .tup [V.ref CBatchFailed, V.ref CInvalidMoment, V.ref CInvalidHouse, V.ref CInvalidPlacement]) ht _ _ e4
    generalize upd J4 t (.tup [V.ref CBatchFailed, V.ref CInvalidMoment, V.ref CInvalidHouse, V.ref CInvalidPlacement]) = I4 at *
    refine ⟨CTightRegion, t, _, [.ref CBatchFailed, .ref CInvalidMoment, .ref CInvalidHouse, .ref CInvalidPlacement], false, rfl, hx v, SqT.of et, fun us hu => ClsV.all (.cons (.own _) (.cons (.own _) (.cons (.own _) (.cons (.own _) .nil)))) hu, kit_none fun c hc => ?_, by show 1 ≤ sizeLine; decide, fun l h => ?_⟩
    · simp only [List.mem_cons, List.not_mem_nil, or_false] at hc
      rcases hc with rfl | rfl | rfl | rfl
      · exact RTightRegion.isnt RBatchFailed hE (by decide)
      · exact RTightRegion.isnt RInvalidMoment hE (by decide)
      · exact RTightRegion.isnt RInvalidHouse hE (by decide)
      · exact RTightRegion.isnt RInvalidPlacement hE (by decide)
    have vn := same_upd (o := .lst [V.bl false]) h
    have en : (upd I4 l (.lst [V.bl false])) l = some (.lst [V.bl false]) := upd_same
    replace e := vn _ _ e
    generalize upd I4 l (.lst [V.bl false]) = G4 at *
    refine ⟨l4, l, _, _, rfl, rfl, e, en, le_szE (by simp), fun l5 h5 => ?_⟩
    have u5 := (v.trans vn).trans (same_upd (o := .lst ([V.bl false, V.bl false, V.bl true, V.bl false, V.bl false, V.bl false, V.bl false, V.bl false] ++ [V.bl false])) h5)
    have e5 : (upd G4 l5 (.lst ([V.bl false, V.bl false, V.bl true, V.bl false, V.bl false, V.bl false, V.bl false, V.bl false] ++ [V.bl false]))) l5 = some (.lst [V.bl false, V.bl false, V.bl true, V.bl false, V.bl false, V.bl false, V.bl false, V.bl false, V.bl false]) := upd_same
    generalize upd G4 l5 (.lst ([V.bl false, V.bl false, V.bl true, V.bl false, V.bl false, V.bl false, V.bl false, V.bl false] ++ [V.bl false])) = J5 at *
    clear u4 e4 v et e vn en
    refine ⟨by show 5 ≤ sizeLine; decide, fun w1 g1 => ?_⟩
    have v1 := same_upd (o := .lst [V.str "UnknownPerson", V.str "OtherRegion", V.str "TightRegion", V.str "Blocked", V.str "InvalidText"]) g1
    have f1 : (upd J5 w1 (.lst [V.str "UnknownPerson", V.str "OtherRegion", V.str "TightRegion", V.str "Blocked", V.str "InvalidText"])) w1 = some (.lst [V.str "UnknownPerson", V.str "OtherRegion", V.str "TightRegion", V.str "Blocked", V.str "InvalidText"]) := upd_same
    have e6 := v1 _ _ e5
    have u6 := u5.trans v1
    generalize upd J5 w1 (.lst [V.str "UnknownPerson", V.str "OtherRegion", V.str "TightRegion", V.str "Blocked", V.str "InvalidText"]) = J6 at *
    refine ⟨by show 1 ≤ sizeLine; decide, fun w2 g2 => ?_⟩
    have v2 := same_upd (o := .lst [V.str "other"]) g2
    have f2 : (upd J6 w2 (.lst [V.str "other"])) w2 = some (.lst [V.str "other"]) := upd_same
    replace f1 := v2 _ _ f1
    replace e6 := v2 _ _ e6
    replace u6 := u6.trans v2
    generalize upd J6 w2 (.lst [V.str "other"]) = J7 at *
    refine ⟨w2, 4, _, rfl, rfl, f2, by decide, by decide, by show 1 * 4 ≤ sizeLine; decide, fun w3 g3 => ?_⟩
    have er : (List.replicate (4 : Int).toNat [V.str "other"]).flatten = [V.str "other", V.str "other", V.str "other", V.str "other"] := rfl
    rw [er]
    have v3 := same_upd (o := .lst [V.str "other", V.str "other", V.str "other", V.str "other"]) g3
    have f3 : (upd J7 w3 (.lst [V.str "other", V.str "other", V.str "other", V.str "other"])) w3 = some (.lst [V.str "other", V.str "other", V.str "other", V.str "other"]) := upd_same
    replace f1 := v3 _ _ f1
    replace e6 := v3 _ _ e6
    replace u6 := u6.trans v3
    generalize upd J7 w3 (.lst [V.str "other", V.str "other", V.str "other", V.str "other"]) = J8 at *
    refine ⟨w1, w3, _, _, rfl, rfl, f1, f3, le_szE (by simp), fun w4 g4 => ?_⟩
    have v4 := same_upd (o := .lst ([V.str "UnknownPerson", V.str "OtherRegion", V.str "TightRegion", V.str "Blocked", V.str "InvalidText"] ++ [V.str "other", V.str "other", V.str "other", V.str "other"])) g4
    have f4 : (upd J8 w4 (.lst ([V.str "UnknownPerson", V.str "OtherRegion", V.str "TightRegion", V.str "Blocked", V.str "InvalidText"] ++ [V.str "other", V.str "other", V.str "other", V.str "other"]))) w4 = some (.lst ([V.str "UnknownPerson", V.str "OtherRegion", V.str "TightRegion", V.str "Blocked", V.str "InvalidText"] ++ [V.str "other", V.str "other", V.str "other", V.str "other"])) := upd_same
    replace e6 := v4 _ _ e6
    replace u6 := u6.trans v4
    generalize upd J8 w4 (.lst ([V.str "UnknownPerson", V.str "OtherRegion", V.str "TightRegion", V.str "Blocked", V.str "InvalidText"] ++ [V.str "other", V.str "other", V.str "other", V.str "other"])) = J9 at *
    refine ⟨_, rfl, .inl ⟨rfl, _, SqL.of e6⟩, l5, [false, false, true, false, false, false, false, false, false], rfl, rfl, SqL.of e6, rfl, _, rfl, iteNS rfl ?_⟩
    refine ⟨_, rfl, CTightRegion, _, _, true, rfl, hx u6, .own _, RTightRegion.he hE, _, rfl, iteF ?_⟩
    refine ⟨_, rfl, CTightRegion, _, _, true, rfl, hx u6, .ty _, kitVE RTightRegion.mro, _, rfl, iteF ?_⟩
    refine ⟨_, rfl, _, rfl, .inl ⟨rfl, _, SqL.of e6⟩, l5, _, _, 2, _, rfl, rfl, SqL.of e6, rfl, rfl, rfl, rfl, ?_, w4, _, _, _, rfl, rfl, SqL.of f4, atI_nat (j := 2) rfl, q _ u6⟩
    intro m z' hm hz'
    match m, hm, hz' with
    | 0, _, hz' => cases hz'; rfl
    | 1, _, hz' => cases hz'; rfl
theorem ok_lec_Blocked {f : Addr} {fd : FuncData} {k : Nat} {E CBlocked : Addr} (F : Fun K "_law_error_class" "_law_error_class" sLErrorClass f fd) (T : Nm mg) (TValueError : mg "ValueError" = none) (hE : HE K mg E) (Es : Ers K mg E) (RBlocked : Er K mg "Blocked" "Blocked.__init__" E CBlocked) : FnE P w K mg base (k + 1) f fd ["_law_e"] (spLEC CBlocked "Blocked") := by
  obtain ⟨CUnknownPerson, RUnknownPerson⟩ := Es.UnknownPerson
  obtain ⟨CInvalidRoom, RInvalidRoom⟩ := Es.InvalidRoom
  obtain ⟨CNotAdjacent, RNotAdjacent⟩ := Es.NotAdjacent
  obtain ⟨CEmptyRoom, REmptyRoom⟩ := Es.EmptyRoom
  obtain ⟨CInvalidMoves, RInvalidMoves⟩ := Es.InvalidMoves
  obtain ⟨COtherRegion, ROtherRegion⟩ := Es.OtherRegion
  obtain ⟨CTightRegion, RTightRegion⟩ := Es.TightRegion
  obtain ⟨CInvalidName, RInvalidName⟩ := Es.InvalidName
  obtain ⟨CDuplicateName, RDuplicateName⟩ := Es.DuplicateName
  obtain ⟨CLimitReached, RLimitReached⟩ := Es.LimitReached
  obtain ⟨CAlreadyAdjacent, RAlreadyAdjacent⟩ := Es.AlreadyAdjacent
  obtain ⟨CWouldFormCycle, RWouldFormCycle⟩ := Es.WouldFormCycle
  obtain ⟨CBatchFailed, RBatchFailed⟩ := Es.BatchFailed
  obtain ⟨CInvalidMoment, RInvalidMoment⟩ := Es.InvalidMoment
  obtain ⟨CInvalidText, RInvalidText⟩ := Es.InvalidText
  obtain ⟨CNothingToUndo, RNothingToUndo⟩ := Es.NothingToUndo
  obtain ⟨CHistoryFull, RHistoryFull⟩ := Es.HistoryFull
  obtain ⟨CSessionBusy, RSessionBusy⟩ := Es.SessionBusy
  obtain ⟨CInvalidActions, RInvalidActions⟩ := Es.InvalidActions
  obtain ⟨CInvalidHouse, RInvalidHouse⟩ := Es.InvalidHouse
  obtain ⟨CInvalidPlacement, RInvalidPlacement⟩ := Es.InvalidPlacement
  refine Fun.okE F scLErrorClass (fun a c d vs H Q h => ?_) (fun cdv A outer s H vs Q p c d hz hf hr h => ?_)
  · obtain ⟨rfl, _⟩ := h
    rfl
  · obtain ⟨rfl, rfl, hd, q⟩ := h
    obtain ⟨a, oe⟩ := p
    have hm : (a, oe) ∈ [(a, oe)] := List.mem_singleton_self _
    refine ⟨_, (pss_cons (ps_set (i := 1) scLErrorClass.nd rfl (.inl rfl) (pe_lst (pa_cons (pe_callB (call_isCp K rfl hm hz hf) (by rfl) T.isinstance (by decide +kernel) (pa_cons (pv 0) (pa_cons (pe_glob (v := .ref CUnknownPerson) (by rfl) RUnknownPerson.g rfl) pa_nil))) (pa_cons (pe_callB (call_isCp K rfl hm hz hf) (by rfl) T.isinstance (by decide +kernel) (pa_cons (pv 0) (pa_cons (pe_glob (v := .ref COtherRegion) (by rfl) ROtherRegion.g rfl) pa_nil))) (pa_cons (pe_callB (call_isCp K rfl hm hz hf) (by rfl) T.isinstance (by decide +kernel) (pa_cons (pv 0) (pa_cons (pe_glob (v := .ref CTightRegion) (by rfl) RTightRegion.g rfl) pa_nil))) pa_nil)))))
      (pss_cons (ps_set (i := 1) scLErrorClass.nd rfl (.inl rfl) (pe_op op_cat (pv 1) (pe_lst (pa_cons (pe_callB (call_isCp K rfl hm hz hf) (by rfl) T.isinstance (by decide +kernel) (pa_cons (pv 0) (pa_cons (pe_glob (v := .ref CBlocked) (by rfl) RBlocked.g rfl) pa_nil))) (pa_cons (pe_callB (call_isCp K rfl hm hz hf) (by rfl) T.isinstance (by decide +kernel) (pa_cons (pv 0) (pa_cons (pe_glob (v := .ref CInvalidText) (by rfl) RInvalidText.g rfl) pa_nil))) pa_nil)))))
      (pss_cons (ps_set (i := 1) scLErrorClass.nd rfl (.inl rfl) (pe_op op_cat (pv 1) (pe_lst (pa_cons (pe_callB (call_isTp K rfl hm hz hf) (by rfl) T.isinstance (by decide +kernel) (pa_cons (pv 0) (pa_cons (pe_tup (pa_cons (pe_glob (v := .ref CInvalidRoom) (by rfl) RInvalidRoom.g rfl) (pa_cons (pe_glob (v := .ref CNotAdjacent) (by rfl) RNotAdjacent.g rfl) (pa_cons (pe_glob (v := .ref CEmptyRoom) (by rfl) REmptyRoom.g rfl) (pa_cons (pe_glob (v := .ref CInvalidMoves) (by rfl) RInvalidMoves.g rfl) (pa_cons (pe_glob (v := .ref CInvalidName) (by rfl) RInvalidName.g rfl) pa_nil)))))) pa_nil))) pa_nil))))
      (pss_cons (ps_set (i := 1) scLErrorClass.nd rfl (.inl rfl) (pe_op op_cat (pv 1) (pe_lst (pa_cons (pe_callB (call_isTp K rfl hm hz hf) (by rfl) T.isinstance (by decide +kernel) (pa_cons (pv 0) (pa_cons (pe_tup (pa_cons (pe_glob (v := .ref CDuplicateName) (by rfl) RDuplicateName.g rfl) (pa_cons (pe_glob (v := .ref CLimitReached) (by rfl) RLimitReached.g rfl) (pa_cons (pe_glob (v := .ref CAlreadyAdjacent) (by rfl) RAlreadyAdjacent.g rfl) (pa_cons (pe_glob (v := .ref CWouldFormCycle) (by rfl) RWouldFormCycle.g rfl) pa_nil))))) pa_nil))) pa_nil))))
      (pss_cons (ps_set (i := 1) scLErrorClass.nd rfl (.inl rfl) (pe_op op_cat (pv 1) (pe_lst (pa_cons (pe_callB (call_isTp K rfl hm hz hf) (by rfl) T.isinstance (by decide +kernel) (pa_cons (pv 0) (pa_cons (pe_tup (pa_cons (pe_glob (v := .ref CNothingToUndo) (by rfl) RNothingToUndo.g rfl) (pa_cons (pe_glob (v := .ref CHistoryFull) (by rfl) RHistoryFull.g rfl) (pa_cons (pe_glob (v := .ref CSessionBusy) (by rfl) RSessionBusy.g rfl) (pa_cons (pe_glob (v := .ref CInvalidActions) (by rfl) RInvalidActions.g rfl) pa_nil))))) pa_nil))) pa_nil))))
      (pss_cons (ps_set (i := 1) scLErrorClass.nd rfl (.inl rfl) (pe_op op_cat (pv 1) (pe_lst (pa_cons (pe_callB (call_isTp K rfl hm hz hf) (by rfl) T.isinstance (by decide +kernel) (pa_cons (pv 0) (pa_cons (pe_tup (pa_cons (pe_glob (v := .ref CBatchFailed) (by rfl) RBatchFailed.g rfl) (pa_cons (pe_glob (v := .ref CInvalidMoment) (by rfl) RInvalidMoment.g rfl) (pa_cons (pe_glob (v := .ref CInvalidHouse) (by rfl) RInvalidHouse.g rfl) (pa_cons (pe_glob (v := .ref CInvalidPlacement) (by rfl) RInvalidPlacement.g rfl) pa_nil))))) pa_nil))) pa_nil))))
      (pss_cons (ps_set (i := 2) scLErrorClass.nd rfl (.inl rfl) (pe_op op_cat (pe_lst (pa_cons pe_str (pa_cons pe_str (pa_cons pe_str (pa_cons pe_str (pa_cons pe_str pa_nil)))))) (pe_op op_rep (pe_lst (pa_cons pe_str pa_nil)) pe_int)))
      (pss_cons (ps_if (PW.pt (pw_or (pt_cmpR op_ne (tellK (K := K) rfl <| pe_bm PySem.F.plainAttrs_list PySem.F.slot_list_count PySem.F.type_list_count (mt_countK K rfl) (pv 1) (pa_cons pe_bl pa_nil)) pe_int (nomark _)) (pw_or (pt_not (pt_val (pe_callB (call_isCp K rfl hm hz hf) (by rfl) T.isinstance (by decide +kernel) (pa_cons (pv 0) (pa_cons (pe_glob (v := .ref E) (by rfl) hE.g rfl) pa_nil))))) (pw_or1 (pt_not (pt_val (pe_callB (call_isCp K rfl hm hz hf) (by rfl) T.isinstance (by decide +kernel) (pa_cons (pv 0) (pa_cons (pe_bltn (v := .ty "ValueError") (by rfl) TValueError (by decide +kernel) rfl) pa_nil)))))))))
      (pss_one (ps_ret pe_str))
      pss_nil)
      (pss_one (ps_ret (pe_ix (ix_listK K rfl) (pv 2) (tellK (K := K) rfl <| pe_bm PySem.F.plainAttrs_list PySem.F.slot_list_index PySem.F.type_list_index (mt_indexK K rfl) (pv 1) (pa_cons pe_bl pa_nil)) (fun _ _ => rfl)))))))))))), ?_⟩
    have hx : ∀ {H' : Hp}, Same H H' → HeldX K (.ref CBlocked) d CBlocked H' := fun {H'} s' => ⟨rfl, RBlocked.e, fun dx e => by
      obtain ⟨fs, e2⟩ := hd dx e
      exact ⟨fs, s' _ _ e2⟩⟩
    refine ⟨_, rfl, CBlocked, _, _, false, rfl, hx (Same.refl _), .own _, RBlocked.isnt RUnknownPerson hE (by decide), _, rfl, CBlocked, _, _, false, rfl, hx (Same.refl _), .own _, RBlocked.isnt ROtherRegion hE (by decide), _, rfl, CBlocked, _, _, false, rfl, hx (Same.refl _), .own _, RBlocked.isnt RTightRegion hE (by decide), by show 3 ≤ sizeLine; decide, fun l0 h0 => ?_⟩
    have u0 := same_upd (o := .lst [V.bl false, V.bl false, V.bl false]) h0
    have e0 : (upd H l0 (.lst [V.bl false, V.bl false, V.bl false])) l0 = some (.lst [V.bl false, V.bl false, V.bl false]) := upd_same
    generalize upd H l0 (.lst [V.bl false, V.bl false, V.bl false]) = J0 at *
    refine ⟨_, rfl, _, rfl, CBlocked, _, _, true, rfl, hx u0, .own _, RBlocked.is, _, rfl, CBlocked, _, _, false, rfl, hx u0, .own _, RBlocked.isnt RInvalidText hE (by decide), by show 2 ≤ sizeLine; decide, fun l h => ?_⟩
    have v := same_upd (o := .lst [V.bl true, V.bl false]) h
    have e : (upd J0 l (.lst [V.bl true, V.bl false])) l = some (.lst [V.bl true, V.bl false]) := upd_same
    have w := u0.trans v
    have e0' := v _ _ e0
    generalize upd J0 l (.lst [V.bl true, V.bl false]) = I0 at *
    refine ⟨l0, l, _, _, rfl, rfl, e0', e, le_szE (by simp), fun l1 h1 => ?_⟩
    have u1 := w.trans (same_upd (o := .lst ([V.bl false, V.bl false, V.bl false] ++ [V.bl true, V.bl false])) h1)
    have e1 : (upd I0 l1 (.lst ([V.bl false, V.bl false, V.bl false] ++ [V.bl true, V.bl false]))) l1 = some (.lst [V.bl false, V.bl false, V.bl false, V.bl true, V.bl false]) := upd_same
    generalize upd I0 l1 (.lst ([V.bl false, V.bl false, V.bl false] ++ [V.bl true, V.bl false])) = J1 at *
    clear u0 e0 e0' w v e
    refine ⟨_, rfl, _, rfl, by show 5 ≤ sizeLine; decide, fun t ht => ?_⟩
    have v := u1.trans (same_upd (o := .tup [V.ref CInvalidRoom, V.ref CNotAdjacent, V.ref CEmptyRoom, V.ref CInvalidMoves, V.ref CInvalidName]) ht)
    have et : (upd J1 t (.tup [V.ref CInvalidRoom, V.ref CNotAdjacent, V.ref CEmptyRoom, V.ref CInvalidMoves, V.ref CInvalidName])) t = some (.tup [V.ref CInvalidRoom, V.ref CNotAdjacent, V.ref CEmptyRoom, V.ref CInvalidMoves, V.ref CInvalidName]) := upd_same
    have e := same_upd (o := .tup [V.ref CInvalidRoom, V.ref CNotAdjacent, V.ref CEmptyRoom, V.ref CInvalidMoves, V.ref CInvalidName]) ht _ _ e1
    generalize upd J1 t (.tup [V.ref CInvalidRoom, V.ref CNotAdjacent, V.ref CEmptyRoom, V.ref CInvalidMoves, V.ref CInvalidName]) = I1 at *
    refine ⟨CBlocked, t, _, [.ref CInvalidRoom, .ref CNotAdjacent, .ref CEmptyRoom, .ref CInvalidMoves, .ref CInvalidName], false, rfl, hx v, SqT.of et, fun us hu => ClsV.all (.cons (.own _) (.cons (.own _) (.cons (.own _) (.cons (.own _) (.cons (.own _) .nil))))) hu, kit_none fun c hc => ?_, by show 1 ≤ sizeLine; decide, fun l h => ?_⟩
    · simp only [List.mem_cons, List.not_mem_nil, or_false] at hc
      rcases hc with rfl | rfl | rfl | rfl | rfl
      · exact RBlocked.isnt RInvalidRoom hE (by decide)
      · exact RBlocked.isnt RNotAdjacent hE (by decide)
      · exact RBlocked.isnt REmptyRoom hE (by decide)
      · exact RBlocked.isnt RInvalidMoves hE (by decide)
      · exact RBlocked.isnt RInvalidName hE (by decide)
    have vn := same_upd (o := .lst [V.bl false]) h
    have en : (upd I1 l (.lst [V.bl false])) l = some (.lst [V.bl false]) := upd_same
    replace e := vn _ _ e
    generalize upd I1 l (.lst [V.bl false]) = G1 at *
    refine ⟨l1, l, _, _, rfl, rfl, e, en, le_szE (by simp), fun l2 h2 => ?_⟩
    have u2 := (v.trans vn).trans (same_upd (o := .lst ([V.bl false, V.bl false, V.bl false, V.bl true, V.bl false] ++ [V.bl false])) h2)
    have e2 : (upd G1 l2 (.lst ([V.bl false, V.bl false, V.bl false, V.bl true, V.bl false] ++ [V.bl false]))) l2 = some (.lst [V.bl false, V.bl false, V.bl false, V.bl true, V.bl false, V.bl false]) := upd_same
    generalize upd G1 l2 (.lst ([V.bl false, V.bl false, V.bl false, V.bl true, V.bl false] ++ [V.bl false])) = J2 at *
    clear u1 e1 v et e vn en
    refine ⟨_, rfl, _, rfl, by show 4 ≤ sizeLine; decide, fun t ht => ?_⟩
    have v := u2.trans (same_upd (o := .tup [V.ref CDuplicateName, V.ref CLimitReached, V.ref CAlreadyAdjacent, V.ref CWouldFormCycle]) ht)
    have et : (upd J2 t (.tup [V.ref CDuplicateName, V.ref CLimitReached, V.ref CAlreadyAdjacent, V.ref CWouldFormCycle])) t = some (.tup [V.ref CDuplicateName, V.ref CLimitReached, V.ref CAlreadyAdjacent, V.ref CWouldFormCycle]) := upd_same
    have e := same_upd (o := .tup [V.ref CDuplicateName, V.ref CLimitReached, V.ref CAlreadyAdjacent, V.ref CWouldFormCycle]) ht _ _ e2
    generalize upd J2 t (.tup [V.ref CDuplicateName, V.ref CLimitReached, V.ref CAlreadyAdjacent, V.ref CWouldFormCycle]) = I2 at *
    refine ⟨CBlocked, t, _, [.ref CDuplicateName, .ref CLimitReached, .ref CAlreadyAdjacent, .ref CWouldFormCycle], false, rfl, hx v, SqT.of et, fun us hu => ClsV.all (.cons (.own _) (.cons (.own _) (.cons (.own _) (.cons (.own _) .nil)))) hu, kit_none fun c hc => ?_, by show 1 ≤ sizeLine; decide, fun l h => ?_⟩
    · simp only [List.mem_cons, List.not_mem_nil, or_false] at hc
      rcases hc with rfl | rfl | rfl | rfl
      · exact RBlocked.isnt RDuplicateName hE (by decide)
      · exact RBlocked.isnt RLimitReached hE (by decide)
      · exact RBlocked.isnt RAlreadyAdjacent hE (by decide)
      · exact RBlocked.isnt RWouldFormCycle hE (by decide)
    have vn := same_upd (o := .lst [V.bl false]) h
    have en : (upd I2 l (.lst [V.bl false])) l = some (.lst [V.bl false]) := upd_same
    replace e := vn _ _ e
    generalize upd I2 l (.lst [V.bl false]) = G2 at *
    refine ⟨l2, l, _, _, rfl, rfl, e, en, le_szE (by simp), fun l3 h3 => ?_⟩
    have u3 := (v.trans vn).trans (same_upd (o := .lst ([V.bl false, V.bl false, V.bl false, V.bl true, V.bl false, V.bl false] ++ [V.bl false])) h3)
    have e3 : (upd G2 l3 (.lst ([V.bl false, V.bl false, V.bl false, V.bl true, V.bl false, V.bl false] ++ [V.bl false]))) l3 = some (.lst [V.bl false, V.bl false, V.bl false, V.bl true, V.bl false, V.bl false, V.bl false]) := upd_same
    generalize upd G2 l3 (.lst ([V.bl false, V.bl false, V.bl false, V.bl true, V.bl false, V.bl false] ++ [V.bl false])) = J3 at *
    clear u2 e2 v et e vn en
    refine ⟨_, rfl, _, rfl, by show 4 ≤ sizeLine; decide, fun t ht => ?_⟩
    have v := u3.trans (same_upd (o := .tup [V.ref CNothingToUndo, V.ref CHistoryFull, V.ref CSessionBusy, V.ref CInvalidActions]) ht)
    have et : (upd J3 t (.tup [V.ref CNothingToUndo, V.ref CHistoryFull, V.ref CSessionBusy, V.ref CInvalidActions])) t = some (.tup [V.ref CNothingToUndo, V.ref CHistoryFull, V.ref CSessionBusy, V.ref CInvalidActions]) := upd_same
    have e := same_upd (o := .tup [V.ref CNothingToUndo, V.ref CHistoryFull, V.ref CSessionBusy, V.ref CInvalidActions]) ht _ _ e3
    generalize upd J3 t (.tup [V.ref CNothingToUndo, V.ref CHistoryFull, V.ref CSessionBusy, V.ref CInvalidActions]) = I3 at *
    refine ⟨CBlocked, t, _, [.ref CNothingToUndo, .ref CHistoryFull, .ref CSessionBusy, .ref CInvalidActions], false, rfl, hx v, SqT.of et, fun us hu => ClsV.all (.cons (.own _) (.cons (.own _) (.cons (.own _) (.cons (.own _) .nil)))) hu, kit_none fun c hc => ?_, by show 1 ≤ sizeLine; decide, fun l h => ?_⟩
    · simp only [List.mem_cons, List.not_mem_nil, or_false] at hc
      rcases hc with rfl | rfl | rfl | rfl
      · exact RBlocked.isnt RNothingToUndo hE (by decide)
      · exact RBlocked.isnt RHistoryFull hE (by decide)
      · exact RBlocked.isnt RSessionBusy hE (by decide)
      · exact RBlocked.isnt RInvalidActions hE (by decide)
    have vn := same_upd (o := .lst [V.bl false]) h
    have en : (upd I3 l (.lst [V.bl false])) l = some (.lst [V.bl false]) := upd_same
    replace e := vn _ _ e
    generalize upd I3 l (.lst [V.bl false]) = G3 at *
    refine ⟨l3, l, _, _, rfl, rfl, e, en, le_szE (by simp), fun l4 h4 => ?_⟩
    have u4 := (v.trans vn).trans (same_upd (o := .lst ([V.bl false, V.bl false, V.bl false, V.bl true, V.bl false, V.bl false, V.bl false] ++ [V.bl false])) h4)
    have e4 : (upd G3 l4 (.lst ([V.bl false, V.bl false, V.bl false, V.bl true, V.bl false, V.bl false, V.bl false] ++ [V.bl false]))) l4 = some (.lst [V.bl false, V.bl false, V.bl false, V.bl true, V.bl false, V.bl false, V.bl false, V.bl false]) := upd_same
    generalize upd G3 l4 (.lst ([V.bl false, V.bl false, V.bl false, V.bl true, V.bl false, V.bl false, V.bl false] ++ [V.bl false])) = J4 at *
    clear u3 e3 v et e vn en
    refine ⟨_, rfl, _, rfl, by show 4 ≤ sizeLine; decide, fun t ht => ?_⟩
    have v := u4.trans (same_upd (o := .tup [V.ref CBatchFailed, V.ref CInvalidMoment, V.ref CInvalidHouse, V.ref CInvalidPlacement]) ht)
    have et : (upd J4 t (.tup [V.ref CBatchFailed, V.ref CInvalidMoment, V.ref CInvalidHouse, V.ref CInvalidPlacement])) t = some (.tup [V.ref CBatchFailed, V.ref CInvalidMoment, V.ref CInvalidHouse, V.ref CInvalidPlacement]) := upd_same
    have e := same_upd (o := .tup [V.ref CBatchFailed, V.ref CInvalidMoment, V.ref CInvalidHouse, V.ref CInvalidPlacement]) ht _ _ e4
    generalize upd J4 t (.tup [V.ref CBatchFailed, V.ref CInvalidMoment, V.ref CInvalidHouse, V.ref CInvalidPlacement]) = I4 at *
    refine ⟨CBlocked, t, _, [.ref CBatchFailed, .ref CInvalidMoment, .ref CInvalidHouse, .ref CInvalidPlacement], false, rfl, hx v, SqT.of et, fun us hu => ClsV.all (.cons (.own _) (.cons (.own _) (.cons (.own _) (.cons (.own _) .nil)))) hu, kit_none fun c hc => ?_, by show 1 ≤ sizeLine; decide, fun l h => ?_⟩
    · simp only [List.mem_cons, List.not_mem_nil, or_false] at hc
      rcases hc with rfl | rfl | rfl | rfl
      · exact RBlocked.isnt RBatchFailed hE (by decide)
      · exact RBlocked.isnt RInvalidMoment hE (by decide)
      · exact RBlocked.isnt RInvalidHouse hE (by decide)
      · exact RBlocked.isnt RInvalidPlacement hE (by decide)
    have vn := same_upd (o := .lst [V.bl false]) h
    have en : (upd I4 l (.lst [V.bl false])) l = some (.lst [V.bl false]) := upd_same
    replace e := vn _ _ e
    generalize upd I4 l (.lst [V.bl false]) = G4 at *
    refine ⟨l4, l, _, _, rfl, rfl, e, en, le_szE (by simp), fun l5 h5 => ?_⟩
    have u5 := (v.trans vn).trans (same_upd (o := .lst ([V.bl false, V.bl false, V.bl false, V.bl true, V.bl false, V.bl false, V.bl false, V.bl false] ++ [V.bl false])) h5)
    have e5 : (upd G4 l5 (.lst ([V.bl false, V.bl false, V.bl false, V.bl true, V.bl false, V.bl false, V.bl false, V.bl false] ++ [V.bl false]))) l5 = some (.lst [V.bl false, V.bl false, V.bl false, V.bl true, V.bl false, V.bl false, V.bl false, V.bl false, V.bl false]) := upd_same
    generalize upd G4 l5 (.lst ([V.bl false, V.bl false, V.bl false, V.bl true, V.bl false, V.bl false, V.bl false, V.bl false] ++ [V.bl false])) = J5 at *
    clear u4 e4 v et e vn en
    refine ⟨by show 5 ≤ sizeLine; decide, fun w1 g1 => ?_⟩
    have v1 := same_upd (o := .lst [V.str "UnknownPerson", V.str "OtherRegion", V.str "TightRegion", V.str "Blocked", V.str "InvalidText"]) g1
    have f1 : (upd J5 w1 (.lst [V.str "UnknownPerson", V.str "OtherRegion", V.str "TightRegion", V.str "Blocked", V.str "InvalidText"])) w1 = some (.lst [V.str "UnknownPerson", V.str "OtherRegion", V.str "TightRegion", V.str "Blocked", V.str "InvalidText"]) := upd_same
    have e6 := v1 _ _ e5
    have u6 := u5.trans v1
    generalize upd J5 w1 (.lst [V.str "UnknownPerson", V.str "OtherRegion", V.str "TightRegion", V.str "Blocked", V.str "InvalidText"]) = J6 at *
    refine ⟨by show 1 ≤ sizeLine; decide, fun w2 g2 => ?_⟩
    have v2 := same_upd (o := .lst [V.str "other"]) g2
    have f2 : (upd J6 w2 (.lst [V.str "other"])) w2 = some (.lst [V.str "other"]) := upd_same
    replace f1 := v2 _ _ f1
    replace e6 := v2 _ _ e6
    replace u6 := u6.trans v2
    generalize upd J6 w2 (.lst [V.str "other"]) = J7 at *
    refine ⟨w2, 4, _, rfl, rfl, f2, by decide, by decide, by show 1 * 4 ≤ sizeLine; decide, fun w3 g3 => ?_⟩
    have er : (List.replicate (4 : Int).toNat [V.str "other"]).flatten = [V.str "other", V.str "other", V.str "other", V.str "other"] := rfl
    rw [er]
    have v3 := same_upd (o := .lst [V.str "other", V.str "other", V.str "other", V.str "other"]) g3
    have f3 : (upd J7 w3 (.lst [V.str "other", V.str "other", V.str "other", V.str "other"])) w3 = some (.lst [V.str "other", V.str "other", V.str "other", V.str "other"]) := upd_same
    replace f1 := v3 _ _ f1
    replace e6 := v3 _ _ e6
    replace u6 := u6.trans v3
    generalize upd J7 w3 (.lst [V.str "other", V.str "other", V.str "other", V.str "other"]) = J8 at *
    refine ⟨w1, w3, _, _, rfl, rfl, f1, f3, le_szE (by simp), fun w4 g4 => ?_⟩
    have v4 := same_upd (o := .lst ([V.str "UnknownPerson", V.str "OtherRegion", V.str "TightRegion", V.str "Blocked", V.str "InvalidText"] ++ [V.str "other", V.str "other", V.str "other", V.str "other"])) g4
    have f4 : (upd J8 w4 (.lst ([V.str "UnknownPerson", V.str "OtherRegion", V.str "TightRegion", V.str "Blocked", V.str "InvalidText"] ++ [V.str "other", V.str "other", V.str "other", V.str "other"]))) w4 = some (.lst ([V.str "UnknownPerson", V.str "OtherRegion", V.str "TightRegion", V.str "Blocked", V.str "InvalidText"] ++ [V.str "other", V.str "other", V.str "other", V.str "other"])) := upd_same
    replace e6 := v4 _ _ e6
    replace u6 := u6.trans v4
    generalize upd J8 w4 (.lst ([V.str "UnknownPerson", V.str "OtherRegion", V.str "TightRegion", V.str "Blocked", V.str "InvalidText"] ++ [V.str "other", V.str "other", V.str "other", V.str "other"])) = J9 at *
    refine ⟨_, rfl, .inl ⟨rfl, _, SqL.of e6⟩, l5, [false, false, false, true, false, false, false, false, false], rfl, rfl, SqL.of e6, rfl, _, rfl, iteNS rfl ?_⟩
    refine ⟨_, rfl, CBlocked, _, _, true, rfl, hx u6, .own _, RBlocked.he hE, _, rfl, iteF ?_⟩
    refine ⟨_, rfl, CBlocked, _, _, true, rfl, hx u6, .ty _, kitVE RBlocked.mro, _, rfl, iteF ?_⟩
    refine ⟨_, rfl, _, rfl, .inl ⟨rfl, _, SqL.of e6⟩, l5, _, _, 3, _, rfl, rfl, SqL.of e6, rfl, rfl, rfl, rfl, ?_, w4, _, _, _, rfl, rfl, SqL.of f4, atI_nat (j := 3) rfl, q _ u6⟩
    intro m z' hm hz'
    match m, hm, hz' with
    | 0, _, hz' => cases hz'; rfl
    | 1, _, hz' => cases hz'; rfl
    | 2, _, hz' => cases hz'; rfl
theorem ok_lec_UnknownPerson {f : Addr} {fd : FuncData} {k : Nat} {E CUnknownPerson : Addr} (F : Fun K "_law_error_class" "_law_error_class" sLErrorClass f fd) (T : Nm mg) (TValueError : mg "ValueError" = none) (hE : HE K mg E) (Es : Ers K mg E) (RUnknownPerson : Er K mg "UnknownPerson" "UnknownPerson.__init__" E CUnknownPerson) : FnE P w K mg base (k + 1) f fd ["_law_e"] (spLEC CUnknownPerson "UnknownPerson") := by
  obtain ⟨CInvalidRoom, RInvalidRoom⟩ := Es.InvalidRoom
  obtain ⟨CNotAdjacent, RNotAdjacent⟩ := Es.NotAdjacent
  obtain ⟨CEmptyRoom, REmptyRoom⟩ := Es.EmptyRoom
  obtain ⟨CInvalidMoves, RInvalidMoves⟩ := Es.InvalidMoves
  obtain ⟨COtherRegion, ROtherRegion⟩ := Es.OtherRegion
  obtain ⟨CTightRegion, RTightRegion⟩ := Es.TightRegion
  obtain ⟨CBlocked, RBlocked⟩ := Es.Blocked
  obtain ⟨CInvalidName, RInvalidName⟩ := Es.InvalidName
  obtain ⟨CDuplicateName, RDuplicateName⟩ := Es.DuplicateName
  obtain ⟨CLimitReached, RLimitReached⟩ := Es.LimitReached
  obtain ⟨CAlreadyAdjacent, RAlreadyAdjacent⟩ := Es.AlreadyAdjacent
  obtain ⟨CWouldFormCycle, RWouldFormCycle⟩ := Es.WouldFormCycle
  obtain ⟨CBatchFailed, RBatchFailed⟩ := Es.BatchFailed
  obtain ⟨CInvalidMoment, RInvalidMoment⟩ := Es.InvalidMoment
  obtain ⟨CInvalidText, RInvalidText⟩ := Es.InvalidText
  obtain ⟨CNothingToUndo, RNothingToUndo⟩ := Es.NothingToUndo
  obtain ⟨CHistoryFull, RHistoryFull⟩ := Es.HistoryFull
  obtain ⟨CSessionBusy, RSessionBusy⟩ := Es.SessionBusy
  obtain ⟨CInvalidActions, RInvalidActions⟩ := Es.InvalidActions
  obtain ⟨CInvalidHouse, RInvalidHouse⟩ := Es.InvalidHouse
  obtain ⟨CInvalidPlacement, RInvalidPlacement⟩ := Es.InvalidPlacement
  refine Fun.okE F scLErrorClass (fun a c d vs H Q h => ?_) (fun cdv A outer s H vs Q p c d hz hf hr h => ?_)
  · obtain ⟨rfl, _⟩ := h
    rfl
  · obtain ⟨rfl, rfl, hd, q⟩ := h
    obtain ⟨a, oe⟩ := p
    have hm : (a, oe) ∈ [(a, oe)] := List.mem_singleton_self _
    refine ⟨_, (pss_cons (ps_set (i := 1) scLErrorClass.nd rfl (.inl rfl) (pe_lst (pa_cons (pe_callB (call_isCp K rfl hm hz hf) (by rfl) T.isinstance (by decide +kernel) (pa_cons (pv 0) (pa_cons (pe_glob (v := .ref CUnknownPerson) (by rfl) RUnknownPerson.g rfl) pa_nil))) (pa_cons (pe_callB (call_isCp K rfl hm hz hf) (by rfl) T.isinstance (by decide +kernel) (pa_cons (pv 0) (pa_cons (pe_glob (v := .ref COtherRegion) (by rfl) ROtherRegion.g rfl) pa_nil))) (pa_cons (pe_callB (call_isCp K rfl hm hz hf) (by rfl) T.isinstance (by decide +kernel) (pa_cons (pv 0) (pa_cons (pe_glob (v := .ref CTightRegion) (by rfl) RTightRegion.g rfl) pa_nil))) pa_nil)))))
      (pss_cons (ps_set (i := 1) scLErrorClass.nd rfl (.inl rfl) (pe_op op_cat (pv 1) (pe_lst (pa_cons (pe_callB (call_isCp K rfl hm hz hf) (by rfl) T.isinstance (by decide +kernel) (pa_cons (pv 0) (pa_cons (pe_glob (v := .ref CBlocked) (by rfl) RBlocked.g rfl) pa_nil))) (pa_cons (pe_callB (call_isCp K rfl hm hz hf) (by rfl) T.isinstance (by decide +kernel) (pa_cons (pv 0) (pa_cons (pe_glob (v := .ref CInvalidText) (by rfl) RInvalidText.g rfl) pa_nil))) pa_nil)))))
      (pss_cons (ps_set (i := 1) scLErrorClass.nd rfl (.inl rfl) (pe_op op_cat (pv 1) (pe_lst (pa_cons (pe_callB (call_isTp K rfl hm hz hf) (by rfl) T.isinstance (by decide +kernel) (pa_cons (pv 0) (pa_cons (pe_tup (pa_cons (pe_glob (v := .ref CInvalidRoom) (by rfl) RInvalidRoom.g rfl) (pa_cons (pe_glob (v := .ref CNotAdjacent) (by rfl) RNotAdjacent.g rfl) (pa_cons (pe_glob (v := .ref CEmptyRoom) (by rfl) REmptyRoom.g rfl) (pa_cons (pe_glob (v := .ref CInvalidMoves) (by rfl) RInvalidMoves.g rfl) (pa_cons (pe_glob (v := .ref CInvalidName) (by rfl) RInvalidName.g rfl) pa_nil)))))) pa_nil))) pa_nil))))
      (pss_cons (ps_set (i := 1) scLErrorClass.nd rfl (.inl rfl) (pe_op op_cat (pv 1) (pe_lst (pa_cons (pe_callB (call_isTp K rfl hm hz hf) (by rfl) T.isinstance (by decide +kernel) (pa_cons (pv 0) (pa_cons (pe_tup (pa_cons (pe_glob (v := .ref CDuplicateName) (by rfl) RDuplicateName.g rfl) (pa_cons (pe_glob (v := .ref CLimitReached) (by rfl) RLimitReached.g rfl) (pa_cons (pe_glob (v := .ref CAlreadyAdjacent) (by rfl) RAlreadyAdjacent.g rfl) (pa_cons (pe_glob (v := .ref CWouldFormCycle) (by rfl) RWouldFormCycle.g rfl) pa_nil))))) pa_nil))) pa_nil))))
      (pss_cons (ps_set (i := 1) scLErrorClass.nd rfl (.inl rfl) (pe_op op_cat (pv 1) (pe_lst (pa_cons (pe_callB (call_isTp K rfl hm hz hf) (by rfl) T.isinstance (by decide +kernel) (pa_cons (pv 0) (pa_cons (pe_tup (pa_cons (pe_glob (v := .ref CNothingToUndo) (by rfl) RNothingToUndo.g rfl) (pa_cons (pe_glob (v := .ref CHistoryFull) (by rfl) RHistoryFull.g rfl) (pa_cons (pe_glob (v := .ref CSessionBusy) (by rfl) RSessionBusy.g rfl) (pa_cons (pe_glob (v := .ref CInvalidActions) (by rfl) RInvalidActions.g rfl) pa_nil))))) pa_nil))) pa_nil))))
      (pss_cons (ps_set (i := 1) scLErrorClass.nd rfl (.inl rfl) (pe_op op_cat (pv 1) (pe_lst (pa_cons (pe_callB (call_isTp K rfl hm hz hf) (by rfl) T.isinstance (by decide +kernel) (pa_cons (pv 0) (pa_cons (pe_tup (pa_cons (pe_glob (v := .ref CBatchFailed) (by rfl) RBatchFailed.g rfl) (pa_cons (pe_glob (v := .ref CInvalidMoment) (by rfl) RInvalidMoment.g rfl) (pa_cons (pe_glob (v := .ref CInvalidHouse) (by rfl) RInvalidHouse.g rfl) (pa_cons (pe_glob (v := .ref CInvalidPlacement) (by rfl) RInvalidPlacement.g rfl) pa_nil))))) pa_nil))) pa_nil))))
      (pss_cons (ps_set (i := 2) scLErrorClass.nd rfl (.inl rfl) (pe_op op_cat (pe_lst (pa_cons pe_str (pa_cons pe_str (pa_cons pe_str (pa_cons pe_str (pa_cons pe_str pa_nil)))))) (pe_op op_rep (pe_lst (pa_cons pe_str pa_nil)) pe_int)))
      (pss_cons (ps_if (PW.pt (pw_or (pt_cmpR op_ne (tellK (K := K) rfl <| pe_bm PySem.F.plainAttrs_list PySem.F.slot_list_count PySem.F.type_list_count (mt_countK K rfl) (pv 1) (pa_cons pe_bl pa_nil)) pe_int (nomark _)) (pw_or (pt_not (pt_val (pe_callB (call_isCp K rfl hm hz hf) (by rfl) T.isinstance (by decide +kernel) (pa_cons (pv 0) (pa_cons (pe_glob (v := .ref E) (by rfl) hE.g rfl) pa_nil))))) (pw_or1 (pt_not (pt_val (pe_callB (call_isCp K rfl hm hz hf) (by rfl) T.isinstance (by decide +kernel) (pa_cons (pv 0) (pa_cons (pe_bltn (v := .ty "ValueError") (by rfl) TValueError (by decide +kernel) rfl) pa_nil)))))))))
      (pss_one (ps_ret pe_str))
      pss_nil)
      (pss_one (ps_ret (pe_ix (ix_listK K rfl) (pv 2) (tellK (K := K) rfl <| pe_bm PySem.F.plainAttrs_list PySem.F.slot_list_index PySem.F.type_list_index (mt_indexK K rfl) (pv 1) (pa_cons pe_bl pa_nil)) (fun _ _ => rfl)))))))))))), ?_⟩
    have hx : ∀ {H' : Hp}, Same H H' → HeldX K (.ref CUnknownPerson) d CUnknownPerson H' := fun {H'} s' => ⟨rfl, RUnknownPerson.e, fun dx e => by
      obtain ⟨fs, e2⟩ := hd dx e
      exact ⟨fs, s' _ _ e2⟩⟩
    refine ⟨_, rfl, CUnknownPerson, _, _, true, rfl, hx (Same.refl _), .own _, RUnknownPerson.is, _, rfl, CUnknownPerson, _, _, false, rfl, hx (Same.refl _), .own _, RUnknownPerson.isnt ROtherRegion hE (by decide), _, rfl, CUnknownPerson, _, _, false, rfl, hx (Same.refl _), .own _, RUnknownPerson.isnt RTightRegion hE (by decide), by show 3 ≤ sizeLine; decide, fun l0 h0 => ?_⟩
    have u0 := same_upd (o := .lst [V.bl true, V.bl false, V.bl false]) h0
    have e0 : (upd H l0 (.lst [V.bl true, V.bl false, V.bl false])) l0 = some (.lst [V.bl true, V.bl false, V.bl false]) := upd_same
    generalize upd H l0 (.lst [V.bl true, V.bl false, V.bl false]) = J0 at *
    refine ⟨_, rfl, _, rfl, CUnknownPerson, _, _, false, rfl, hx u0, .own _, RUnknownPerson.isnt RBlocked hE (by decide), _, rfl, CUnknownPerson, _, _, false, rfl, hx u0, .own _, RUnknownPerson.isnt RInvalidText hE (by decide), by show 2 ≤ sizeLine; decide, fun l h => ?_⟩
    have v := same_upd (o := .lst [V.bl false, V.bl false]) h
    have e : (upd J0 l (.lst [V.bl false, V.bl false])) l = some (.lst [V.bl false, V.bl false]) := upd_same
    have w := u0.trans v
    have e0' := v _ _ e0
    generalize upd J0 l (.lst [V.bl false, V.bl false]) = I0 at *
    refine ⟨l0, l, _, _, rfl, rfl, e0', e, le_szE (by simp), fun l1 h1 => ?_⟩
    have u1 := w.trans (same_upd (o := .lst ([V.bl true, V.bl false, V.bl false] ++ [V.bl false, V.bl false])) h1)
    have e1 : (upd I0 l1 (.lst ([V.bl true, V.bl false, V.bl false] ++ [V.bl false, V.bl false]))) l1 = some (.lst [V.bl true, V.bl false, V.bl false, V.bl false, V.bl false]) := upd_same
    generalize upd I0 l1 (.lst ([V.bl true, V.bl false, V.bl false] ++ [V.bl false, V.bl false])) = J1 at *
    clear u0 e0 e0' w v e
    refine ⟨_, rfl, _, rfl, by show 5 ≤ sizeLine; decide, fun t ht => ?_⟩
    have v := u1.trans (same_upd (o := .tup [V.ref CInvalidRoom, V.ref CNotAdjacent, V.ref CEmptyRoom, V.ref CInvalidMoves, V.ref CInvalidName]) ht)
    have et : (upd J1 t (.tup [V.ref CInvalidRoom, V.ref CNotAdjacent, V.ref CEmptyRoom, V.ref CInvalidMoves, V.ref CInvalidName])) t = some (.tup [V.ref CInvalidRoom, V.ref CNotAdjacent, V.ref CEmptyRoom, V.ref CInvalidMoves, V.ref CInvalidName]) := upd_same
    have e := same_upd (o := .tup [V.ref CInvalidRoom, V.ref CNotAdjacent, V.ref CEmptyRoom, V.ref CInvalidMoves, V.ref CInvalidName]) ht _ _ e1
    generalize upd J1 t (.tup [V.ref CInvalidRoom, V.ref CNotAdjacent, V.ref CEmptyRoom, V.ref CInvalidMoves, V.ref CInvalidName]) = I1 at *
    refine ⟨CUnknownPerson, t, _, [.ref CInvalidRoom, .ref CNotAdjacent, .ref CEmptyRoom, .ref CInvalidMoves, .ref CInvalidName], false, rfl, hx v, SqT.of et, fun us hu => ClsV.all (.cons (.own _) (.cons (.own _) (.cons (.own _) (.cons (.own _) (.cons (.own _) .nil))))) hu, kit_none fun c hc => ?_, by show 1 ≤ sizeLine; decide, fun l h => ?_⟩
    · simp only [List.mem_cons, List.not_mem_nil, or_false] at hc
      rcases hc with rfl | rfl | rfl | rfl | rfl
      · exact RUnknownPerson.isnt RInvalidRoom hE (by decide)
      · exact RUnknownPerson.isnt RNotAdjacent hE (by decide)
      · exact RUnknownPerson.isnt REmptyRoom hE (by decide)
      · exact RUnknownPerson.isnt RInvalidMoves hE (by decide)
      · exact RUnknownPerson.isnt RInvalidName hE (by decide)
    have vn := same_upd (o := .lst [V.bl false]) h
    have en : (upd I1 l (.lst [V.bl false])) l = some (.lst [V.bl false]) := upd_same
    replace e := vn _ _ e
    generalize upd I1 l (.lst [V.bl false]) = G1 at *
    refine ⟨l1, l, _, _, rfl, rfl, e, en, le_szE (by simp), fun l2 h2 => ?_⟩
    have u2 := (v.trans vn).trans (same_upd (o := .lst ([V.bl true, V.bl false, V.bl false, V.bl false, V.bl false] ++ [V.bl false])) h2)
    have e2 : (upd G1 l2 (.lst ([V.bl true, V.bl false, V.bl false, V.bl false, V.bl false] ++ [V.bl false]))) l2 = some (.lst [V.bl true, V.bl false, V.bl false, V.bl false, V.bl false, V.bl false]) := upd_same
    generalize upd G1 l2 (.lst ([V.bl true, V.bl false, V.bl false, V.bl false, V.bl false] ++ [V.bl false])) = J2 at *
    clear u1 e1 v et e vn en
    refine ⟨_, rfl, _, rfl, by show 4 ≤ sizeLine; decide, fun t ht => ?_⟩
    have v := u2.trans (same_upd (o := .tup [V.ref CDuplicateName, V.ref CLimitReached, V.ref CAlreadyAdjacent, V.ref CWouldFormCycle]) ht)
    have et : (upd J2 t (.tup [V.ref CDuplicateName, V.ref CLimitReached, V.ref CAlreadyAdjacent, V.ref CWouldFormCycle])) t = some (.tup [V.ref CDuplicateName, V.ref CLimitReached, V.ref CAlreadyAdjacent, V.ref CWouldFormCycle]) := upd_same
    have e := same_upd (o := .tup [V.ref CDuplicateName, V.ref CLimitReached, V.ref CAlreadyAdjacent, V.ref CWouldFormCycle]) ht _ _ e2
    generalize upd J2 t (.tup [V.ref CDuplicateName, V.ref CLimitReached, V.ref CAlreadyAdjacent, V.ref CWouldFormCycle]) = I2 at *
    refine ⟨CUnknownPerson, t, _, [.ref CDuplicateName, .ref CLimitReached, .ref CAlreadyAdjacent, .ref CWouldFormCycle], false, rfl, hx v, SqT.of et, fun us hu => ClsV.all (.cons (.own _) (.cons (.own _) (.cons (.own _) (.cons (.own _) .nil)))) hu, kit_none fun c hc => ?_, by show 1 ≤ sizeLine; decide, fun l h => ?_⟩
    · simp only [List.mem_cons, List.not_mem_nil, or_false] at hc
      rcases hc with rfl | rfl | rfl | rfl
      · exact RUnknownPerson.isnt RDuplicateName hE (by decide)
      · exact RUnknownPerson.isnt RLimitReached hE (by decide)
      · exact RUnknownPerson.isnt RAlreadyAdjacent hE (by decide)
      · exact RUnknownPerson.isnt RWouldFormCycle hE (by decide)
    have vn := same_upd (o := .lst [V.bl false]) h
    have en : (upd I2 l (.lst [V.bl false])) l = some (.lst [V.bl false]) := upd_same
    replace e := vn _ _ e
    generalize upd I2 l (.lst [V.bl false]) = G2 at *
    refine ⟨l2, l, _, _, rfl, rfl, e, en, le_szE (by simp), fun l3 h3 => ?_⟩
    have u3 := (v.trans vn).trans (same_upd (o := .lst ([V.bl true, V.bl false, V.bl false, V.bl false, V.bl false, V.bl false] ++ [V.bl false])) h3)
    have e3 : (upd G2 l3 (.lst ([V.bl true, V.bl false, V.bl false, V.bl false, V.bl false, V.bl false] ++ [V.bl false]))) l3 = some (.lst [V.bl true, V.bl false, V.bl false, V.bl false, V.bl false, V.bl false, V.bl false]) := upd_same
    generalize upd G2 l3 (.lst ([V.bl true, V.bl false, V.bl false, V.bl false, V.bl false, V.bl false] ++ [V.bl false])) = J3 at *
    clear u2 e2 v et e vn en
    refine ⟨_, rfl, _, rfl, by show 4 ≤ sizeLine; decide, fun t ht => ?_⟩
    have v := u3.trans (same_upd (o := .tup [V.ref CNothingToUndo, V.ref CHistoryFull, V.ref CSessionBusy, V.ref CInvalidActions]) ht)
    have et : (upd J3 t (.tup [V.ref CNothingToUndo, V.ref CHistoryFull, V.ref CSessionBusy, V.ref CInvalidActions])) t = some (.tup [V.ref CNothingToUndo, V.ref CHistoryFull, V.ref CSessionBusy, V.ref CInvalidActions]) := upd_same
    have e := same_upd (o := .tup [V.ref CNothingToUndo, V.ref CHistoryFull, V.ref CSessionBusy, V.ref CInvalidActions]) ht _ _ e3
    generalize upd J3 t (.tup [V.ref CNothingToUndo, V.ref CHistoryFull, V.ref CSessionBusy, V.ref CInvalidActions]) = I3 at *
    refine ⟨CUnknownPerson, t, _, [.ref CNothingToUndo, .ref CHistoryFull, .ref CSessionBusy, .ref CInvalidActions], false, rfl, hx v, SqT.of et, fun us hu => ClsV.all (.cons (.own _) (.cons (.own _) (.cons (.own _) (.cons (.own _) .nil)))) hu, kit_none fun c hc => ?_, by show 1 ≤ sizeLine; decide, fun l h => ?_⟩
    · simp only [List.mem_cons, List.not_mem_nil, or_false] at hc
      rcases hc with rfl | rfl | rfl | rfl
      · exact RUnknownPerson.isnt RNothingToUndo hE (by decide)
      · exact RUnknownPerson.isnt RHistoryFull hE (by decide)
      · exact RUnknownPerson.isnt RSessionBusy hE (by decide)
      · exact RUnknownPerson.isnt RInvalidActions hE (by decide)
    have vn := same_upd (o := .lst [V.bl false]) h
    have en : (upd I3 l (.lst [V.bl false])) l = some (.lst [V.bl false]) := upd_same
    replace e := vn _ _ e
    generalize upd I3 l (.lst [V.bl false]) = G3 at *
    refine ⟨l3, l, _, _, rfl, rfl, e, en, le_szE (by simp), fun l4 h4 => ?_⟩
    have u4 := (v.trans vn).trans (same_upd (o := .lst ([V.bl true, V.bl false, V.bl false, V.bl false, V.bl false, V.bl false, V.bl false] ++ [V.bl false])) h4)
    have e4 : (upd G3 l4 (.lst ([V.bl true, V.bl false, V.bl false, V.bl false, V.bl false, V.bl false, V.bl false] ++ [V.bl false]))) l4 = some (.lst [V.bl true, V.bl false, V.bl false, V.bl false, V.bl false, V.bl false, V.bl false, V.bl false]) := upd_same
    generalize upd G3 l4 (.lst ([V.bl true, V.bl false, V.bl false, V.bl false, V.bl false, V.bl false, V.bl false] ++ [V.bl false])) = J4 at *
    clear u3 e3 v et e vn en
    refine ⟨_, rfl, _, rfl, by show 4 ≤ sizeLine; decide, fun t ht => ?_⟩
    have v := u4.trans (same_upd (o := .tup [V.ref CBatchFailed, V.ref CInvalidMoment, V.ref CInvalidHouse, V.ref CInvalidPlacement]) ht)
    have et : (upd J4 t (.tup [V.ref CBatchFailed, V.ref CInvalidMoment, V.ref CInvalidHouse, V.ref CInvalidPlacement])) t = some (.tup [V.ref CBatchFailed, V.ref CInvalidMoment, V.ref CInvalidHouse, V.ref CInvalidPlacement]) := upd_same
    have e := same_upd (o := .tup [V.ref CBatchFailed, V.ref CInvalidMoment, V.ref CInvalidHouse, V.ref CInvalidPlacement]) ht _ _ e4
    generalize upd J4 t (.tup [V.ref CBatchFailed, V.ref CInvalidMoment, V.ref CInvalidHouse, V.ref CInvalidPlacement]) = I4 at *
    refine ⟨CUnknownPerson, t, _, [.ref CBatchFailed, .ref CInvalidMoment, .ref CInvalidHouse, .ref CInvalidPlacement], false, rfl, hx v, SqT.of et, fun us hu => ClsV.all (.cons (.own _) (.cons (.own _) (.cons (.own _) (.cons (.own _) .nil)))) hu, kit_none fun c hc => ?_, by show 1 ≤ sizeLine; decide, fun l h => ?_⟩
    · simp only [List.mem_cons, List.not_mem_nil, or_false] at hc
      rcases hc with rfl | rfl | rfl | rfl
      · exact RUnknownPerson.isnt RBatchFailed hE (by decide)
      · exact RUnknownPerson.isnt RInvalidMoment hE (by decide)
      · exact RUnknownPerson.isnt RInvalidHouse hE (by decide)
      · exact RUnknownPerson.isnt RInvalidPlacement hE (by decide)
    have vn := same_upd (o := .lst [V.bl false]) h
    have en : (upd I4 l (.lst [V.bl false])) l = some (.lst [V.bl false]) := upd_same
    replace e := vn _ _ e
    generalize upd I4 l (.lst [V.bl false]) = G4 at *
    refine ⟨l4, l, _, _, rfl, rfl, e, en, le_szE (by simp), fun l5 h5 => ?_⟩
    have u5 := (v.trans vn).trans (same_upd (o := .lst ([V.bl true, V.bl false, V.bl false, V.bl false, V.bl false, V.bl false, V.bl false, V.bl false] ++ [V.bl false])) h5)
    have e5 : (upd G4 l5 (.lst ([V.bl true, V.bl false, V.bl false, V.bl false, V.bl false, V.bl false, V.bl false, V.bl false] ++ [V.bl false]))) l5 = some (.lst [V.bl true, V.bl false, V.bl false, V.bl false, V.bl false, V.bl false, V.bl false, V.bl false, V.bl false]) := upd_same
    generalize upd G4 l5 (.lst ([V.bl true, V.bl false, V.bl false, V.bl false, V.bl false, V.bl false, V.bl false, V.bl false] ++ [V.bl false])) = J5 at *
    clear u4 e4 v et e vn en
    refine ⟨by show 5 ≤ sizeLine; decide, fun w1 g1 => ?_⟩
    have v1 := same_upd (o := .lst [V.str "UnknownPerson", V.str "OtherRegion", V.str "TightRegion", V.str "Blocked", V.str "InvalidText"]) g1
    have f1 : (upd J5 w1 (.lst [V.str "UnknownPerson", V.str "OtherRegion", V.str "TightRegion", V.str "Blocked", V.str "InvalidText"])) w1 = some (.lst [V.str "UnknownPerson", V.str "OtherRegion", V.str "TightRegion", V.str "Blocked", V.str "InvalidText"]) := upd_same
    have e6 := v1 _ _ e5
    have u6 := u5.trans v1
    generalize upd J5 w1 (.lst [V.str "UnknownPerson", V.str "OtherRegion", V.str "TightRegion", V.str "Blocked", V.str "InvalidText"]) = J6 at *
    refine ⟨by show 1 ≤ sizeLine; decide, fun w2 g2 => ?_⟩
    have v2 := same_upd (o := .lst [V.str "other"]) g2
    have f2 : (upd J6 w2 (.lst [V.str "other"])) w2 = some (.lst [V.str "other"]) := upd_same
    replace f1 := v2 _ _ f1
    replace e6 := v2 _ _ e6
    replace u6 := u6.trans v2
    generalize upd J6 w2 (.lst [V.str "other"]) = J7 at *
    refine ⟨w2, 4, _, rfl, rfl, f2, by decide, by decide, by show 1 * 4 ≤ sizeLine; decide, fun w3 g3 => ?_⟩
    have er : (List.replicate (4 : Int).toNat [V.str "other"]).flatten = [V.str "other", V.str "other", V.str "other", V.str "other"] := rfl
    rw [er]
    have v3 := same_upd (o := .lst [V.str "other", V.str "other", V.str "other", V.str "other"]) g3
    have f3 : (upd J7 w3 (.lst [V.str "other", V.str "other", V.str "other", V.str "other"])) w3 = some (.lst [V.str "other", V.str "other", V.str "other", V.str "other"]) := upd_same
    replace f1 := v3 _ _ f1
    replace e6 := v3 _ _ e6
    replace u6 := u6.trans v3
    generalize upd J7 w3 (.lst [V.str "other", V.str "other", V.str "other", V.str "other"]) = J8 at *
    refine ⟨w1, w3, _, _, rfl, rfl, f1, f3, le_szE (by simp), fun w4 g4 => ?_⟩
    have v4 := same_upd (o := .lst ([V.str "UnknownPerson", V.str "OtherRegion", V.str "TightRegion", V.str "Blocked", V.str "InvalidText"] ++ [V.str "other", V.str "other", V.str "other", V.str "other"])) g4
    have f4 : (upd J8 w4 (.lst ([V.str "UnknownPerson", V.str "OtherRegion", V.str "TightRegion", V.str "Blocked", V.str "InvalidText"] ++ [V.str "other", V.str "other", V.str "other", V.str "other"]))) w4 = some (.lst ([V.str "UnknownPerson", V.str "OtherRegion", V.str "TightRegion", V.str "Blocked", V.str "InvalidText"] ++ [V.str "other", V.str "other", V.str "other", V.str "other"])) := upd_same
    replace e6 := v4 _ _ e6
    replace u6 := u6.trans v4
    generalize upd J8 w4 (.lst ([V.str "UnknownPerson", V.str "OtherRegion", V.str "TightRegion", V.str "Blocked", V.str "InvalidText"] ++ [V.str "other", V.str "other", V.str "other", V.str "other"])) = J9 at *
    refine ⟨_, rfl, .inl ⟨rfl, _, SqL.of e6⟩, l5, [true, false, false, false, false, false, false, false, false], rfl, rfl, SqL.of e6, rfl, _, rfl, iteNS rfl ?_⟩
    refine ⟨_, rfl, CUnknownPerson, _, _, true, rfl, hx u6, .own _, RUnknownPerson.he hE, _, rfl, iteF ?_⟩
    refine ⟨_, rfl, CUnknownPerson, _, _, true, rfl, hx u6, .ty _, kitVE RUnknownPerson.mro, _, rfl, iteF ?_⟩
    refine ⟨_, rfl, _, rfl, .inl ⟨rfl, _, SqL.of e6⟩, l5, _, _, 0, _, rfl, rfl, SqL.of e6, rfl, rfl, rfl, rfl, ?_, w4, _, _, _, rfl, rfl, SqL.of f4, atI_nat (j := 0) rfl, q _ u6⟩
    intro m z' hm hz'
    exact absurd hm (Nat.not_lt_zero m)
theorem ok_lec_OtherRegion {f : Addr} {fd : FuncData} {k : Nat} {E COtherRegion : Addr} (F : Fun K "_law_error_class" "_law_error_class" sLErrorClass f fd) (T : Nm mg) (TValueError : mg "ValueError" = none) (hE : HE K mg E) (Es : Ers K mg E) (ROtherRegion : Er K mg "OtherRegion" "OtherRegion.__init__" E COtherRegion) : FnE P w K mg base (k + 1) f fd ["_law_e"] (spLEC COtherRegion "OtherRegion") := by
  obtain ⟨CUnknownPerson, RUnknownPerson⟩ := Es.UnknownPerson
  obtain ⟨CInvalidRoom, RInvalidRoom⟩ := Es.InvalidRoom
  obtain ⟨CNotAdjacent, RNotAdjacent⟩ := Es.NotAdjacent
  obtain ⟨CEmptyRoom, REmptyRoom⟩ := Es.EmptyRoom
  obtain ⟨CInvalidMoves, RInvalidMoves⟩ := Es.InvalidMoves
  obtain ⟨CTightRegion, RTightRegion⟩ := Es.TightRegion
  obtain ⟨CBlocked, RBlocked⟩ := Es.Blocked
  obtain ⟨CInvalidName, RInvalidName⟩ := Es.InvalidName
  obtain ⟨CDuplicateName, RDuplicateName⟩ := Es.DuplicateName
  obtain ⟨CLimitReached, RLimitReached⟩ := Es.LimitReached
  obtain ⟨CAlreadyAdjacent, RAlreadyAdjacent⟩ := Es.AlreadyAdjacent
  obtain ⟨CWouldFormCycle, RWouldFormCycle⟩ := Es.WouldFormCycle
  obtain ⟨CBatchFailed, RBatchFailed⟩ := Es.BatchFailed
  obtain ⟨CInvalidMoment, RInvalidMoment⟩ := Es.InvalidMoment
  obtain ⟨CInvalidText, RInvalidText⟩ := Es.InvalidText
  obtain ⟨CNothingToUndo, RNothingToUndo⟩ := Es.NothingToUndo
  obtain ⟨CHistoryFull, RHistoryFull⟩ := Es.HistoryFull
  obtain ⟨CSessionBusy, RSessionBusy⟩ := Es.SessionBusy
  obtain ⟨CInvalidActions, RInvalidActions⟩ := Es.InvalidActions
  obtain ⟨CInvalidHouse, RInvalidHouse⟩ := Es.InvalidHouse
  obtain ⟨CInvalidPlacement, RInvalidPlacement⟩ := Es.InvalidPlacement
  refine Fun.okE F scLErrorClass (fun a c d vs H Q h => ?_) (fun cdv A outer s H vs Q p c d hz hf hr h => ?_)
  · obtain ⟨rfl, _⟩ := h
    rfl
  · obtain ⟨rfl, rfl, hd, q⟩ := h
    obtain ⟨a, oe⟩ := p
    have hm : (a, oe) ∈ [(a, oe)] := List.mem_singleton_self _
    refine ⟨_, (pss_cons (ps_set (i := 1) scLErrorClass.nd rfl (.inl rfl) (pe_lst (pa_cons (pe_callB (call_isCp K rfl hm hz hf) (by rfl) T.isinstance (by decide +kernel) (pa_cons (pv 0) (pa_cons (pe_glob (v := .ref CUnknownPerson) (by rfl) RUnknownPerson.g rfl) pa_nil))) (pa_cons (pe_callB (call_isCp K rfl hm hz hf) (by rfl) T.isinstance (by decide +kernel) (pa_cons (pv 0) (pa_cons (pe_glob (v := .ref COtherRegion) (by rfl) ROtherRegion.g rfl) pa_nil))) (pa_cons (pe_callB (call_isCp K rfl hm hz hf) (by rfl) T.isinstance (by decide +kernel) (pa_cons (pv 0) (pa_cons (pe_glob (v := .ref CTightRegion) (by rfl) RTightRegion.g rfl) pa_nil))) pa_nil)))))
      (pss_cons (ps_set (i := 1) scLErrorClass.nd rfl (.inl rfl) (pe_op op_cat (pv 1) (pe_lst (pa_cons (pe_callB (call_isCp K rfl hm hz hf) (by rfl) T.isinstance (by decide +kernel) (pa_cons (pv 0) (pa_cons (pe_glob (v := .ref CBlocked) (by rfl) RBlocked.g rfl) pa_nil))) (pa_cons (pe_callB (call_isCp K rfl hm hz hf) (by rfl) T.isinstance (by decide +kernel) (pa_cons (pv 0) (pa_cons (pe_glob (v := .ref CInvalidText) (by rfl) RInvalidText.g rfl) pa_nil))) pa_nil)))))
      (pss_cons (ps_set (i := 1) scLErrorClass.nd rfl (.inl rfl) (pe_op op_cat (pv 1) (pe_lst (pa_cons (pe_callB (call_isTp K rfl hm hz hf) (by rfl) T.isinstance (by decide +kernel) (pa_cons (pv 0) (pa_cons (pe_tup (pa_cons (pe_glob (v := .ref CInvalidRoom) (by rfl) RInvalidRoom.g rfl) (pa_cons (pe_glob (v := .ref CNotAdjacent) (by rfl) RNotAdjacent.g rfl) (pa_cons (pe_glob (v := .ref CEmptyRoom) (by rfl) REmptyRoom.g rfl) (pa_cons (pe_glob (v := .ref CInvalidMoves) (by rfl) RInvalidMoves.g rfl) (pa_cons (pe_glob (v := .ref CInvalidName) (by rfl) RInvalidName.g rfl) pa_nil)))))) pa_nil))) pa_nil))))
      (pss_cons (ps_set (i := 1) scLErrorClass.nd rfl (.inl rfl) (pe_op op_cat (pv 1) (pe_lst (pa_cons (pe_callB (call_isTp K rfl hm hz hf) (by rfl) T.isinstance (by decide +kernel) (pa_cons (pv 0) (pa_cons (pe_tup (pa_cons (pe_glob (v := .ref CDuplicateName) (by rfl) RDuplicateName.g rfl) (pa_cons (pe_glob (v := .ref CLimitReached) (by rfl) RLimitReached.g rfl) (pa_cons (pe_glob (v := .ref CAlreadyAdjacent) (by rfl) RAlreadyAdjacent.g rfl) (pa_cons (pe_glob (v := .ref CWouldFormCycle) (by rfl) RWouldFormCycle.g rfl) pa_nil))))) pa_nil))) pa_nil))))
      (pss_cons (ps_set (i := 1) scLErrorClass.nd rfl (.inl rfl) (pe_op op_cat (pv 1) (pe_lst (pa_cons (pe_callB (call_isTp K rfl hm hz hf) (by rfl) T.isinstance (by decide +kernel) (pa_cons (pv 0) (pa_cons (pe_tup (pa_cons (pe_glob (v := .ref CNothingToUndo) (by rfl) RNothingToUndo.g rfl) (pa_cons (pe_glob (v := .ref CHistoryFull) (by rfl) RHistoryFull.g rfl) (pa_cons (pe_glob (v := .ref CSessionBusy) (by rfl) RSessionBusy.g rfl) (pa_cons (pe_glob (v := .ref CInvalidActions) (by rfl) RInvalidActions.g rfl) pa_nil))))) pa_nil))) pa_nil))))
      (pss_cons (ps_set (i := 1) scLErrorClass.nd rfl (.inl rfl) (pe_op op_cat (pv 1) (pe_lst (pa_cons (pe_callB (call_isTp K rfl hm hz hf) (by rfl) T.isinstance (by decide +kernel) (pa_cons (pv 0) (pa_cons (pe_tup (pa_cons (pe_glob (v := .ref CBatchFailed) (by rfl) RBatchFailed.g rfl) (pa_cons (pe_glob (v := .ref CInvalidMoment) (by rfl) RInvalidMoment.g rfl) (pa_cons (pe_glob (v := .ref CInvalidHouse) (by rfl) RInvalidHouse.g rfl) (pa_cons (pe_glob (v := .ref CInvalidPlacement) (by rfl) RInvalidPlacement.g rfl) pa_nil))))) pa_nil))) pa_nil))))
      (pss_cons (ps_set (i := 2) scLErrorClass.nd rfl (.inl rfl) (pe_op op_cat (pe_lst (pa_cons pe_str (pa_cons pe_str (pa_cons pe_str (pa_cons pe_str (pa_cons pe_str pa_nil)))))) (pe_op op_rep (pe_lst (pa_cons pe_str pa_nil)) pe_int)))
      (pss_cons (ps_if (PW.pt (pw_or (pt_cmpR op_ne (tellK (K := K) rfl <| pe_bm PySem.F.plainAttrs_list PySem.F.slot_list_count PySem.F.type_list_count (mt_countK K rfl) (pv 1) (pa_cons pe_bl pa_nil)) pe_int (nomark _)) (pw_or (pt_not (pt_val (pe_callB (call_isCp K rfl hm hz hf) (by rfl) T.isinstance (by decide +kernel) (pa_cons (pv 0) (pa_cons (pe_glob (v := .ref E) (by rfl) hE.g rfl) pa_nil))))) (pw_or1 (pt_not (pt_val (pe_callB (call_isCp K rfl hm hz hf) (by rfl) T.isinstance (by decide +kernel) (pa_cons (pv 0) (pa_cons (pe_bltn (v := .ty "ValueError") (by rfl) TValueError (by decide +kernel) rfl) pa_nil)))))))))
      (pss_one (ps_ret pe_str))
      pss_nil)
      (pss_one (ps_ret (pe_ix (ix_listK K rfl) (pv 2) (tellK (K := K) rfl <| pe_bm PySem.F.plainAttrs_list PySem.F.slot_list_index PySem.F.type_list_index (mt_indexK K rfl) (pv 1) (pa_cons pe_bl pa_nil)) (fun _ _ => rfl)))))))))))), ?_⟩
    have hx : ∀ {H' : Hp}, Same H H' → HeldX K (.ref COtherRegion) d COtherRegion H' := fun {H'} s' => ⟨rfl, ROtherRegion.e, fun dx e => by
      obtain ⟨fs, e2⟩ := hd dx e
      exact ⟨fs, s' _ _ e2⟩⟩
    refine ⟨_, rfl, COtherRegion, _, _, false, rfl, hx (Same.refl _), .own _, ROtherRegion.isnt RUnknownPerson hE (by decide), _, rfl, COtherRegion, _, _, true, rfl, hx (Same.refl _), .own _, ROtherRegion.is, _, rfl, COtherRegion, _, _, false, rfl, hx (Same.refl _), .own _, ROtherRegion.isnt RTightRegion hE (by decide), by show 3 ≤ sizeLine; decide, fun l0 h0 => ?_⟩
    have u0 := same_upd (o := .lst [V.bl false, V.bl true, V.bl false]) h0
    have e0 : (upd H l0 (.lst [V.bl false, V.bl true, V.bl false])) l0 = some (.lst [V.bl false, V.bl true, V.bl false]) := upd_same
    generalize upd H l0 (.lst [V.bl false, V.bl true, V.bl false]) = J0 at *
    refine ⟨_, rfl, _, rfl, COtherRegion, _, _, false, rfl, hx u0, .own _, ROtherRegion.isnt RBlocked hE (by decide), _, rfl, COtherRegion, _, _, false, rfl, hx u0, .own _, ROtherRegion.isnt RInvalidText hE (by decide), by show 2 ≤ sizeLine; decide, fun l h => ?_⟩
    have v := same_upd (o := .lst [V.bl false, V.bl false]) h
    have e : (upd J0 l (.lst [V.bl false, V.bl false])) l = some (.lst [V.bl false, V.bl false]) := upd_same
    have w := u0.trans v
    have e0' := v _ _ e0
    generalize upd J0 l (.lst [V.bl false, V.bl false]) = I0 at *
    refine ⟨l0, l, _, _, rfl, rfl, e0', e, le_szE (by simp), fun l1 h1 => ?_⟩
    have u1 := w.trans (same_upd (o := .lst ([V.bl false, V.bl true, V.bl false] ++ [V.bl false, V.bl false])) h1)
    have e1 : (upd I0 l1 (.lst ([V.bl false, V.bl true, V.bl false] ++ [V.bl false, V.bl false]))) l1 = some (.lst [V.bl false, V.bl true, V.bl false, V.bl false, V.bl false]) := upd_same
    generalize upd I0 l1 (.lst ([V.bl false, V.bl true, V.bl false] ++ [V.bl false, V.bl false])) = J1 at *
    clear u0 e0 e0' w v e
    refine ⟨_, rfl, _, rfl, by show 5 ≤ sizeLine; decide, fun t ht => ?_⟩
    have v := u1.trans (same_upd (o := .tup [V.ref CInvalidRoom, V.ref CNotAdjacent, V.ref CEmptyRoom, V.ref CInvalidMoves, V.ref CInvalidName]) ht)
    have et : (upd J1 t (.tup [V.ref CInvalidRoom, V.ref CNotAdjacent, V.ref CEmptyRoom, V.ref CInvalidMoves, V.ref CInvalidName])) t = some (.tup [V.ref CInvalidRoom, V.ref CNotAdjacent, V.ref CEmptyRoom, V.ref CInvalidMoves, V.ref CInvalidName]) := upd_same
    have e := same_upd (o := .tup [V.ref CInvalidRoom, V.ref CNotAdjacent, V.ref CEmptyRoom, V.ref CInvalidMoves, V.ref CInvalidName]) ht _ _ e1
    generalize upd J1 t (.tup [V.ref CInvalidRoom, V.ref CNotAdjacent, V.ref CEmptyRoom, V.ref CInvalidMoves, V.ref CInvalidName]) = I1 at *
    refine ⟨COtherRegion, t, _, [.ref CInvalidRoom, .ref CNotAdjacent, .ref CEmptyRoom, .ref CInvalidMoves, .ref CInvalidName], false, rfl, hx v, SqT.of et, fun us hu => ClsV.all (.cons (.own _) (.cons (.own _) (.cons (.own _) (.cons (.own _) (.cons (.own _) .nil))))) hu, kit_none fun c hc => ?_, by show 1 ≤ sizeLine; decide, fun l h => ?_⟩
    · simp only [List.mem_cons, List.not_mem_nil, or_false] at hc
      rcases hc with rfl | rfl | rfl | rfl | rfl
      · exact ROtherRegion.isnt RInvalidRoom hE (by decide)
      · exact ROtherRegion.isnt RNotAdjacent hE (by decide)
      · exact ROtherRegion.isnt REmptyRoom hE (by decide)
      · exact ROtherRegion.isnt RInvalidMoves hE (by decide)
      · exact ROtherRegion.isnt RInvalidName hE (by decide)
    have vn := same_upd (o := .lst [V.bl false]) h
    have en : (upd I1 l (.lst [V.bl false])) l = some (.lst [V.bl false]) := upd_same
    replace e := vn _ _ e
    generalize upd I1 l (.lst [V.bl false]) = G1 at *
    refine ⟨l1, l, _, _, rfl, rfl, e, en, le_szE (by simp), fun l2 h2 => ?_⟩
    have u2 := (v.trans vn).trans (same_upd (o := .lst ([V.bl false, V.bl true, V.bl false, V.bl false, V.bl false] ++ [V.bl false])) h2)
    have e2 : (upd G1 l2 (.lst ([V.bl false, V.bl true, V.bl false, V.bl false, V.bl false] ++ [V.bl false]))) l2 = some (.lst [V.bl false, V.bl true, V.bl false, V.bl false, V.bl false, V.bl false]) := upd_same
    generalize upd G1 l2 (.lst ([V.bl false, V.bl true, V.bl false, V.bl false, V.bl false] ++ [V.bl false])) = J2 at *
    clear u1 e1 v et e vn en
    refine ⟨_, rfl, _, rfl, by show 4 ≤ sizeLine; decide, fun t ht => ?_⟩
    have v := u2.trans (same_upd (o := .tup [V.ref CDuplicateName, V.ref CLimitReached, V.ref CAlreadyAdjacent, V.ref CWouldFormCycle]) ht)
    have et : (upd J2 t (.tup [V.ref CDuplicateName, V.ref CLimitReached, V.ref CAlreadyAdjacent, V.ref CWouldFormCycle])) t = some (.tup [V.ref CDuplicateName, V.ref CLimitReached, V.ref CAlreadyAdjacent, V.ref CWouldFormCycle]) := upd_same
    have e := same_upd (o := .tup [V.ref CDuplicateName, V.ref CLimitReached, V.ref CAlreadyAdjacent, V.ref CWouldFormCycle]) ht _ _ e2
    generalize upd J2 t (.tup [V.ref CDuplicateName, V.ref CLimitReached, V.ref CAlreadyAdjacent, V.ref CWouldFormCycle]) = I2 at *
    refine ⟨COtherRegion, t, _, [.ref CDuplicateName, .ref CLimitReached, .ref CAlreadyAdjacent, .ref CWouldFormCycle], false, rfl, hx v, SqT.of et, fun us hu => ClsV.all (.cons (.own _) (.cons (.own _) (.cons (.own _) (.cons (.own _) .nil)))) hu, kit_none fun c hc => ?_, by show 1 ≤ sizeLine; decide, fun l h => ?_⟩
    · simp only [List.mem_cons, List.not_mem_nil, or_false] at hc
      rcases hc with rfl | rfl | rfl | rfl
      · exact ROtherRegion.isnt RDuplicateName hE (by decide)
      · exact ROtherRegion.isnt RLimitReached hE (by decide)
      · exact ROtherRegion.isnt RAlreadyAdjacent hE (by decide)
      · exact ROtherRegion.isnt RWouldFormCycle hE (by decide)
    have vn := same_upd (o := .lst [V.bl false]) h
    have en : (upd I2 l (.lst [V.bl false])) l = some (.lst [V.bl false]) := upd_same
    replace e := vn _ _ e
    generalize upd I2 l (.lst [V.bl false]) = G2 at *
    refine ⟨l2, l, _, _, rfl, rfl, e, en, le_szE (by simp), fun l3 h3 => ?_⟩
    have u3 := (v.trans vn).trans (same_upd (o := .lst ([V.bl false, V.bl true, V.bl false, V.bl false, V.bl false, V.bl false] ++ [V.bl false])) h3)
    have e3 : (upd G2 l3 (.lst ([V.bl false, V.bl true, V.bl false, V.bl false, V.bl false, V.bl false] ++ [V.bl false]))) l3 = some (.lst [V.bl false, V.bl true, V.bl false, V.bl false, V.bl false, V.bl false, V.bl false]) := upd_same
    generalize upd G2 l3 (.lst ([V.bl false, V.bl true, V.bl false, V.bl false, V.bl false, V.bl false] ++ [V.bl false])) = J3 at *
    clear u2 e2 v et e vn en
    refine ⟨_, rfl, _, rfl, by show 4 ≤ sizeLine; decide, fun t ht => ?_⟩
    have v := u3.trans (same_upd (o := .tup [V.ref CNothingToUndo, V.ref CHistoryFull, V.ref CSessionBusy, V.ref CInvalidActions]) ht)
    have et : (upd J3 t (.tup [V.ref CNothingToUndo, V.ref CHistoryFull, V.ref CSessionBusy, V.ref CInvalidActions])) t = some (.tup [V.ref CNothingToUndo, V.ref CHistoryFull, V.ref CSessionBusy, V.ref CInvalidActions]) := upd_same
    have e := same_upd (o := .tup [V.ref CNothingToUndo, V.ref CHistoryFull, V.ref CSessionBusy, V.ref CInvalidActions]) ht _ _ e3
    generalize upd J3 t (.tup [V.ref CNothingToUndo, V.ref CHistoryFull, V.ref CSessionBusy, V.ref CInvalidActions]) = I3 at *
    refine ⟨COtherRegion, t, _, [.ref CNothingToUndo, .ref CHistoryFull, .ref CSessionBusy, .ref CInvalidActions], false, rfl, hx v, SqT.of et, fun us hu => ClsV.all (.cons (.own _) (.cons (.own _) (.cons (.own _) (.cons (.own _) .nil)))) hu, kit_none fun c hc => ?_, by show 1 ≤ sizeLine; decide, fun l h => ?_⟩
    · simp only [List.mem_cons, List.not_mem_nil, or_false] at hc
      rcases hc with rfl | rfl | rfl | rfl
      · exact ROtherRegion.isnt RNothingToUndo hE (by decide)
      · exact ROtherRegion.isnt RHistoryFull hE (by decide)
      · exact ROtherRegion.isnt RSessionBusy hE (by decide)
      · exact ROtherRegion.isnt RInvalidActions hE (by decide)
    have vn := same_upd (o := .lst [V.bl false]) h
    have en : (upd I3 l (.lst [V.bl false])) l = some (.lst [V.bl false]) := upd_same
    replace e := vn _ _ e
    generalize upd I3 l (.lst [V.bl false]) = G3 at *
    refine ⟨l3, l, _, _, rfl, rfl, e, en, le_szE (by simp), fun l4 h4 => ?_⟩
    have u4 := (v.trans vn).trans (same_upd (o := .lst ([V.bl false, V.bl true, V.bl false, V.bl false, V.bl false, V.bl false, V.bl false] ++ [V.bl false])) h4)
    have e4 : (upd G3 l4 (.lst ([V.bl false, V.bl true, V.bl false, V.bl false, V.bl false, V.bl false, V.bl false] ++ [V.bl false]))) l4 = some (.lst [V.bl false, V.bl true, V.bl false, V.bl false, V.bl false, V.bl false, V.bl false, V.bl false]) := upd_same
    generalize upd G3 l4 (.lst ([V.bl false, V.bl true, V.bl false, V.bl false, V.bl false, V.bl false, V.bl false] ++ [V.bl false])) = J4 at *
    clear u3 e3 v et e vn en
    refine ⟨_, rfl, _, rfl, by show 4 ≤ sizeLine; decide, fun t ht => ?_⟩
    have v := u4.trans (same_upd (o := .tup [V.ref CBatchFailed, V.ref CInvalidMoment, V.ref CInvalidHouse, V.ref CInvalidPlacement]) ht)
    have et : (upd J4 t (.tup [V.ref CBatchFailed, V.ref CInvalidMoment, V.ref CInvalidHouse, V.ref CInvalidPlacement])) t = some (.tup [V.ref CBatchFailed, V.ref CInvalidMoment, V.ref CInvalidHouse, V.ref CInvalidPlacement]) := upd_same
    have e := same_upd (o := .tup [V.ref CBatchFailed, V.ref CInvalidMoment, V.ref CInvalidHouse, V.ref CInvalidPlacement]) ht _ _ e4
    generalize upd J4 t (.tup [V.ref CBatchFailed, V.ref CInvalidMoment, V.ref CInvalidHouse, V.ref CInvalidPlacement]) = I4 at *
    refine ⟨COtherRegion, t, _, [.ref CBatchFailed, .ref CInvalidMoment, .ref CInvalidHouse, .ref CInvalidPlacement], false, rfl, hx v, SqT.of et, fun us hu => ClsV.all (.cons (.own _) (.cons (.own _) (.cons (.own _) (.cons (.own _) .nil)))) hu, kit_none fun c hc => ?_, by show 1 ≤ sizeLine; decide, fun l h => ?_⟩
    · simp only [List.mem_cons, List.not_mem_nil, or_false] at hc
      rcases hc with rfl | rfl | rfl | rfl
      · exact ROtherRegion.isnt RBatchFailed hE (by decide)
      · exact ROtherRegion.isnt RInvalidMoment hE (by decide)
      · exact ROtherRegion.isnt RInvalidHouse hE (by decide)
      · exact ROtherRegion.isnt RInvalidPlacement hE (by decide)
    have vn := same_upd (o := .lst [V.bl false]) h
    have en : (upd I4 l (.lst [V.bl false])) l = some (.lst [V.bl false]) := upd_same
    replace e := vn _ _ e
    generalize upd I4 l (.lst [V.bl false]) = G4 at *
    refine ⟨l4, l, _, _, rfl, rfl, e, en, le_szE (by simp), fun l5 h5 => ?_⟩
    have u5 := (v.trans vn).trans (same_upd (o := .lst ([V.bl false, V.bl true, V.bl false, V.bl false, V.bl false, V.bl false, V.bl false, V.bl false] ++ [V.bl false])) h5)
    have e5 : (upd G4 l5 (.lst ([V.bl false, V.bl true, V.bl false, V.bl false, V.bl false, V.bl false, V.bl false, V.bl false] ++ [V.bl false]))) l5 = some (.lst [V.bl false, V.bl true, V.bl false, V.bl false, V.bl false, V.bl false, V.bl false, V.bl false, V.bl false]) := upd_same
    generalize upd G4 l5 (.lst ([V.bl false, V.bl true, V.bl false, V.bl false, V.bl false, V.bl false, V.bl false, V.bl false] ++ [V.bl false])) = J5 at *
    clear u4 e4 v et e vn en
    refine ⟨by show 5 ≤ sizeLine; decide, fun w1 g1 => ?_⟩
    have v1 := same_upd (o := .lst [V.str "UnknownPerson", V.str "OtherRegion", V.str "TightRegion", V.str "Blocked", V.str "InvalidText"]) g1
    have f1 : (upd J5 w1 (.lst [V.str "UnknownPerson", V.str "OtherRegion", V.str "TightRegion", V.str "Blocked", V.str "InvalidText"])) w1 = some (.lst [V.str "UnknownPerson", V.str "OtherRegion", V.str "TightRegion", V.str "Blocked", V.str "InvalidText"]) := upd_same
    have e6 := v1 _ _ e5
    have u6 := u5.trans v1
    generalize upd J5 w1 (.lst [V.str "UnknownPerson", V.str "OtherRegion", V.str "TightRegion", V.str "Blocked", V.str "InvalidText"]) = J6 at *
    refine ⟨by show 1 ≤ sizeLine; decide, fun w2 g2 => ?_⟩
    have v2 := same_upd (o := .lst [V.str "other"]) g2
    have f2 : (upd J6 w2 (.lst [V.str "other"])) w2 = some (.lst [V.str "other"]) := upd_same
    replace f1 := v2 _ _ f1
    replace e6 := v2 _ _ e6
    replace u6 := u6.trans v2
    generalize upd J6 w2 (.lst [V.str "other"]) = J7 at *
    refine ⟨w2, 4, _, rfl, rfl, f2, by decide, by decide, by show 1 * 4 ≤ sizeLine; decide, fun w3 g3 => ?_⟩
    have er : (List.replicate (4 : Int).toNat [V.str "other"]).flatten = [V.str "other", V.str "other", V.str "other", V.str "other"] := rfl
    rw [er]
    have v3 := same_upd (o := .lst [V.str "other", V.str "other", V.str "other", V.str "other"]) g3
    have f3 : (upd J7 w3 (.lst [V.str "other", V.str "other", V.str "other", V.str "other"])) w3 = some (.lst [V.str "other", V.str "other", V.str "other", V.str "other"]) := upd_same
    replace f1 := v3 _ _ f1
    replace e6 := v3 _ _ e6
    replace u6 := u6.trans v3
    generalize upd J7 w3 (.lst [V.str "other", V.str "other", V.str "other", V.str "other"]) = J8 at *
    refine ⟨w1, w3, _, _, rfl, rfl, f1, f3, le_szE (by simp), fun w4 g4 => ?_⟩
    have v4 := same_upd (o := .lst ([V.str "UnknownPerson", V.str "OtherRegion", V.str "TightRegion", V.str "Blocked", V.str "InvalidText"] ++ [V.str "other", V.str "other", V.str "other", V.str "other"])) g4
    have f4 : (upd J8 w4 (.lst ([V.str "UnknownPerson", V.str "OtherRegion", V.str "TightRegion", V.str "Blocked", V.str "InvalidText"] ++ [V.str "other", V.str "other", V.str "other", V.str "other"]))) w4 = some (.lst ([V.str "UnknownPerson", V.str "OtherRegion", V.str "TightRegion", V.str "Blocked", V.str "InvalidText"] ++ [V.str "other", V.str "other", V.str "other", V.str "other"])) := upd_same
    replace e6 := v4 _ _ e6
    replace u6 := u6.trans v4
    generalize upd J8 w4 (.lst ([V.str "UnknownPerson", V.str "OtherRegion", V.str "TightRegion", V.str "Blocked", V.str "InvalidText"] ++ [V.str "other", V.str "other", V.str "other", V.str "other"])) = J9 at *
    refine ⟨_, rfl, .inl ⟨rfl, _, SqL.of e6⟩, l5, [false, true, false, false, false, false, false, false, false], rfl, rfl, SqL.of e6, rfl, _, rfl, iteNS rfl ?_⟩
    refine ⟨_, rfl, COtherRegion, _, _, true, rfl, hx u6, .own _, ROtherRegion.he hE, _, rfl, iteF ?_⟩
    refine ⟨_, rfl, COtherRegion, _, _, true, rfl, hx u6, .ty _, kitVE ROtherRegion.mro, _, rfl, iteF ?_⟩
    refine ⟨_, rfl, _, rfl, .inl ⟨rfl, _, SqL.of e6⟩, l5, _, _, 1, _, rfl, rfl, SqL.of e6, rfl, rfl, rfl, rfl, ?_, w4, _, _, _, rfl, rfl, SqL.of f4, atI_nat (j := 1) rfl, q _ u6⟩
    intro m z' hm hz'
    match m, hm, hz' with
    | 0, _, hz' => cases hz'; rfl
end
end Fw
namespace Fw
open PySem PySem.Spec PyProof.Rows L2
theorem le_sz {n : Nat} (h : n ≤ 100) : n ≤ sizeLine := Nat.le_trans h (by decide)
theorem rd_sm {H H1 : Hp} (s : Same H H1) {a : Addr} {o : HO} (h : Rd H a o) : Rd H1 a o := by
  rcases h with e | ⟨ob, e⟩
  · exact .inl (s _ _ e)
  · exact .inr ⟨ob, s _ _ e⟩
theorem sqL_sm {K : PySem.W.Frag} {H H1 : Hp} (s : Same H H1) {a : Addr} {xs : List V} (h : SqL K H a xs) : SqL K H1 a xs := by
  rcases h with e | e
  · exact .inl (rd_sm s e)
  · exact .inr e
theorem sqT_sm {K : PySem.W.Frag} {H H1 : Hp} (s : Same H H1) {a : Addr} {xs : List V} (h : SqT K H a xs) : SqT K H1 a xs := by
  rcases h with e | e
  · exact .inl (rd_sm s e)
  · exact .inr e
theorem same_put8 {H H8 : Hp} (s : Same H H8) {D : Addr} {o : HO} (hD : H D = none) : Same H (upd H8 D o) := fun b u e => by
  rw [upd_ne (ne_of_none e hD)]
  exact s b u e
def datas : List PyData := [.none, .bool true, .bool false, .int 0, .int 1, .int (-1), .int 9, .int (10 ^ (59 : Int).toNat), .str "", .str "a", .str "A", .str "a1", .str "abcdefghi", .tuple [], .list [], .dict [], .tuple [.int 0], .tuple [.int 1, .int 0], .list [.int 0, .int 1],
  .tuple [.int 0, .int 0], .tuple [.int 0, .int 1, .int 2], .tuple [.tuple [.int 0, .int 1]], .tuple [.str "a", .int 0], .str "a b", .tuple [.tuple [.str "a", .int 0]]]
abbrev nRand : List Str := ["_law_stream_here", "_law_some"]
end Fw
set_option maxHeartbeats 2000000
namespace Fw
open PySem PySem.Spec PyProof.Rows L2
/-! any value of the laws: data, with {} as a leaf; no list of it is sys.modules or among av -/
mutual
inductive Dx (K : PySem.W.Frag) (av : List Addr) (H : Hp) : V → PyData → Prop
  | non : Dx K av H .non .none
  | bl (b : Bool) : Dx K av H (.bl b) (.bool b)
  | int (i : Int) : Dx K av H (.int i) (.int i)
  | str (x : Str) : Dx K av H (.str x) (.str x)
  | lst {a : Addr} {xs : List V} {ds : List PyData} : SqL K H a xs → a ∉ sysModules :: av → DxAll K av H xs ds → Dx K av H (.ref a) (.list ds)
  | tup {a : Addr} {xs : List V} {ds : List PyData} : SqT K H a xs → DxAll K av H xs ds → Dx K av H (.ref a) (.tuple ds)
  | dct {a : Addr} : H a = some (.dK []) → Dx K av H (.ref a) (.dict [])
inductive DxAll (K : PySem.W.Frag) (av : List Addr) (H : Hp) : List V → List PyData → Prop
  | nil : DxAll K av H [] []
  | cons {v : V} {vs : List V} {d : PyData} {ds : List PyData} : Dx K av H v d → DxAll K av H vs ds → DxAll K av H (v :: vs) (d :: ds)
end
mutual
theorem dx_sm {K : PySem.W.Frag} {av : List Addr} {H H1 : Hp} (s : Same H H1) : ∀ {v : V} {d : PyData}, Dx K av H v d → Dx K av H1 v d
  | _, _, .non => .non
  | _, _, .bl b => .bl b
  | _, _, .int i => .int i
  | _, _, .str x => .str x
  | _, _, .lst h n a => .lst (sqL_sm s h) n (dxA_sm s a)
  | _, _, .tup h a => .tup (sqT_sm s h) (dxA_sm s a)
  | _, _, .dct e => .dct (s _ _ e)
theorem dxA_sm {K : PySem.W.Frag} {av : List Addr} {H H1 : Hp} (s : Same H H1) : ∀ {v : List V} {d : List PyData}, DxAll K av H v d → DxAll K av H1 v d
  | _, _, .nil => .nil
  | _, _, .cons h a => .cons (dx_sm s h) (dxA_sm s a)
end
theorem rd_fr {s A B : Addr} {c : Nat} {H H1 : Hp} (hS : StreamAt H s A B c) (f : Fr s A H H1) {a : Addr} {xs : List V} (h : Rd H a (.tup xs)) : Rd H1 a (.tup xs) := by
  obtain ⟨big, cells, cnt, h1, h2, h3, _⟩ := hS.ex
  rcases h with e | ⟨ob, e⟩
  · exact .inl (f _ _ (ne_of e h1 (by intro q; cases q)) (ne_of e h2 (by intro q; cases q)) e)
  · exact .inr ⟨ob, f _ _ (ne_of e h1 (by intro q; cases q)) (ne_of e h2 (by intro q; cases q)) e⟩
mutual
theorem dx_fr {K : PySem.W.Frag} {s A B : Addr} {c : Nat} {H H1 : Hp} (hS : StreamAt H s A B c) (f : Fr s A H H1) : ∀ {v : V} {d : PyData}, Dx K [s, A] H v d → Dx K [s, A] H1 v d
  | _, _, .non => .non
  | _, _, .bl b => .bl b
  | _, _, .int i => .int i
  | _, _, .str x => .str x
  | _, _, .lst (a := a) h n t => .lst (by
      have n1 : a ≠ s := fun z => n (by simp [z])
      have n2 : a ≠ A := fun z => n (by simp [z])
      rcases h with (e | ⟨ob, e⟩) | e
      · exact .inl (.inl (f _ _ n1 n2 e))
      · exact .inl (.inr ⟨ob, f _ _ n1 n2 e⟩)
      · exact .inr e) n (dxA_fr hS f t)
  | _, _, .tup h t => .tup (by
      rcases h with e | e
      · exact .inl (rd_fr hS f e)
      · exact .inr e) (dxA_fr hS f t)
  | _, _, .dct e => .dct (by
      obtain ⟨big, cells, cnt, h1, h2, h3, _⟩ := hS.ex
      exact f _ _ (ne_of e h1 (by intro q; cases q)) (ne_of e h2 (by intro q; cases q)) e)
theorem dxA_fr {K : PySem.W.Frag} {s A B : Addr} {c : Nat} {H H1 : Hp} (hS : StreamAt H s A B c) (f : Fr s A H H1) : ∀ {v : List V} {d : List PyData}, DxAll K [s, A] H v d → DxAll K [s, A] H1 v d
  | _, _, .nil => .nil
  | _, _, .cons h t => .cons (dx_fr hS f h) (dxA_fr hS f t)
end
section
variable {X : Cx} {av : List Addr} {pins : List (Addr × Obj)} {σ : L2.St} {H : Hp} {s : Shared}
mutual
theorem dx_reads (I : Inv X pins σ H s) : ∀ {v : V} {d : PyData} {u : Value}, Dx X.K av H v d → RelV v u → ∃ as, Reads s.heap u d as ∧ sysModules ∉ as
  | _, _, _, .non, r => by
    cases r
    exact ⟨_, .none, fun z => nomatch z⟩
  | _, _, _, .bl b, r => by
    cases r
    exact ⟨_, .bool b, fun z => nomatch z⟩
  | _, _, _, .int i, r => by
    obtain ⟨t, rfl⟩ := r
    exact ⟨_, .int i t, fun z => nomatch z⟩
  | _, _, _, .str x, r => by
    obtain ⟨t, rfl⟩ := r
    exact ⟨_, .str x t, fun z => nomatch z⟩
  | _, _, _, .lst h n a, r => by
    cases r
    obtain ⟨its, rv, ⟨ob, k, ho, hc, _, hd⟩, _⟩ := I.list h
    obtain ⟨as, ra, na⟩ := dxA_reads I a rv
    refine ⟨_, .list ho hc hd ra, fun z => ?_⟩
    rcases List.mem_cons.mp z with e | e
    · exact n (e ▸ List.mem_cons_self)
    · exact na e
  | _, _, _, .tup h a, r => by
    cases r
    obtain ⟨its, rv, ⟨ob, ho, hc, k, hd⟩, _⟩ := I.tuple h
    obtain ⟨as, ra, na⟩ := dxA_reads I a rv
    exact ⟨_, .tuple ho hc hd ra, na⟩
  | _, _, _, .dct (a := a) e, r => by
    cases r
    obtain ⟨_, y, vs, kv, o, es, ep, ho, hx, hd, _, hp, _⟩ := (show ObjOk X.prog X.w H s.heap a (.dK []) from I.hok a _ e)
    cases kv
    have e0 : es.toList = [] := by
      generalize es.toList = l at hp
      cases hp
      rfl
    refine ⟨_, Reads.dict (kvs := []) ho hx.1 hd (by rw [e0]; exact .nil) (by rw [e0]; exact .nil), fun z => ?_⟩
    have z' : sysModules ∈ [a] := z
    rw [List.mem_singleton.mp z'] at y
    simp at y
theorem dxA_reads (I : Inv X pins σ H s) : ∀ {vs : List V} {ds : List PyData} {us : List Value}, DxAll X.K av H vs ds → Vals vs us → ∃ as, ReadsAll s.heap us ds as ∧ sysModules ∉ as
  | _, _, _, .nil, r => by
    cases r
    exact ⟨_, .nil, fun z => nomatch z⟩
  | _, _, _, .cons h t, r => by
    cases r with
    | cons r1 r2 =>
      obtain ⟨as, q1, n1⟩ := dx_reads I h r1
      obtain ⟨bs, q2, n2⟩ := dxA_reads I t r2
      exact ⟨_, .cons q1 q2, fun z => (List.mem_append.mp z).elim n1 n2⟩
end
/-- repr of such a value that lies in memory -/
def rReprD (K : PySem.W.Frag) (av : List Addr) : List V → Hp → VK → Prop := fun vs H Q => ∃ (a : Addr) (d : PyData), vs = [.ref a] ∧ Dx K av H (.ref a) d ∧ d.showable = true ∧ d.depth ≤ 60 ∧ d.shown.length ≤ sizeLine ∧ Q (.str d.shown) H
theorem call_reprD {X : Cx} (hg : X.A.guards = some []) (hu : X.A.units + 65 < cLine) : CallR X (.builtin "repr") (rReprD X.K av) := by
  intro pn sh σ H vs us Q J rr hh
  obtain ⟨a, d, rfl, hd, hs, hp, hz, q⟩ := hh
  obtain ⟨ua, rfl, ra⟩ := vals1 rr
  cases (show ua = Value.ref a from ra)
  obtain ⟨as, rd, nn⟩ := dx_reads J hd rfl
  exact repr_of_reads' rd hs (fun _ => nn) hg (by omega) (fun _ _ e => e) (fun h' t tk hk => ⟨.str _, H, J.kept hk, ⟨_, rfl⟩, q⟩) hz
end
end Fw
set_option maxHeartbeats 2000000
namespace Fw
open PySem PySem.Spec PyProof.Rows L2
/-! new lists that are told not to be sys.modules -/
section
variable {X : Cx} {es : List Expr} {t : TA} {pos : Pos}
def tLstN (t : TA) : TE := fun σ H Q => t σ H fun xs H1 => xs.length ≤ sizeLine ∧ ∀ p, H1 p = none → p ≠ sysModules → Q (.ref p) (upd H1 p (.lst xs))
theorem pe_lstN (h : PA X es t) : PE X (.List es pos) (tLstN t) :=
  ⟨fun pn sh σ H Q J hq => wpAny_List_spliced (thn (h.run pos pn sh σ H _ J hq) fun us s1 ⟨xs, H1, J1, rs, z, q⟩ =>
    ⟨rs.length ▸ z, .ref _, _, J1.lnew (t' := s1.toks) rs z, rfl, q _ J1.fresh fun e => Nat.ne_of_lt J1.big e.symm⟩)⟩
/-- list(t), t a tuple -/
def rListN (K : PySem.W.Frag) : List V → Hp → VK → Prop := fun xs H Q => ∃ (p : Addr) (ys : List V), xs = [.ref p] ∧ SqT K H p ys ∧ ∀ l, H l = none → l ≠ sysModules → Q (.ref l) (upd H l (.lst ys))
theorem call_listN : CallR X (.type "list") (rListN X.K) := by
  intro pn sh σ H xs us Q J rr hh
  obtain ⟨p, ys, rfl, hq, q⟩ := hh
  obtain ⟨ua, rfl, ra⟩ := vals1 rr
  cases ra
  obtain ⟨its, r', pl, hz⟩ := J.tuple hq
  obtain ⟨o, ho, hc, n, hd⟩ := pl
  have hl := r'.length
  refine call_list_seq p (.inr rfl) ho hc hd (fun h' c' kp e => ?_) (by simp only [List.size_toArray]; omega)
  exact ⟨.ref sh.heap.objs.size, _, J.laid (t' := sh.toks) kp (Nat.le_refl _) (show ObjOk X.prog X.w _ h' _ (.lst ys) from ⟨hz, its, c', r', e⟩), rfl, q _ (J.hok.fresh (Nat.le_refl _)) fun e => Nat.ne_of_lt J.big e.symm⟩
end
end Fw
set_option maxHeartbeats 2000000
namespace Fw
open PySem PySem.Spec PyProof.Rows L2
/-! ### a text and any value -/
theorem decl_str (b : Str) (u : Tok) (l : Addr) (dd : Option Addr) (es : Array DictEntry) (n : Nat) (ss : Array (Option Value)) :
    Meets (Builtin.«str.__eq__» ⟨[.str b u, .ref l], []⟩) (fun _ R s => s.heap.get? l = some { cls := .type "dict", dict := dd, data := .dict es n, slots := ss } ∧ R (.ok (.ret .notImplemented)) s) :=
  .of_wp fun prog w A R s h => by
    obtain ⟨hp, g, d, tk, os⟩ := s
    obtain ⟨hl, h⟩ := h
    wp_walk using wpAny_loadPart hl, wpAny_load hl
    exact ⟨_, rfl, h⟩
theorem decl_dict (b : Str) (u : Tok) (l : Addr) (dd : Option Addr) (es : Array DictEntry) (n : Nat) (ss : Array (Option Value)) :
    Meets (Builtin.«dict.__eq__» ⟨[.ref l, .str b u], []⟩) (fun _ R s => s.heap.get? l = some { cls := .type "dict", dict := dd, data := .dict es n, slots := ss } ∧ R (.ok (.ret .notImplemented)) s) :=
  .of_wp fun prog w A R s h => by
    obtain ⟨hp, g, d, tk, os⟩ := s
    obtain ⟨hl, h⟩ := h
    have f1 := F.sub_str_dict
    wp_walk using wpAny_loadPart hl, wpAny_load hl
    exact ⟨_, rfl, h⟩
/-- is it that text -/
def strIs (z : Str) : PyData → Bool
  | .str y => z == y
  | _ => false
theorem rc_dict {A : Around} {s : Shared} {l : Addr} {o : Obj} {es : Array DictEntry} {n : Nat} (b : Str) (u : Tok) (ho : s.heap.get? l = some o) (hc : o.cls = .type "dict") (hd : o.data = .dict es n) (hu : A.units < cLine) : SeqAt.RcAt A s (.str b u) (.ref l) false := fun prog w E Q h => by
  obtain ⟨c, dd, da, ss⟩ := o
  cases hc
  cases hd
  refine SeqAt.rc_eq_decline_or (k := false) (typeIs_str s b u) ⟨_, ho, rfl⟩ (by decide) F.sub_dict_str F.slot_str_eq F.slot_dict_eq_refl ?_ ?_ ?_ (.inr hu) h
  · exact fun _ q => call_meets F.slot_str_eq (typeIs_str s b u) F.entry_str_eq (F.args_str_eq_2 _ _) (decl_str b u l dd es n ss) ⟨ho, q⟩
  · exact fun _ q => call_meets F.slot_dict_eq_refl ⟨_, ho, rfl⟩ F.entry_dict_eq (F.args_dict_eq_2 _ _) (decl_dict b u l dd es n ss) ⟨ho, q⟩
  · exact fun _ q => wpAny_of_eq (rfl : isSame (.str b u) (.ref l) = pure false) q
theorem eq_of_rc {A : Around} {s : Shared} {b : Str} {u : Tok} {l : Addr} {k : Bool} (h : SeqAt.RcAt A s (.str b u) (.ref l) k) : SeqAt.EqAt A s (.str b u) (.ref l) k := fun prog w E Q q => by
  unfold eqBool
  refine wpAny_holding (wpAny_ite_split (fun e => absurd (eq_of_beq e) nofun) fun _ => ?_)
  exact wpAny_bind (h prog w E _ (wpAny_truthy_bool q))
section
variable {X : Cx} {pins : List (Addr × Obj)} {σ : L2.St} {H : Hp} {s : Shared} {av : List Addr} {A : Around}
theorem dict_at {a : Addr} (I : Inv X pins σ H s) (e : H a = some (.dK [])) : ∃ o es n, s.heap.get? a = some o ∧ o.cls = .type "dict" ∧ o.data = .dict es n := by
  obtain ⟨_, y, vs, kv, o, es, ep, ho, hx, hd, _⟩ := (show ObjOk X.prog X.w H s.heap a (.dK []) from I.hok a _ e)
  exact ⟨o, es, ep, ho, hx.1, hd⟩
theorem rc_any (I : Inv X pins σ H s) {v : V} {d : PyData} {x : Value} (h : Dx X.K av H v d) (r : RelV v x) (hu : A.units < cLine) (z : Str) (t : Tok) : SeqAt.RcAt A s (.str z t) x (strIs z d) := by
  cases h with
  | non => cases r; exact SeqAt.RcAt.str_none z t
  | bl b => cases r; exact SeqAt.RcAt.str_bool z t b
  | int i => obtain ⟨u, rfl⟩ := r; exact SeqAt.RcAt.str_int z t i u
  | str y => obtain ⟨u, rfl⟩ := r; exact SeqAt.RcAt.str_str z t y u
  | lst h _ _ =>
    cases r
    obtain ⟨its, _, pl, _⟩ := I.list h
    exact SeqAt.RcAt.str_list z t pl.isList hu
  | tup h _ =>
    cases r
    obtain ⟨its, _, pl, _⟩ := I.tuple h
    exact SeqAt.RcAt.str_tuple z t pl hu
  | dct e =>
    cases r
    obtain ⟨o, es, n, h1, h2, h3⟩ := dict_at I e
    exact rc_dict z t h1 h2 h3 hu
theorem eq_any (I : Inv X pins σ H s) {v : V} {d : PyData} {x : Value} (h : Dx X.K av H v d) (r : RelV v x) (hu : A.units < cLine) (z : Str) (t : Tok) : SeqAt.EqAt A s (.str z t) x (strIs z d) := by
  cases h with
  | non => cases r; exact SeqAt.EqAt.str_none z t
  | bl b => cases r; exact SeqAt.EqAt.str_bool z t b
  | int i => obtain ⟨u, rfl⟩ := r; exact SeqAt.EqAt.str_int z t i u
  | str y => obtain ⟨u, rfl⟩ := r; exact SeqAt.EqAt.str_str z t y u
  | lst h _ _ =>
    cases r
    obtain ⟨its, _, pl, _⟩ := I.list h
    exact SeqAt.EqAt.str_list z t pl.isList hu
  | tup h _ =>
    cases r
    obtain ⟨its, _, pl, _⟩ := I.tuple h
    exact SeqAt.EqAt.str_tuple z t pl hu
  | dct e =>
    cases r
    obtain ⟨o, es, n, h1, h2, h3⟩ := dict_at I e
    exact eq_of_rc (rc_dict z t h1 h2 h3 hu)
end
section
variable {X : Cx} {av : List Addr}
/-- text == any value -/
def rEqA (K : PySem.W.Frag) (av : List Addr) : R2 := fun x y H Q => ∃ z d, x = .str z ∧ Dx K av H y d ∧ Q (.bl (strIs z d)) H
theorem op_eqA (hu : X.A.units < cLine) : OpR X (compareOp .Eq) (rEqA X.K av) := by
  rintro pins s σ H _ y v u Q I rx ry ⟨z, d, rfl, h, q⟩
  obtain ⟨t, rfl⟩ := rx
  exact rc_any I h ry hu z t X.prog X.w X.xe _ ⟨.bl _, H, I, rfl, q⟩
/-- any value not in a list of texts -/
def rNotInA (K : PySem.W.Frag) (av : List Addr) : R2 := fun x y H Q => ∃ (l : Addr) (ns : List Str) (d : PyData), y = .ref l ∧ SqL K H l (ns.map V.str) ∧ Dx K av H x d ∧ Q (.bl (!ns.any fun z => strIs z d)) H
theorem any_vals {ns : List Str} {us : List Value} {f : Str → Bool} {g : Value → Bool} (r : Vals (ns.map V.str) us) (h : ∀ z t, g (.str z t) = f z) : us.toArray.any g = ns.any f := by
  rw [List.any_toArray]
  induction ns generalizing us with
  | nil => cases r; rfl
  | cons n ns ih =>
    cases r with
    | cons r1 r2 =>
      obtain ⟨t, rfl⟩ := r1
      rw [List.any_cons, List.any_cons, h, ih r2]
theorem vals_str : ∀ {ns : List Str} {us : List Value}, Vals (ns.map V.str) us → ∀ {y : Value}, y ∈ us → ∃ z t, y = Value.str z t
  | [], _, .nil, _, h => by cases h
  | n :: ns, _, .cons ⟨t, e⟩ r, _, h => by
    rcases List.mem_cons.mp h with h | h
    · exact ⟨n, t, h.trans e⟩
    · exact vals_str r h
theorem op_notInA (hu : X.A.units + 1 < cLine) : OpR X (compareOp .NotIn) (rNotInA X.K av) := by
  rintro pins s σ H x _ v u Q I rx ry ⟨l, ns, d, rfl, hl, h, q⟩
  cases ry
  obtain ⟨its, rv, pl, _⟩ := I.list hl
  have hu1 : X.A.in1.units < cLine := hu
  refine SeqAt.notIn_listAt (fun y => match y with | .str z _ => strIs z d | _ => false) pl.isList (fun y hy => ?_) ?_
  · obtain ⟨z, t, rfl⟩ := vals_str rv (by simpa using hy)
    exact eq_any I h rx hu1 z t
  · rw [any_vals (f := fun z => strIs z d) rv fun z t => rfl]
    exact ⟨.bl _, H, I, rfl, q⟩
end
end Fw
set_option maxHeartbeats 2000000
namespace Fw
open PySem PySem.Spec PyProof.Rows L2
mutual
/-- such a value, without the addresses that it avoids -/
theorem dx_nil {K : PySem.W.Frag} {av : List Addr} {H : Hp} : ∀ {v : V} {d : PyData}, Dx K av H v d → Dx K [] H v d
  | _, _, .non => .non
  | _, _, .bl b => .bl b
  | _, _, .int i => .int i
  | _, _, .str x => .str x
  | _, _, .lst h n t => .lst h (fun m => n (by rw [List.mem_singleton.mp m]; exact List.mem_cons_self)) (dxA_nil t)
  | _, _, .tup h t => .tup h (dxA_nil t)
  | _, _, .dct e => .dct e
theorem dxA_nil {K : PySem.W.Frag} {av : List Addr} {H : Hp} : ∀ {vs : List V} {ds : List PyData}, DxAll K av H vs ds → DxAll K [] H vs ds
  | _, _, .nil => .nil
  | _, _, .cons h t => .cons (dx_nil h) (dxA_nil t)
end
section
variable {P : Program} {w : World} {K : PySem.W.Frag} {mg : Str → Option Value} {base : Heap}
/-- room_of of any value that is no person's name: the error -/
def spRoomNo (K : PySem.W.Frag) (C : Addr) : Sp := fun vs H Q E => ∃ (p : Addr) (P : List (Str × Int)) (v : V) (d : PyData), vs = [.ref p, v] ∧ PlAt H p P ∧ Dx K [] H v d ∧ (∀ x ∈ P, strIs x.1 d = false) ∧
  ∀ dx H', Same H H' → H' dx = some (.xd [("name", v)]) → E (.ref C) (some dx) H'
theorem ok_roomno {f : Addr} {fd : FuncData} {k : Nat} {E0 C : Addr} (F : Fun K "room_of" "room_of" sRoomOf f fd) (RE : ErR P w K mg base "UnknownPerson" "name" E0 C) : FnOk P w K mg base (L2.CX P w) (k + 3) f fd pRoomOf (spRoomNo K C) := by
  refine F.okX scRoomOf (fun vs H Q E h => ?_) (fun cdv A outer s H vs Q E hr h => ?_)
  · obtain ⟨p, P, v, d, rfl, _⟩ := h
    rfl
  · obtain ⟨p, P, v, d, rfl, hP, hd, no, qE⟩ := h
    refine ⟨_, (pss_cons (ps_calm (ps_for PassesOwn.never rfl (pi_tup (pv 0)) (pg_tup (by rfl) (pgs_cons (pg_name (i := 2) scRoomOf.nd rfl (.inl rfl)) (pgs_cons (pg_name (i := 3) scRoomOf.nd rfl (.inl rfl)) pgs_nil)))
      (pss_one (ps_if (pt_cmpR (op_eqA (av := []) (Nat.lt_of_succ_lt (hu_of hr))) (pv 2) (pv 1) (nomark _))
       (pss_one (ps_ret (pv 3)))
       pss_nil))))
      (pss_one (ps_raise rfl (takes_of rfl rfl rfl rfl) (pmk_er RE hr (by rfl) (pv 1))))), ?_⟩
    refine ⟨_, rfl, p, rfl, hP.sq, for_pl hP (fun i σ' H' => ∃ y2 y3, σ' = [some (.ref p), some v, y2, y3] ∧ H' = H) ⟨_, _, rfl, rfl⟩ ?_ ?_ ?_⟩
    · rintro k σ' H' ⟨_, _, _, rfl⟩
      exact Tk.refl
    · rintro k n' r' σ' H' hk ⟨y2, y3, rfl, rfl⟩
      refine ⟨_, rfl, _, rfl, n', d, rfl, hd, _, rfl, ?_⟩
      rw [no (n', r') (List.mem_of_getElem? hk)]
      exact ⟨_, _, rfl, rfl⟩
    · rintro σ' H' ⟨y2, y3, rfl, rfl⟩
      exact ⟨_, rfl, raise_end fun d H2 s2 e2 => qE d H2 s2 e2⟩
end
end Fw
set_option maxHeartbeats 2000000
namespace Fw
open PySem PySem.Spec PyProof.Rows L2
/-- the type's name of a value -/
def kindD : PyData → String
  | .none => "NoneType"
  | .bool _ => "bool"
  | .int _ => "int"
  | .str _ => "str"
  | .list _ => "list"
  | .tuple _ => "tuple"
  | .dict _ => "dict"
theorem dx_ty {K : PySem.W.Frag} {av : List Addr} {H : Hp} {v : V} {d : PyData} (h : Dx K av H v d) : TyX K H v (.type (kindD d)) := by
  cases h with
  | non => exact .base .non
  | bl b => exact .base (.bl b)
  | int i => exact .base (.int i)
  | str x => exact .base (.str x)
  | lst h n a =>
    rcases h with (e | ⟨ob, e⟩) | ⟨o, its, n, e, c, _⟩
    · exact .base (.lst e)
    · exact .base (.frz e)
    · exact .kList e c
  | tup h a =>
    rcases h with (e | ⟨ob, e⟩) | ⟨o, its, n, e, c, _⟩
    · exact .base (.tup e)
    · exact .fTuple e
    · exact .kTuple e c
  | dct e => exact .base (.dK e)
/-- the answer of isinstance(v, T) for T among tuple, int, bool, str -/
def isD (T : String) (d : PyData) : Bool := kindD d == T || (T == "int" && kindD d == "bool")
theorem kitD {K : PySem.W.Frag} {T : String} (hT : T ∈ ["tuple", "int", "bool", "str"]) (d : PyData) : PySem.W.kitOne K (.type (kindD d)) (.type T) = some (isD T d) := by
  have key : ∀ k ∈ ["NoneType", "bool", "int", "str", "list", "tuple", "dict"], ∀ T ∈ ["tuple", "int", "bool", "str"], (if (Value.type k == Value.type T) = true then some true else if PySem.W.kitMeta T = true then (fastBuiltinMro k).map (·.contains (Value.type T)) else none) = some (k == T || (T == "int" && k == "bool")) := by
    decide +kernel
  have hk : kindD d ∈ ["NoneType", "bool", "int", "str", "list", "tuple", "dict"] := by cases d <;> simp [kindD]
  exact key _ hk T hT
/-- isinstance(v, T) -/
def rIsD (K : PySem.W.Frag) (av : List Addr) : List V → Hp → VK → Prop := fun xs H Q => ∃ (x : V) (T : String) (d : PyData), xs = [x, .ty T] ∧ T ∈ ["tuple", "int", "bool", "str"] ∧ Dx K av H x d ∧ Q (.bl (isD T d)) H
theorem call_isD {X : Cx} {av : List Addr} : CallR X (.builtin "isinstance") (rIsD X.K av) := by
  intro pn sh σ H xs us Q J rr hh
  obtain ⟨x, T, d, rfl, hT, hd, q⟩ := hh
  exact call_isi pn sh σ H _ us Q J rr ⟨x, .ty T, _, .type T, _, rfl, .ty T, dx_ty hd, kitD hT d, q⟩
end Fw
namespace Fw
open PySem PySem.Spec PyProof.Rows L2
open RZ
/-- zip of two tuples, the second the shorter -/
theorem lc_zipS {K : PySem.W.Frag} {a b : Addr} {xs ys : List V} {g : TG} {tt : TT} {te : TE} {vs : List Nat} {σ : L2.St} {H1 : Hp} {D : Addr} {Qd : Hp → Prop} (hl : ys.length ≤ xs.length) (Pv : Nat → Hp → Prop) (h0 : Pv 0 (upd H1 D (.lst []))) (hq : ∀ i H, Pv i H → SqT K H a xs ∧ SqT K H b ys)
    (hs : ∀ (i : Nat) (x y : V) (T : Addr) (H : Hp), xs[i]? = some x → ys[i]? = some y → Pv i H → H T = none → g (.ref T) (wipe σ vs) (upd H T (.tup [x, y])) fun σ2 H2 => wipe σ2 vs = wipe σ vs ∧ tt σ2 H2 fun b H3 =>
      if b = true then te σ2 H3 fun y H4 => ∃ acc, H4 D = some (.lst acc) ∧ acc.length < sizeLine ∧ Pv (i + 1) (upd H4 D (.lst (acc ++ [y]))) else Pv (i + 1) H3) (hd : ∀ H, Pv ys.length H → Qd H) :
    ∃ W : Nat → Nat → Hp → Prop, (∃ m, W 0 m (upd H1 D (.lst []))) ∧ ∀ i m H, W i m H →
      ((ItzT K a b).stop i H ∧ Qd H) ∨ ((ItzT K a b).go i H ∧ ∃ Nx : Hp → Prop, (∀ H', Nx H' → ∃ m', m' < m ∧ W (i + 1) m' H') ∧ ∀ x H', (ItzT K a b).yld i H x H' → g x (wipe σ vs) H' fun σ2 H2 => wipe σ2 vs = wipe σ vs ∧ tt σ2 H2 fun b H3 =>
        if b = true then te σ2 H3 fun y H4 => ∃ acc, H4 D = some (.lst acc) ∧ acc.length < sizeLine ∧ Nx (upd H4 D (.lst (acc ++ [y]))) else Nx H3) := by
  refine ⟨fun i m H => m = ys.length - i ∧ i ≤ ys.length ∧ Pv i H, ⟨ys.length, rfl, Nat.zero_le _, h0⟩, ?_⟩
  rintro i m H ⟨rfl, hi, p⟩
  obtain ⟨qx, qy⟩ := hq i H p
  by_cases hlt : i < ys.length
  · have hx : xs[i]? = some xs[i] := List.getElem?_eq_getElem (by omega)
    have hy : ys[i]? = some ys[i] := List.getElem?_eq_getElem hlt
    refine .inr ⟨⟨xs, ys, _, _, qx, qy, hx, hy⟩, Pv (i + 1), fun H' p' => ⟨ys.length - (i + 1), by omega, rfl, hlt, p'⟩, fun v H' y => ?_⟩
    obtain ⟨T, x', y', rfl, hT, rfl, f1, f2⟩ := y
    exact hs i x' y' T H (f1 xs qx) (f2 ys qy) p hT
  · have e : i = ys.length := by omega
    subst e
    exact .inl ⟨⟨xs, ys, qx, qy, Or.inr (Nat.le_refl _)⟩, hd H p⟩
theorem tp_ty {K : PySem.W.Frag} {H : Hp} {p : Addr} {xs : List V} (h : TpAt H p xs) : TyX K H (.ref p) (.type "tuple") := h.elim (fun h => .base (.tup h)) fun ⟨_, _, h⟩ => .fTuple h
theorem k_ss : kitB "str" "str" = some true := by decide +kernel
theorem k_tt' : kitB "tuple" "tuple" = some true := by decide +kernel
theorem cut1 (xs : List V) : cutV xs (some 1) none = xs.drop 1 := by
  unfold cutV
  show (xs.drop (min 1 xs.length)).take (xs.length - min 1 xs.length) = xs.drop 1
  cases xs with
  | nil => rfl
  | cons x r =>
    rw [show min 1 (x :: r).length = 1 by simp]
    exact List.take_of_length_le (by simp)
theorem one_le {c : Nat} (h : 97 ≤ c) : decide ((⟨#[c]⟩ : Str).cps.toList < (Str.ofString "a").cps.toList) = false := by
  rw [show (Str.ofString "a").cps.toList = [97] by decide +kernel]
  rw [decide_eq_false_iff_not]
  intro h2
  have h2 : [c] < [97] := h2
  rw [List.cons_lt_cons_iff] at h2
  rcases h2 with h2 | ⟨_, h2⟩
  · omega
  · exact absurd h2 (List.lt_irrefl _)
theorem one_ge {c : Nat} (h : c ≤ 122) : decide ((Str.ofString "z").cps.toList < (⟨#[c]⟩ : Str).cps.toList) = false := by
  rw [show (Str.ofString "z").cps.toList = [122] by decide +kernel]
  rw [decide_eq_false_iff_not]
  intro h2
  have h2 : [122] < [c] := h2
  rw [List.cons_lt_cons_iff] at h2
  rcases h2 with h2 | ⟨_, h2⟩
  · omega
  · exact absurd h2 (List.lt_irrefl _)
theorem names_snoc {P : List (Str × Int)} {k : Nat} {nm : Str} {r : Int} (h : P[k]? = some (nm, r)) : (P.take (k + 1)).map (·.1) = (P.take k).map (·.1) ++ [nm] := by
  rw [take_snoc h, List.map_append]
  rfl
section
variable {P : Program} {w : World} {K : PySem.W.Frag} {mg : Str → Option Value} {base : Heap}

end
end Fw
set_option maxHeartbeats 2000000
namespace Fw
open PySem PySem.Spec PyProof.Rows L2
theorem strIs_eq {z : Str} {d : PyData} (h : strIs z d = true) : d = .str z := by
  cases d <;> first | (cases h; done) | skip
  rw [show z = _ from eq_of_beq h]
theorem dx_str {K : PySem.W.Frag} {av : List Addr} {H : Hp} {v : V} {z : Str} (h : Dx K av H v (.str z)) : v = .str z := by
  cases h
  rfl
section
variable {P : Program} {w : World} {K : PySem.W.Frag} {mg : Str → Option Value} {base : Heap}
/-- room_of of any value: the room, or the error -/
def spRoomAny (K : PySem.W.Frag) (C : Addr) : Sp := fun vs H Q E => ∃ (p : Addr) (P : List (Str × Int)) (v : V) (d : PyData), vs = [.ref p, v] ∧ PlAt H p P ∧ Dx K [] H v d ∧ (∀ nm r, v = .str nm → (nm, r) ∈ P → Q (.int r) H) ∧
  ((∀ x ∈ P, strIs x.1 d = false) → ∀ dx H', Same H H' → H' dx = some (.xd [("name", v)]) → E (.ref C) (some dx) H')
theorem ok_roomany {f : Addr} {fd : FuncData} {k : Nat} {E0 C : Addr} (F : Fun K "room_of" "room_of" sRoomOf f fd) (RE : ErR P w K mg base "UnknownPerson" "name" E0 C) : FnOk P w K mg base (L2.CX P w) (k + 3) f fd pRoomOf (spRoomAny K C) := by
  refine F.okX scRoomOf (fun vs H Q E h => ?_) (fun cdv A outer s H vs Q E hr h => ?_)
  · obtain ⟨p, P, v, d, rfl, _⟩ := h
    rfl
  · obtain ⟨p, P, v, d, rfl, hP, hd, q, qE⟩ := h
    refine ⟨_, (pss_cons (ps_calm (ps_for PassesOwn.never rfl (pi_tup (pv 0)) (pg_tup (by rfl) (pgs_cons (pg_name (i := 2) scRoomOf.nd rfl (.inl rfl)) (pgs_cons (pg_name (i := 3) scRoomOf.nd rfl (.inl rfl)) pgs_nil)))
      (pss_one (ps_if (pt_cmpR (op_eqA (av := []) (Nat.lt_of_succ_lt (hu_of hr))) (pv 2) (pv 1) (nomark _))
       (pss_one (ps_ret (pv 3)))
       pss_nil))))
      (pss_one (ps_raise rfl (takes_of rfl rfl rfl rfl) (pmk_er RE hr (by rfl) (pv 1))))), ?_⟩
    refine ⟨_, rfl, p, rfl, hP.sq, for_pl hP (fun i σ' H' => ∃ y2 y3, σ' = [some (.ref p), some v, y2, y3] ∧ H' = H ∧ ∀ x ∈ P.take i, strIs x.1 d = false) ⟨_, _, rfl, rfl, fun x hx => by cases hx⟩ ?_ ?_ ?_⟩
    · rintro k σ' H' ⟨_, _, _, rfl, _⟩
      exact Tk.refl
    · rintro k n' r' σ' H' hk ⟨y2, y3, rfl, rfl, hn⟩
      refine ⟨_, rfl, _, rfl, n', d, rfl, hd, _, rfl, ?_⟩
      refine ite2 (fun c => ?_) (fun c => ?_)
      · have e := strIs_eq c
        subst e
        exact ⟨_, rfl, q n' r' (dx_str hd) (List.mem_of_getElem? hk)⟩
      · refine ⟨_, _, rfl, rfl, fun x hx => ?_⟩
        rw [take_snoc hk, List.mem_append] at hx
        rcases hx with hx | hx
        · exact hn x hx
        · rw [List.mem_singleton.mp hx]
          exact Bool.eq_false_iff.mpr c
    · rintro σ' H' ⟨y2, y3, rfl, rfl, hn⟩
      rw [List.take_length] at hn
      exact ⟨_, rfl, raise_end fun d H2 s2 e2 => qE hn d H2 s2 e2⟩
end
end Fw
set_option maxHeartbeats 4000000
namespace Fw
open PySem PySem.Spec PyProof.Rows L2
/-! swap_people of any two values -/
/-- the room of a person -/
def rmq (P : List (Str × Int)) (a : Str) : Int := ((P.find? fun x => decide (x.1 = a)).map (·.2)).getD 0
theorem rmq_of {P : List (Str × Int)} {a : Str} {r : Int} (nd : (P.map (·.1)).Nodup) (m : (a, r) ∈ P) : rmq P a = r := by
  unfold rmq
  cases e : P.find? fun x => decide (x.1 = a) with
  | none => exact absurd (decide_eq_true rfl) (List.find?_eq_none.mp e _ m)
  | some y =>
    have h1 := List.mem_of_find?_eq_some e
    have h2 : y.1 = a := by simpa using List.find?_some e
    have := key_uniq nd h1 m h2
    rw [this]
    rfl
open Classical in
/-- the region of a room -/
noncomputable def regq (n : Int) (D : List (Int × Int)) (P : List (Str × Int)) (r : Int) : List Int := (occ n P).filter fun v => decide (Wk D (occ n P) r v)
theorem regq_of {n : Int} {D : List (Int × Int)} {P : List (Str × Int)} {r : Int} {C : List Int} (hr : r ∈ occ n P) (h : IsC D (occ n P) r C) : regq n D P r = C := by
  unfold regq
  refine up_ext ((occ_up n P).filter _) h.up fun v => ?_
  rw [List.mem_filter, h.mem]
  constructor
  · exact fun z => by simpa using z.2
  · intro z
    refine ⟨?_, by simpa using z⟩
    rcases z.mem with e | m
    · rw [e]; exact hr
    · exact m
theorem at_first {l : List Int} (h : 0 < l.length) : atI (vi l) 0 = some (.int (l.getD 0 0)) := by
  cases l with
  | nil => cases h
  | cons y ys => exact atI0
def strOf : PyData → Str
  | .str z => z
  | _ => ""
open Classical in
/-- what becomes of the exchange: the error's class and value, or nothing -/
noncomputable def swA (n : Int) (D : List (Int × Int)) (P : List (Str × Int)) (d e : PyData) : List PyData :=
  if ∀ x ∈ P, strIs x.1 d = false then [.str "UnknownPerson", d] else if ∀ x ∈ P, strIs x.1 e = false then [.str "UnknownPerson", e]
  else if ¬ Wk D (P.map (·.2)) (rmq P (strOf d)) (rmq P (strOf e)) then [.str "OtherRegion", .int (rmq P (strOf e))]
  else if strOf d ≠ strOf e ∧ (inside P (regq n D P (rmq P (strOf d)))).length = (regq n D P (rmq P (strOf d))).length then [.str "TightRegion", .int ((regq n D P (rmq P (strOf d))).getD 0 0)] else []
section
variable {n : Int} {D : List (Int × Int)} {P : List (Str × Int)} {d e : PyData}
theorem swA_one (h : ∀ x ∈ P, strIs x.1 d = false) : swA n D P d e = [.str "UnknownPerson", d] := by
  unfold swA
  rw [if_pos h]
theorem known {a : Str} {r : Int} (m : (a, r) ∈ P) : ¬ ∀ x ∈ P, strIs x.1 (.str a) = false := fun h => by
  have := h _ m
  rw [show strIs a (.str a) = true from BEq.rfl] at this
  cases this
theorem swA_two {a : Str} {r : Int} (m : (a, r) ∈ P) (h : ∀ x ∈ P, strIs x.1 e = false) : swA n D P (.str a) e = [.str "UnknownPerson", e] := by
  unfold swA
  rw [if_neg (known m), if_pos h]
theorem swA_both {a b : Str} {ra rb : Int} {C : List Int} (pl : Pl n P) (ma : (a, ra) ∈ P) (mb : (b, rb) ∈ P) (hC : IsC D (occ n P) ra C) :
    (¬ Wk D (P.map (·.2)) ra rb → swA n D P (.str a) (.str b) = [.str "OtherRegion", .int rb]) ∧ (Wk D (P.map (·.2)) ra rb → a ≠ b → (inside P C).length = C.length → swA n D P (.str a) (.str b) = [.str "TightRegion", .int (C.getD 0 0)]) ∧
    (Wk D (P.map (·.2)) ra rb → (a = b ∨ (inside P C).length ≠ C.length) → swA n D P (.str a) (.str b) = []) := by
  have e1 : rmq P (strOf (.str a)) = ra := rmq_of pl.nodup ma
  have e2 : rmq P (strOf (.str b)) = rb := rmq_of pl.nodup mb
  have e3 : regq n D P ra = C := regq_of (pl.mem_occ.mpr (List.mem_map_of_mem (f := (·.2)) ma)) hC
  unfold swA
  rw [if_neg (known ma), if_neg (known mb), e1, e2, e3]
  refine ⟨fun no => if_pos no, fun wk ne ti => ?_, fun wk h => ?_⟩
  · rw [if_neg fun z => z wk, if_pos ⟨ne, ti⟩]
  · rw [if_neg fun z => z wk, if_neg fun z => h.elim z.1 fun t => t z.2]
end
section
variable {P : Program} {w : World} {K : PySem.W.Frag} {mg : Str → Option Value} {base : Heap}
def spSwapX (K : PySem.W.Frag) (CU CO CT : Addr) : Sp := fun vs H Q E => ∃ (h p : Addr) (n : Int) (D : List (Int × Int)) (P : List (Str × Int)) (v : V) (d : PyData) (x : V) (e : PyData), vs = [.ref h, .ref p, v, x] ∧ HouseAt H h n D ∧ Forest n D ∧ 0 ≤ n ∧ n ≤ 8 ∧ PlAt H p P ∧ Pl n P ∧ P.length ≤ 100 ∧ Dx K [] H v d ∧ Dx K [] H x e ∧
  (swA n D P d e = [] → ∀ H' u, Same H H' → Q (.ref u) H') ∧
  (∀ y dd, Dx K [] H y dd → swA n D P d e = [.str "UnknownPerson", dd] → ∀ dx H', Same H H' → H' dx = some (.xd [("name", y)]) → E (.ref CU) (some dx) H') ∧
  (∀ r : Int, swA n D P d e = [.str "OtherRegion", .int r] → ∀ dx H', Same H H' → H' dx = some (.xd [("room", .int r)]) → E (.ref CO) (some dx) H') ∧
  (∀ r : Int, swA n D P d e = [.str "TightRegion", .int r] → ∀ dx H', Same H H' → H' dx = some (.xd [("room", .int r)]) → E (.ref CT) (some dx) H')
abbrev nSwapP : List Str := ["house", "placement", "a", "b", "room", "other", "region"]
theorem scSwapP : FnScope nSwapP ["house", "placement", "a", "b"] (defScope sSwapP) := ⟨rfl, rfl, rfl, by decide +kernel, rfl, by decide +kernel, by decide +kernel⟩
abbrev pSwapP : List Str := ["house", "placement", "a", "b"]
theorem ok_swapX {f : Addr} {fd : FuncData} {k : Nat} {E1 E2 CU CO CT : Addr} (F : Fun K "swap_people" "swap_people" sSwapP f fd) (Croom_of : CalX P w K mg base (k + 5) "room_of" pRoomOf (spRoomAny K CU)) (Cregion_of : Cal P w K mg base (k + 5) "region_of" pRegOf spRegOf) (Cis_tight : Cal P w K mg base (k + 5) "is_tight" pSurp (spTight K))
    (Cexchange : Cal P w K mg base (k + 5) "exchange" pExch (spExch K)) (RO : ErR P w K mg base "OtherRegion" "room" E1 CO) (RT : ErR P w K mg base "TightRegion" "room" E2 CT) : FnOk P w K mg base (L2.CX P w) (k + 6) f fd pSwapP (spSwapX K CU CO CT) := by
  refine F.okX scSwapP (fun vs H Q E h => ?_) (fun cdv A outer s H vs Q E hr h => ?_)
  · obtain ⟨h, p, n, D, P, v, d, x, e, rfl, _⟩ := h
    rfl
  · obtain ⟨h, p, n, D, P, v, d, x, e, rfl, hH, hF, n0, n1, hP, pl, lP, hd, he, qok, qU, qO, qT⟩ := h
    refine ⟨_, (pss_cons (ps_par (i := 4) (j := 5) (by rfl) scSwapP.nd rfl rfl (by decide) rfl rfl (pa_cons (pe_calX Croom_of (takes_of rfl rfl rfl rfl) hr (by rfl) (pa_cons (pv 1) (pa_cons (pv 2) pa_nil))) (pa_cons (pe_calX Croom_of (takes_of rfl rfl rfl rfl) hr (by rfl) (pa_cons (pv 1) (pa_cons (pv 3) pa_nil))) pa_nil)) (by rfl))
      (pss_cons (ps_set (i := 6) scSwapP.nd rfl (.inl rfl) (pe_cal Cregion_of hr (by rfl) (pa_cons (pv 0) (pa_cons (pv 1) (pa_cons (pv 4) pa_nil)))))
      (pss_cons (ps_if (pt_cmpR (op_notInK K rfl) (pv 5) (pv 6) (by rfl))
      (pss_one (ps_raise rfl (takes_of rfl rfl rfl rfl) (pmk_er RO hr (by rfl) (pv 5))))
      pss_nil)
      (pss_cons (ps_if (PW.pt (pw_and (pt_cmpR op_ne (pv 2) (pv 3) (nomark _)) (pw_and1 (pt_val (pe_cal Cis_tight hr (by rfl) (pa_cons (pv 1) (pa_cons (pv 6) pa_nil)))))))
      (pss_one (ps_raise rfl (takes_of rfl rfl rfl rfl) (pmk_er RT hr (by rfl) (pe_ix (ix_tupK K rfl) (pv 6) pe_int (fun _ _ => rfl)))))
      pss_nil)
      (pss_one (ps_ret (pe_cal Cexchange hr (by rfl) (pa_cons (pv 0) (pa_cons (pv 1) (pa_cons (pv 6) (pa_cons (pv 2) (pa_cons (pv 3) pa_nil)))))))))))), ?_⟩
    refine ⟨_, rfl, _, rfl, p, P, v, d, rfl, hP, hd, fun a ra ev ma => ?_, fun no x' H1 s1 e1 => qU v d hd (swA_one no) x' H1 s1 e1⟩
    subst ev
    cases hd
    refine ⟨_, rfl, _, rfl, p, P, x, e, rfl, hP, he, fun b rb ex mb => ?_, fun no x' H1 s1 e1 => qU x e he (swA_two ma no) x' H1 s1 e1⟩
    subst ex
    cases he
    refine ⟨_, _, rfl, ?_⟩
    refine ⟨_, rfl, _, rfl, _, rfl, h, p, n, D, P, ra, rfl, hH, hF, n0, n1, hP, pl, lP, List.mem_map_of_mem (f := (·.2)) ma, fun H1 t C s1 e1 ic lC => ?_⟩
    have inC : ∀ r, r ∈ C ↔ Wk D (P.map (·.2)) ra r := fun r => by rw [ic.mem, Wk.congr fun x => pl.mem_occ]
    obtain ⟨o1, o2, o3⟩ := swA_both pl ma mb ic
    refine ⟨_, rfl, _, rfl, t, _, rfl, .inr (SqT.of e1), rfl, flat_vi C, _, rfl, ?_⟩
    rw [if_pos rfl, inV_vi]
    by_cases wk : Wk D (P.map (·.2)) ra rb
    case neg =>
      rw [decide_eq_false fun z => wk ((inC rb).mp z)]
      exact iteT ⟨_, rfl, raise_end fun x' H' s' e' => qO rb (o1 wk) x' H' (s1.trans s') e'⟩
    rw [decide_eq_true ((inC rb).mpr wk)]
    refine iteF ?_
    have done : (a = b ∨ (inside P C).length ≠ C.length) → ∀ {J : Hp}, Same H1 J → tCall (spExch K) [] E0 (tCons (tVar 0) (tCons (tVar 1) (tCons (tVar 6) (tCons (tVar 2) (tCons (tVar 3) tNil))))) [some (.ref h), some (.ref p), some (.str a), some (.str b), some (.int ra), some (.int rb), some (.ref t)] J Q := fun lo' J sJ => by
      have s2 := s1.trans sJ
      refine ⟨_, rfl, _, rfl, _, rfl, _, rfl, _, rfl, h, p, t, n, D, P, C, a, b, ra, rb, rfl, hH.same s2, hF, n1, hP.same s2, pl, lP, SqT.of (sJ _ _ e1), ma, mb, ic, wk, ?_, fun H' u X s3 _ _ _ => qok (o3 wk lo') H' u (s2.trans s3)⟩
      rcases lo' with z | ne
      · subst z
        exact .inl (congrArg Prod.snd (key_uniq pl.nodup ma mb rfl))
      · have := inside_ge (P := P) (up_nodup ic.up) fun r hr => by
          rcases ((inC r).mp hr).mem with z | m
          · rw [z]; exact List.mem_map_of_mem (f := (·.2)) ma
          · exact m
        exact .inr (by omega)
    refine ⟨_, rfl, _, rfl, rfl, _, rfl, ?_⟩
    by_cases eq : a = b
    · subst eq
      rw [show (!decide (V.str a = V.str a)) = false by simp]
      exact done (.inl rfl) (Same.refl _)
    · rw [show (!decide (V.str a = V.str b)) = true by simp [eq]]
      refine iteT ⟨_, rfl, _, rfl, p, t, P, C, rfl, hP.same s1, SqT.of e1, lP, fun H2 s2 => ⟨_, rfl, ?_⟩⟩
      by_cases ti : (inside P C).length = C.length
      · rw [decide_eq_true ti]
        have l0 : 0 < C.length := List.length_pos_of_mem ic.has
        refine iteT ⟨_, rfl, t, _, _, _, rfl, rfl, SqT.of (s2 _ _ e1), at_first l0, raise_end fun x' H' s' e' => qT _ (o2 wk eq ti) x' H' (s1.trans (s2.trans s')) e'⟩
      · rw [decide_eq_false ti]
        exact iteF (done (.inr ti) s2)
end
end Fw
set_option maxHeartbeats 4000000
namespace Fw
open PySem PySem.Spec PyProof.Rows L2
/-! what the law says of an exchange, and what it sees -/
theorem isC_same {D : List (Int × Int)} {R R' C : List Int} {r : Int} (m : ∀ x, x ∈ R ↔ x ∈ R') (h : IsC D R r C) : IsC D R' r C := ⟨h.up, fun v => (h.mem v).trans (Wk.congr m)⟩
theorem vi_snoc' (xs : List Int) (x : Int) : vi (xs ++ [x]) = vi xs ++ [V.int x] := by
  unfold vi
  rw [List.map_append]
  rfl
theorem flt_snoc {xs : List Int} {C : List Int} {k : Nat} {x : Int} (h : xs[k]? = some x) : (xs.take (k + 1)).filter (fun y => decide (y ∈ C)) = (xs.take k).filter (fun y => decide (y ∈ C)) ++ if x ∈ C then [x] else [] := by
  rw [take_snoc h, List.filter_append]
  congr 1
  by_cases c : x ∈ C
  · rw [if_pos c]; simp [c]
  · rw [if_neg c]; simp [c]
theorem flt_inside (P : List (Str × Int)) (C : List Int) : ((P.map (·.2)).filter fun y => decide (y ∈ C)).length = (inside P C).length := by
  unfold inside
  rw [List.filter_map, List.length_map, List.length_map]
  rfl
theorem pe_or {X : Cx} {e : Expr} {t1 t2 : TE} (h1 : PE X e t1) (h2 : PE X e t2) : PE X e (fun σ H Q => t1 σ H Q ∨ t2 σ H Q) := ⟨fun pins s σ H Q I h => h.elim (h1.run pins s σ H Q I) (h2.run pins s σ H Q I)⟩
section
variable {P : Program} {w : World} {K : PySem.W.Frag} {mg : Str → Option Value} {base : Heap}
def spSwAns (K : PySem.W.Frag) : Sp := fun vs H Q _ => ∃ (h p : Addr) (n : Int) (D : List (Int × Int)) (P : List (Str × Int)) (v : V) (d : PyData) (x : V) (e : PyData), vs = [.ref h, .ref p, v, x] ∧ HouseAt H h n D ∧ Forest n D ∧ 0 ≤ n ∧ n ≤ 8 ∧ PlD H p P ∧ Pl n P ∧ P.length ≤ 12 ∧ Dx K [] H v d ∧ Dx K [] H x e ∧
  ∀ H' u xs, Same H H' → H' u = some (.lst xs) → u ≠ sysModules → DxAll K [] H' xs (swA n D P d e) → Q (.ref u) H'
abbrev nLSwOut : List Str := ["_law_house_here", "_law_placement_here", "_law_a", "_law_b", "_law_e"]
theorem scLSwOut : FnScope nLSwOut ["_law_house_here", "_law_placement_here", "_law_a", "_law_b"] (defScope sLSwOut) := ⟨rfl, rfl, rfl, by decide +kernel, rfl, by decide +kernel, by decide +kernel⟩
abbrev pLSwOut : List Str := ["_law_house_here", "_law_placement_here", "_law_a", "_law_b"]
theorem ok_lswout {f : Addr} {fd : FuncData} {k : Nat} {E CU CO CT : Addr} (F : Fun K "_law_swap_outcome" "_law_swap_outcome" sLSwOut f fd) (RU : Er1 P w K mg base "UnknownPerson" "UnknownPerson.__init__" "name" E CU) (RO : Er1 P w K mg base "OtherRegion" "OtherRegion.__init__" "room" E CO) (RT : Er1 P w K mg base "TightRegion" "TightRegion.__init__" "room" E CT)
    (hE : HE K mg E) (Cswap_people : CalX P w K mg base (k + 6) "swap_people" pSwapP (spSwapX K CU CO CT)) (LU : CalE P w K mg base (k + 6) "_law_error_class" ["_law_e"] (spLEC CU "UnknownPerson")) (LO : CalE P w K mg base (k + 6) "_law_error_class" ["_law_e"] (spLEC CO "OtherRegion")) (LT : CalE P w K mg base (k + 6) "_law_error_class" ["_law_e"] (spLEC CT "TightRegion")) : FnOk P w K mg base CX0 (k + 7) f fd pLSwOut (spSwAns K) := by
  refine F.ok scLSwOut (fun vs H Q E h => ?_) (fun cdv A outer s H vs Q E1 h0 h => ?_)
  · obtain ⟨h, p, n, D, P, v, d, x, e, rfl, _⟩ := h
    rfl
  · obtain ⟨h, p, n, D, P, v, d, x, e, rfl, hH, hF, n0, n1, hP, pl, lP, hd, he, q⟩ := h
    have hr := h0
    have nO : ¬ (CU = CO ∨ CU = E) := by
      rintro (z | z)
      · obtain ⟨_, _, _, ca⟩ := RO.c
        obtain ⟨_, _, _, cb⟩ := RU.c
        exact ca.ne cb (by decide) z.symm
      · exact hE.ne RU.r.mro z
    have nT : ¬ (CU = CT ∨ CU = E) := by
      rintro (z | z)
      · obtain ⟨_, _, _, ca⟩ := RT.c
        obtain ⟨_, _, _, cb⟩ := RU.c
        exact ca.ne cb (by decide) z.symm
      · exact hE.ne RU.r.mro z
    refine ⟨_, (pss_cons (ps_try_three (i := 4) rfl rfl scLSwOut.nd rfl rfl ⟨by rfl, by decide, .inl RU.r.g⟩ ⟨by rfl, by decide, .inl RO.r.g⟩ ⟨by rfl, by decide, .inl RT.r.g⟩
      (fun W pn xe tk _ => (pss_one (ps_expr (pe_calX Cswap_people tk hr (by rfl) (pa_cons (pv 0) (pa_cons (pv 1) (pa_cons (pv 2) (pa_cons (pv 3) pa_nil))))))))
      (fun a oe cls d pn hz hf => (pss_one (ps_ret (pe_lstN (pa_cons (pe_calE hz hf LU hr (by rfl) (pa_cons (pv 4) pa_nil)) (pa_cons (pe_xf RU.r.e.x RU.r.no hz hf (pv 4)) pa_nil))))))
      (fun a oe cls d pn hz hf => (pss_one (ps_ret (pe_lstN (pa_cons (pe_or (pe_calE hz hf LO hr (by rfl) (pa_cons (pv 4) pa_nil)) (pe_calE hz hf LT hr (by rfl) (pa_cons (pv 4) pa_nil))) (pa_cons (pe_or (pe_xf RO.r.e.x RO.r.no hz hf (pv 4)) (pe_xf RT.r.e.x RT.r.no hz hf (pv 4))) pa_nil)))))))
      (pss_one (ps_ret (pe_lstN pa_nil)))), ?_⟩
    refine ⟨_, rfl, _, rfl, _, rfl, _, rfl, h, p, n, D, P, v, d, x, e, rfl, hH, hF, n0, n1, hP.pl, pl, by omega, hd, he, fun ok H1 u s1 => ?_, fun y dd hy eq dx H1 s1 e1 => ?_, fun r eq dx H1 s1 e1 => ?_, fun r eq dx H1 s1 e1 => ?_⟩
    · refine ⟨Nat.zero_le _, fun l hl nl => q _ l [] (s1.trans (same_upd hl)) upd_same nl ?_⟩
      rw [ok]
      exact .nil
    · refine ⟨true, (exm_ref RU.r.mro RU.r.e).trans (congrArg some (decide_eq_true (.inl rfl))), fun _ a ha => ?_, fun z => nomatch z⟩
      refine ⟨_, rfl, rfl, rfl, fun dx' hx => by cases hx; exact ⟨_, e1⟩, fun H2 s2 => ?_⟩
      refine ⟨_, rfl, rfl, rfl, dx, _, _, rfl, s2 _ _ e1, rfl, by show 2 ≤ sizeLine; decide, fun u hu nu => q _ u _ (s1.trans (s2.trans (same_upd hu))) upd_same nu ?_⟩
      rw [eq]
      exact .cons (.str _) (.cons (dx_sm (s1.trans (s2.trans (same_upd hu))) hy) .nil)
    · refine ⟨false, (exm_ref RO.r.mro RU.r.e).trans (congrArg some (decide_eq_false nO)), (fun z => nomatch z), fun _ => ⟨exm_two RO.r.mro RO.r.e RT.r.e (.inl rfl), fun a ha => ?_⟩⟩
      refine .inl ⟨_, rfl, rfl, rfl, fun dx' hx => by cases hx; exact ⟨_, e1⟩, fun H2 s2 => ?_⟩
      refine .inl ⟨_, rfl, rfl, rfl, dx, _, _, rfl, s2 _ _ e1, rfl, by show 2 ≤ sizeLine; decide, fun u hu nu => q _ u _ (s1.trans (s2.trans (same_upd hu))) upd_same nu ?_⟩
      rw [eq]
      exact .cons (.str _) (.cons (.int _) .nil)
    · refine ⟨false, (exm_ref RT.r.mro RU.r.e).trans (congrArg some (decide_eq_false nT)), (fun z => nomatch z), fun _ => ⟨exm_two RT.r.mro RO.r.e RT.r.e (.inr rfl), fun a ha => ?_⟩⟩
      refine .inr ⟨_, rfl, rfl, rfl, fun dx' hx => by cases hx; exact ⟨_, e1⟩, fun H2 s2 => ?_⟩
      refine .inr ⟨_, rfl, rfl, rfl, dx, _, _, rfl, s2 _ _ e1, rfl, by show 2 ≤ sizeLine; decide, fun u hu nu => q _ u _ (s1.trans (s2.trans (same_upd hu))) upd_same nu ?_⟩
      rw [eq]
      exact .cons (.str _) (.cons (.int _) .nil)
abbrev nLSwErr : List Str := ["_law_house_here", "_law_placement_here", "_law_a", "_law_b", "_law_rooms", "_law_occupied", "_law_name", "_law_room", "_law_region"]
theorem scLSwErr : FnScope nLSwErr ["_law_house_here", "_law_placement_here", "_law_a", "_law_b"] (defScope sLSwErr) := ⟨rfl, rfl, rfl, by decide +kernel, rfl, by decide +kernel, by decide +kernel⟩
abbrev pLSwErr : List Str := ["_law_house_here", "_law_placement_here", "_law_a", "_law_b"]
theorem ok_lswerr {f : Addr} {fd : FuncData} {k : Nat} (F : Fun K "_law_swap_error" "_law_swap_error" sLSwErr f fd) (T : Nm mg) (Tdict : mg "dict" = none) (C_law_connected : Cal P w K mg base (k + 2) "_law_connected" ["_law_house_here", "_law_rooms", "_law_room"] (spConn K)) : FnOk P w K mg base CX0 (k + 3) f fd pLSwErr (spSwAns K) := by
  refine F.ok scLSwErr (fun vs H Q E h => ?_) (fun cdv A outer s H vs Q E hr h => ?_)
  · obtain ⟨h, p, n, D, P, v, d, x, e, rfl, _⟩ := h
    rfl
  · obtain ⟨h, p, n, D, P, v, d, x, e, rfl, hH, hF, n0, n1, hP, pl, lP, hd, he, q⟩ := h
    refine ⟨_, (pss_cons (ps_par (i := 4) (j := 5) (by rfl) scLSwErr.nd rfl rfl (by decide) rfl rfl (pa_cons (pe_callTy (call_dictT rfl) (by rfl) Tdict (by decide +kernel) (pa_cons (pv 1) pa_nil)) (pa_cons (pe_lc (own := [("_law_name", 6), ("_law_room", 7)]) (g := gTup K 2 (gCons (gName 6) (gCons (gName 7) gNil))) (by rfl) scLSwErr.nd (pi_tupK K rfl (pv 1))
 (blkOk_by (own := [("_law_name", 6), ("_law_room", 7)]) (N := nLSwErr) (sc := defScope sLSwErr) (by decide +kernel))
 (fun _ _ _ _ _ => (pg_tup (by rfl) (pgs_cons (pg_name (i := 6) scLSwErr.nd rfl (.inl rfl)) (pgs_cons (pg_name (i := 7) scLSwErr.nd rfl (.inl rfl)) pgs_nil)))) (fun _ _ _ _ _ => pts_nil) (fun _ _ _ _ _ => (pv 7))) pa_nil)) (by rfl))
      (pss_cons (ps_for PassesOwn.never rfl (pi_tupK K rfl (pe_tup (pa_cons (pv 2) (pa_cons (pv 3) pa_nil)))) (pg_name (i := 6) scLSwErr.nd rfl (.inl rfl))
      (pss_one (ps_if (PW.pt (pw_or (pt_not (pt_val (pe_callB (call_isD (av := [])) (by rfl) T.isinstance (by decide +kernel) (pa_cons (pv 6) (pa_cons (pe_bltn (v := .ty "str") (by rfl) T.str (by decide +kernel) rfl) pa_nil))))) (pw_or1 (pt_cmp (pc_dnotin (hu_of hr) (pv 6) (pv 4))))))
       (pss_one (ps_ret (pe_lstN (pa_cons pe_str (pa_cons (pv 6) pa_nil)))))
       pss_nil)))
      (pss_cons (ps_set (i := 8) scLSwErr.nd rfl (.inr rfl) (pe_cal C_law_connected hr (by rfl) (pa_cons (pv 0) (pa_cons (pv 5) (pa_cons (pe_dget (hu_of hr) (pv 4) (pv 2) (fun _ _ => rfl)) pa_nil)))))
      (pss_cons (ps_if (pt_cmpR (op_notInK K rfl) (pe_dget (hu_of hr) (pv 4) (pv 3) (fun _ _ => rfl)) (pv 8) (by rfl))
      (pss_one (ps_ret (pe_lstN (pa_cons pe_str (pa_cons (pe_dget (hu_of hr) (pv 4) (pv 3) (fun _ _ => rfl)) pa_nil)))))
      pss_nil)
      (pss_cons (ps_if (PW.pt (pw_and (pt_cmpR op_ne (pv 2) (pv 3) (nomark _)) (pw_and1 (pt_cmpR op_eq (pe_callB (call_lenK K rfl) (by rfl) T.len (by decide +kernel) (pa_cons (pe_lc (own := [("_law_room", 7)]) (g := gName 7) (by rfl) scLSwErr.nd (pi_listK K rfl (pv 5))
 (blkOk_by (own := [("_law_room", 7)]) (N := nLSwErr) (sc := defScope sLSwErr) (by decide +kernel))
 (fun _ _ _ _ _ => (pg_name (i := 7) scLSwErr.nd rfl (.inl rfl))) (fun _ _ _ _ _ => pts_one (pt_cmpR (op_inK K rfl) (pv 7) (pv 8) (by rfl))) (fun _ _ _ _ _ => (pv 7))) pa_nil)) (pe_callB (call_lenK K rfl) (by rfl) T.len (by decide +kernel) (pa_cons (pv 8) pa_nil)) (nomark _)))))
      (pss_one (ps_ret (pe_lstN (pa_cons pe_str (pa_cons (pe_ix (ix_tupK K rfl) (pv 8) pe_int (fun _ _ => rfl)) pa_nil)))))
      pss_nil)
      (pss_one (ps_ret (pe_lstN pa_nil)))))))), ?_⟩
    refine ⟨_, rfl, p, P, rfl, hP, pl.nodup, by omega, fun dr hdr => ?_⟩
    have s1 := same_upd (o := .dK (dkI P)) hdr
    have e1 : (upd H dr (.dK (dkI P))) dr = some (.dK (dkI P)) := upd_same
    generalize upd H dr (.dK (dkI P)) = H1 at *
    have hP1 := (hP.same s1).pl
    refine ⟨_, rfl, p, rfl, hP1.sq, fun L hL => lc_pl hP1 (fun i H' => Same H1 H' ∧ H' L = some (.lst (vi ((P.take i).map (·.2))))) ⟨same_upd hL, upd_same⟩ (fun _ _ h => Tk.of h.1) ?_ ?_⟩
    · rintro k nm r H4 hk ⟨s4, e4⟩
      refine ⟨rfl, ?_⟩
      unfold tYes
      refine iteT ⟨_, rfl, _, e4, ?_, same_put s4 hL, ?_⟩
      · rw [List.length_map, List.length_map, List.length_take]
        exact small1000 (by omega)
      · rw [upd_same, take_snoc hk, List.map_append]
        exact congrArg (fun l => some (HO.lst l)) (vi_snoc' _ _).symm
    rintro H2 ⟨s2, e2⟩
    rw [List.take_length] at e2
    refine ⟨_, _, rfl, ?_⟩
    have sA := s1.trans s2
    have er := s2 _ _ e1
    clear s1 s2 e1 hP1 hL hdr
    -- both known
    refine ⟨_, rfl, _, rfl, by show 2 ≤ sizeLine; decide, fun tt ht => ?_⟩
    have s3 := same_upd (o := .tup [v, x]) ht
    have e3 : (upd H2 tt (.tup [v, x])) tt = some (.tup [v, x]) := upd_same
    have sB := sA.trans s3
    have eL := s3 _ _ e2
    have er3 := s3 _ _ er
    generalize upd H2 tt (.tup [v, x]) = H3 at *
    refine ⟨tt, rfl, ⟨_, SqT.of e3⟩, for_tup (K := K) (a := tt) (xs := [v, x]) (fun i σ' H' => ∃ y6 y8, σ' = [some (.ref h), some (.ref p), some v, some x, some (.ref dr), some (.ref L), y6, none, y8] ∧ Same H3 H' ∧ (0 < i → ∃ a ra, v = .str a ∧ (a, ra) ∈ P) ∧ (1 < i → ∃ b rb, x = .str b ∧ (b, rb) ∈ P))
      ⟨_, _, rfl, Same.refl _, fun z => absurd z (Nat.lt_irrefl _), fun z => absurd z (by omega)⟩ (fun i σ' H' _ hh => ?_) ?_ ?_⟩
    · obtain ⟨_, _, _, s', _⟩ := hh
      exact SqT.of (s' _ _ e3)
    · rintro i y σ' H4 hy ⟨y6, y8, rfl, s4, k0, k1⟩
      have sC := sB.trans s4
      obtain ⟨dy, hdy, bad, good⟩ : ∃ dy, Dx K [] H y dy ∧ ((∀ z ∈ P, strIs z.1 dy = false) → swA n D P d e = [.str "UnknownPerson", dy]) ∧ (∀ z r, y = .str z → (z, r) ∈ P → (0 < i + 1 → ∃ a ra, v = .str a ∧ (a, ra) ∈ P) ∧ (1 < i + 1 → ∃ b rb, x = .str b ∧ (b, rb) ∈ P)) := by
        match i, hy with
        | 0, hy =>
          cases hy
          exact ⟨d, hd, swA_one, fun z r e m => ⟨fun _ => ⟨z, r, e, m⟩, fun c => absurd c (by omega)⟩⟩
        | 1, hy =>
          cases hy
          obtain ⟨a, ra, ev, ma⟩ := k0 (by omega)
          subst ev
          cases hd
          exact ⟨e, he, swA_two ma, fun z r e m => ⟨fun _ => ⟨a, ra, rfl, ma⟩, fun _ => ⟨z, r, e, m⟩⟩⟩
      have hdy4 := dx_sm sC hdy
      have unk : (∀ z ∈ P, strIs z.1 dy = false) → ∀ {J : Hp}, Same H4 J → 2 ≤ sizeLine ∧ ∀ u, J u = none → u ≠ sysModules → Q (.ref u) (upd J u (.lst [.str "UnknownPerson", y])) := fun no {J} sJ => ⟨by decide, fun u hu nu => by
        refine q _ u _ (sC.trans (sJ.trans (same_upd hu))) upd_same nu ?_
        rw [bad no]
        exact .cons (.str _) (.cons (dx_sm (sJ.trans (same_upd hu)) hdy4) .nil)⟩
      refine ⟨_, rfl, y, "str", dy, rfl, by decide, hdy4, _, rfl, ?_⟩
      by_cases hs : ∃ z, dy = .str z
      · obtain ⟨z, rfl⟩ := hs
        have ey : y = .str z := dx_str hdy
        subst ey
        refine iteF ?_
        by_cases m : z ∈ P.map (·.1)
        · obtain ⟨c, hc, e⟩ := List.mem_map.mp m
          have mz : (z, c.2) ∈ P := by rw [← e]; exact hc
          have val : DGet H4 dr (.str z) (some (.int c.2)) := .inl ⟨_, Sum.inr z, .inl (s4 _ _ er3), rfl, (valV_dkI pl.nodup mz).symm⟩
          refine ⟨_, rfl, _, rfl, dr, _, rfl, val, _, rfl, iteF ?_⟩
          obtain ⟨g0, g1⟩ := good z c.2 rfl mz
          exact ⟨_, _, rfl, s4, g0, g1⟩
        · have val : DGet H4 dr (.str z) none := .inl ⟨_, Sum.inr z, .inl (s4 _ _ er3), rfl, (valV_dkI_none m).symm⟩
          refine ⟨_, rfl, _, rfl, dr, _, rfl, val, _, rfl, iteT ⟨_, rfl, unk (fun c hc => ?_) (Same.refl _)⟩⟩
          refine Bool.eq_false_iff.mpr fun t => m ?_
          have e := strIs_eq t
          have e : z = c.1 := by cases e; rfl
          rw [e]
          exact List.mem_map_of_mem (f := (·.1)) hc
      · have nos : isD "str" dy = false := by
          cases dy <;> first | rfl | exact absurd ⟨_, rfl⟩ hs
        rw [nos]
        refine iteT ⟨_, rfl, unk (fun c hc => ?_) (Same.refl _)⟩
        exact Bool.eq_false_iff.mpr fun t => hs ⟨_, strIs_eq t⟩
    · rintro σ' H4 ⟨y6, y8, rfl, s4, k0, k1⟩
      obtain ⟨a, ra, ev, ma⟩ := k0 (by show 0 < 2; decide)
      obtain ⟨b, rb, ex, mb⟩ := k1 (by show 1 < 2; decide)
      subst ev
      subst ex
      cases hd
      cases he
      have sC := sB.trans s4
      have val : ∀ {J : Hp} {z : Str} {c : Int}, Same H4 J → (z, c) ∈ P → DGet J dr (.str z) (some (.int c)) := fun {J z c} sJ m => .inl ⟨_, Sum.inr z, .inl (sJ _ _ (s4 _ _ er3)), rfl, (valV_dkI pl.nodup m).symm⟩
      have ka := pl.rm _ ma
      refine ⟨_, rfl, _, rfl, _, rfl, _, rfl, dr, _, rfl, val (Same.refl _) ma, h, L, n, D, P.map (·.2), ra, rfl, hH.same sC, hF, n1, .inl (SqL.of (s4 _ _ eL)), ka.1, ka.2, fun H5 t C s5 e5 ic lC => ?_⟩
      have icO : IsC D (occ n P) ra C := isC_same (fun x => (pl.mem_occ (r := x)).symm) ic
      obtain ⟨o1, o2, o3⟩ := swA_both pl ma mb icO
      have sD := sC.trans s5
      refine ⟨_, rfl, _, rfl, dr, _, rfl, val s5 mb, _, rfl, t, _, rfl, .inr (SqT.of e5), rfl, flat_vi C, _, rfl, ?_⟩
      rw [if_pos rfl, inV_vi]
      by_cases wk : Wk D (P.map (·.2)) ra rb
      case neg =>
        rw [decide_eq_false fun z => wk ((ic.mem rb).mp z)]
        refine iteT ⟨_, rfl, _, rfl, dr, _, rfl, val s5 mb, by show 2 ≤ sizeLine; decide, fun u hu nu => q _ u _ (sD.trans (same_upd hu)) upd_same nu ?_⟩
        rw [o1 wk]
        exact .cons (.str _) (.cons (.int _) .nil)
      rw [decide_eq_true ((ic.mem rb).mpr wk)]
      refine iteF ?_
      refine ⟨_, rfl, _, rfl, rfl, _, rfl, ?_⟩
      by_cases eq : a = b
      · subst eq
        rw [show (!decide (V.str a = V.str a)) = false by simp]
        refine iteF ⟨Nat.zero_le _, fun u hu nu => q _ u _ (sD.trans (same_upd hu)) upd_same nu ?_⟩
        rw [o3 wk (.inl rfl)]
        exact .nil
      rw [show (!decide (V.str a = V.str b)) = true by simp [eq]]
      refine iteT ?_
      have eL5 := s5 _ _ (s4 _ _ eL)
      refine ⟨_, rfl, L, rfl, ⟨_, SqL.of eL5⟩, fun M hM => lc_list (K := K) (a := L) (xs := vi (P.map (·.2))) (fun k H' => Same H5 H' ∧ H' M = some (.lst (vi (((P.map (·.2)).take k).filter fun y => decide (y ∈ C))))) ⟨same_upd hM, upd_same⟩ (fun k H' _ hh => SqL.of (hh.1 _ _ eL5)) ?_ ?_⟩
      · rintro k x H' hx ⟨s', e'⟩
        obtain ⟨r, hr', rfl⟩ := get_vi hx
        have kl := lt_of_get hr'
        rw [List.length_map] at kl
        refine ⟨rfl, _, rfl, _, rfl, t, _, rfl, .inr (SqT.of (s' _ _ e5)), rfl, flat_vi _, _, rfl, ?_⟩
        rw [if_neg (by decide), inV_vi, flt_snoc hr']
        refine ite2 (fun z => ?_) (fun z => ?_)
        · rw [if_pos (of_decide_eq_true z)]
          refine ⟨_, rfl, _, e', ?_, same_put s' hM, ?_⟩
          · rw [List.length_map]
            have := List.length_filter_le (fun y => decide (y ∈ C)) ((P.map (·.2)).take k)
            rw [List.length_take, List.length_map] at this
            exact small1000 (by omega)
          · rw [upd_same]
            exact congrArg (fun l => some (HO.lst l)) (vi_snoc' _ _).symm
        · rw [if_neg (fun y => z (decide_eq_true y)), List.append_nil]
          exact ⟨s', e'⟩
      rintro H6 ⟨s6, e6⟩
      rw [List.length_map, List.take_length] at e6
      have sE := sD.trans s6
      have ln : (vi ((P.map (·.2)).filter fun y => decide (y ∈ C))).length = (inside P C).length := by
        rw [List.length_map, flt_inside]
      have lc : (vi C).length = C.length := List.length_map _
      refine ⟨M, _, rfl, .inl (SqL.of e6), _, rfl, t, _, rfl, .inr (SqT.of (s6 _ _ e5)), rfl, _, rfl, ?_⟩
      rw [ln, lc, int_dec]
      by_cases ti : (inside P C).length = C.length
      · rw [show decide (((inside P C).length : Int) = (C.length : Int)) = true from decide_eq_true (by omega)]
        have l0 : 0 < C.length := List.length_pos_of_mem ic.has
        refine iteT ⟨_, rfl, t, _, _, _, rfl, rfl, SqT.of (s6 _ _ e5), at_first l0, by show 2 ≤ sizeLine; decide, fun u hu nu => q _ u _ (sE.trans (same_upd hu)) upd_same nu ?_⟩
        rw [o2 wk eq ti]
        exact .cons (.str _) (.cons (.int _) .nil)
      · rw [show decide (((inside P C).length : Int) = (C.length : Int)) = false from decide_eq_false (by omega)]
        refine iteF ⟨Nat.zero_le _, fun u hu nu => q _ u _ (sE.trans (same_upd hu)) upd_same nu ?_⟩
        rw [o3 wk (.inr ti)]
        exact .nil
end
end Fw
set_option maxHeartbeats 2000000
namespace Fw
open PySem PySem.Spec PyProof.Rows L2
/-! values of any kind with a bound: the numbers' size, the depth, the bulk -/
mutual
def okI (b : Nat) : PyData → Bool
  | .int i => decide (i.natAbs ≤ 10 ^ 59 + b)
  | .str z => z.cps.toList.all fun c => decide (c < 1114112)
  | .list ds => okIA b ds
  | .tuple ds => okIA b ds
  | .dict kvs => kvs.isEmpty
  | .none => true
  | .bool _ => true
def okIA (b : Nat) : List PyData → Bool
  | [] => true
  | d :: ds => okI b d && okIA b ds
end
theorem int_short {i : Int} {b : Nat} (h : i.natAbs ≤ 10 ^ 59 + b) (hb : b ≤ 1000) : (PyData.shown (.int i)).length ≤ 70 ∧ i.natAbs.log2 < 1920 := by
  have h1 : i.natAbs < 10 ^ 60 := by
    have : (10 : Nat) ^ 59 + 1000 < 10 ^ 60 := by decide +kernel
    omega
  constructor
  · have e := int_text_length_le10 (k := 60) (by decide) h1
    show (Str.ofString (toString i)).length ≤ 70
    rw [PySem.ofString_length]
    omega
  · by_cases z : i.natAbs = 0
    · rw [z]; decide
    · rw [Nat.log2_lt z]
      have : (10 : Nat) ^ 60 < 2 ^ 200 := by decide +kernel
      have : (2 : Nat) ^ 200 ≤ 2 ^ 1920 := Nat.pow_le_pow_right (by decide) (by decide)
      omega
mutual
theorem okI_short {b : Nat} (hb : b ≤ 1000) : ∀ d : PyData, okI b d = true → d.leavesShort 70 = true ∧ d.showable = true
  | .int i, h => by
    have h := int_short (of_decide_eq_true (show decide (i.natAbs ≤ 10 ^ 59 + b) = true from h)) hb
    simp only [PyData.leavesShort, PyData.showable]
    exact ⟨decide_eq_true h.1, decide_eq_true h.2⟩
  | .str z, h => by
    simp only [PyData.leavesShort, PyData.showable]
    refine ⟨?_, trivial⟩
    have h : (z.cps.toList.all fun c => decide (c < 1114112)) = true := h
    rw [List.all_eq_true] at h ⊢
    intro c hc
    have := of_decide_eq_true (h c hc)
    have e : (16 : Nat) ^ 8 = 4294967296 := by decide
    exact decide_eq_true (by omega)
  | .list ds, h => by
    simp only [PyData.leavesShort, PyData.showable]
    exact okIA_short hb ds h
  | .tuple ds, h => by
    simp only [PyData.leavesShort, PyData.showable]
    exact okIA_short hb ds h
  | .dict [], _ => by
    simp [PyData.leavesShort, PyData.showable, PyData.leavesShortKv, PyData.showableKv]
  | .dict (_ :: _), h => by cases h
  | .none, _ => by simp [PyData.leavesShort, PyData.showable]
  | .bool _, _ => by simp [PyData.leavesShort, PyData.showable]
theorem okIA_short {b : Nat} (hb : b ≤ 1000) : ∀ ds : List PyData, okIA b ds = true → PyData.leavesShortAll 70 ds = true ∧ PyData.showableAll ds = true
  | [], _ => ⟨rfl, rfl⟩
  | d :: ds, h => by
    have h : (okI b d && okIA b ds) = true := h
    rw [Bool.and_eq_true] at h
    obtain ⟨a1, a2⟩ := okI_short hb d h.1
    obtain ⟨b1, b2⟩ := okIA_short hb ds h.2
    simp only [PyData.leavesShortAll, PyData.showableAll, a1, a2, b1, b2, Bool.and_true, and_self]
end
mutual
theorem okI_up {a b : Nat} (h : a ≤ b) : ∀ d : PyData, okI a d = true → okI b d = true
  | .int i, z => decide_eq_true (Nat.le_trans (of_decide_eq_true (show decide (i.natAbs ≤ 10 ^ 59 + a) = true from z)) (by omega))
  | .str _, z => z
  | .list ds, z => okIA_up h ds z
  | .tuple ds, z => okIA_up h ds z
  | .dict _, z => z
  | .none, _ => rfl
  | .bool _, _ => rfl
theorem okIA_up {a b : Nat} (h : a ≤ b) : ∀ ds : List PyData, okIA a ds = true → okIA b ds = true
  | [], _ => rfl
  | d :: ds, z => by
    have z : (okI a d && okIA a ds) = true := z
    rw [Bool.and_eq_true] at z
    show (okI b d && okIA b ds) = true
    rw [Bool.and_eq_true]
    exact ⟨okI_up h d z.1, okIA_up h ds z.2⟩
end
structure Gd (b k n : Nat) (d : PyData) : Prop where
  i : okI b d = true
  p : d.depth ≤ k
  w : d.bulk ≤ n
structure GdA (b k n : Nat) (ds : List PyData) : Prop where
  i : okIA b ds = true
  p : PyData.depthAll ds ≤ k
  w : PyData.bulkAll ds ≤ n
theorem Gd.up {a b j k m n : Nat} {d : PyData} (h : Gd a j m d) (h1 : a ≤ b) (h2 : j ≤ k) (h3 : m ≤ n) : Gd b k n d := ⟨okI_up h1 d h.i, Nat.le_trans h.p h2, Nat.le_trans h.w h3⟩
theorem GdA.up {a b j k m n : Nat} {d : List PyData} (h : GdA a j m d) (h1 : a ≤ b) (h2 : j ≤ k) (h3 : m ≤ n) : GdA b k n d := ⟨okIA_up h1 d h.i, Nat.le_trans h.p h2, Nat.le_trans h.w h3⟩
theorem GdA.nil {b k n : Nat} : GdA b k n [] := ⟨rfl, Nat.zero_le _, Nat.zero_le _⟩
theorem GdA.cons {b k m n : Nat} {d : PyData} {ds : List PyData} (h : Gd b k m d) (t : GdA b k n ds) : GdA b k (m + 1 + n) (d :: ds) := by
  refine ⟨?_, ?_, ?_⟩
  · show (okI b d && okIA b ds) = true
    rw [h.i, t.i]; rfl
  · simp only [PyData.depthAll]
    have := h.p; have := t.p; omega
  · simp only [PyData.bulkAll]
    have := h.w; have := t.w; omega
theorem GdA.un {b k n : Nat} {d : PyData} {ds : List PyData} (h : GdA b k n (d :: ds)) : ∃ m l, m + 1 + l ≤ n ∧ Gd b k m d ∧ GdA b k l ds := by
  obtain ⟨h1, h2, h3⟩ := h
  have h1 : (okI b d && okIA b ds) = true := h1
  rw [Bool.and_eq_true] at h1
  simp only [PyData.depthAll] at h2
  simp only [PyData.bulkAll] at h3
  exact ⟨_, _, h3, ⟨h1.1, by omega, Nat.le_refl _⟩, ⟨h1.2, by omega, Nat.le_refl _⟩⟩
theorem GdA.app {b k n : Nat} {ys : List PyData} (t : GdA b k n ys) : ∀ {m : Nat} {xs : List PyData}, GdA b k m xs → GdA b k (m + n) (xs ++ ys)
  | m, [], _ => t.up (Nat.le_refl _) (Nat.le_refl _) (by omega)
  | m, x :: xs, h => by
    obtain ⟨a, l, e, h1, h2⟩ := h.un
    exact (GdA.cons h1 (GdA.app t h2)).up (Nat.le_refl _) (Nat.le_refl _) (by omega)
theorem GdA.split {b k n : Nat} : ∀ {xs ys : List PyData}, GdA b k n (xs ++ ys) → ∃ m l, m + l ≤ n ∧ GdA b k m xs ∧ GdA b k l ys
  | [], ys, h => ⟨0, n, by omega, .nil, h⟩
  | x :: xs, ys, h => by
    obtain ⟨a, l, e, h1, h2⟩ := GdA.un (d := x) (ds := xs ++ ys) h
    obtain ⟨m, r, e2, h3, h4⟩ := h2.split
    exact ⟨a + 1 + m, r, by omega, .cons h1 h3, h4⟩
theorem GdA.at {b k n : Nat} {ds : List PyData} (h : GdA b k n ds) (i : Nat) : ∃ m l, m + l ≤ n ∧ GdA b k m (ds.take i) ∧ GdA b k l (ds.drop i) := by
  have := h
  rw [← List.take_append_drop i ds] at this
  exact this.split
theorem GdA.rev {b k : Nat} : ∀ {ds : List PyData} {n : Nat}, GdA b k n ds → GdA b k n ds.reverse
  | [], _, h => h
  | x :: xs, n, h => by
    obtain ⟨a, l, e, h1, h2⟩ := h.un
    rw [List.reverse_cons]
    exact (GdA.app (GdA.cons h1 (GdA.nil (n := 0))) h2.rev).up (Nat.le_refl _) (Nat.le_refl _) (by omega)
theorem GdA.get {b k : Nat} : ∀ {ds : List PyData} {n : Nat}, GdA b k n ds → ∀ {d : PyData}, d ∈ ds → Gd b k n d
  | x :: xs, n, h, d, m => by
    obtain ⟨a, l, e, h1, h2⟩ := h.un
    rcases List.mem_cons.mp m with rfl | m
    · exact h1.up (Nat.le_refl _) (Nat.le_refl _) (by omega)
    · exact (h2.get m).up (Nat.le_refl _) (Nat.le_refl _) (by omega)
theorem GdA.len {b k : Nat} : ∀ {ds : List PyData} {n : Nat}, GdA b k n ds → ds.length ≤ n
  | [], _, _ => Nat.zero_le _
  | x :: xs, n, h => by
    obtain ⟨a, l, e, h1, h2⟩ := h.un
    have := h2.len
    rw [List.length_cons]
    omega
theorem Gd.tup {b k n : Nat} {ds : List PyData} (h : GdA b k n ds) : Gd b (k + 1) n (.tuple ds) := ⟨h.i, by simp only [PyData.depth]; have := h.p; omega, by simp only [PyData.bulk]; exact h.w⟩
theorem Gd.lst {b k n : Nat} {ds : List PyData} (h : GdA b k n ds) : Gd b (k + 1) n (.list ds) := ⟨h.i, by simp only [PyData.depth]; have := h.p; omega, by simp only [PyData.bulk]; exact h.w⟩
theorem Gd.un {b k n : Nat} {ds : List PyData} (h : Gd b (k + 1) n (.tuple ds)) : GdA b k n ds := ⟨h.i, by have := h.p; simp only [PyData.depth] at this; omega, by have := h.w; simp only [PyData.bulk] at this; exact this⟩
theorem Gd.flat {b n : Nat} {ds : List PyData} (h : Gd b 0 n (.tuple ds)) : False := by
  have := h.p
  simp only [PyData.depth] at this
  omega
/-- it can be shown -/
theorem Gd.shows {b k n : Nat} {d : PyData} (h : Gd b k n d) (hb : b ≤ 1000) (hk : k ≤ 60) (hn : n ≤ 100000) : d.showable = true ∧ d.depth ≤ 60 ∧ d.shown.length ≤ sizeLine := by
  obtain ⟨h1, h2⟩ := okI_short hb d h.i
  refine ⟨h2, Nat.le_trans h.p hk, ?_⟩
  have h3 := PyData.shown_le_bulk 70 (by decide) d h1
  have h4 : (70 + 2) * d.bulk ≤ 72 * 100000 := Nat.mul_le_mul_left _ (Nat.le_trans h.w hn)
  rw [sizeLine_eq]
  omega
theorem datas_gd : ∀ d ∈ datas, okI 0 d = true ∧ d.depth ≤ 2 ∧ d.bulk ≤ 10 := by decide +kernel
theorem gd_data {d : PyData} (h : d ∈ datas) : Gd 0 2 10 d := ⟨(datas_gd d h).1, (datas_gd d h).2.1, (datas_gd d h).2.2⟩
/-! slices and sums of tuples whose items are told -/
theorem DxAll.app {K : PySem.W.Frag} {av : List Addr} {H : Hp} : ∀ {xs ys : List V} {ds es : List PyData}, DxAll K av H xs ds → DxAll K av H ys es → DxAll K av H (xs ++ ys) (ds ++ es)
  | _, _, _, _, .nil, t => t
  | _, _, _, _, .cons h r, t => .cons h (r.app t)
theorem DxAll.take {K : PySem.W.Frag} {av : List Addr} {H : Hp} : ∀ {xs : List V} {ds : List PyData} (i : Nat), DxAll K av H xs ds → DxAll K av H (xs.take i) (ds.take i)
  | _, _, 0, _ => by rw [List.take_zero, List.take_zero]; exact .nil
  | _, _, i + 1, .nil => .nil
  | _, _, i + 1, .cons h r => .cons h (r.take i)
theorem DxAll.drop {K : PySem.W.Frag} {av : List Addr} {H : Hp} : ∀ {xs : List V} {ds : List PyData} (i : Nat), DxAll K av H xs ds → DxAll K av H (xs.drop i) (ds.drop i)
  | _, _, 0, h => h
  | _, _, i + 1, .nil => .nil
  | _, _, i + 1, .cons h r => r.drop i
theorem DxAll.rev {K : PySem.W.Frag} {av : List Addr} {H : Hp} : ∀ {xs : List V} {ds : List PyData}, DxAll K av H xs ds → DxAll K av H xs.reverse ds.reverse
  | _, _, .nil => .nil
  | _, _, .cons h r => by
    rw [List.reverse_cons, List.reverse_cons]
    exact r.rev.app (.cons h .nil)
theorem DxAll.len {K : PySem.W.Frag} {av : List Addr} {H : Hp} : ∀ {xs : List V} {ds : List PyData}, DxAll K av H xs ds → xs.length = ds.length
  | _, _, .nil => rfl
  | _, _, .cons _ r => congrArg (· + 1) r.len
theorem DxAll.at {K : PySem.W.Frag} {av : List Addr} {H : Hp} : ∀ {xs : List V} {ds : List PyData}, DxAll K av H xs ds → ∀ {i : Nat} {x : V}, xs[i]? = some x → ∃ d, ds[i]? = some d ∧ Dx K av H x d
  | _, _, .cons h r, 0, x, e => by cases e; exact ⟨_, rfl, h⟩
  | _, _, .cons h r, i + 1, x, e => r.at e
section
variable {X : Cx}
/-- t[lo:hi]: some tuple with those items -/
def rSlS (K : PySem.W.Frag) : V → Option Int → Option Int → Hp → VK → Prop := fun x lo hi H Q => ∃ a xs, x = .ref a ∧ SqT K H a xs ∧ ∀ H' p, Same H H' → SqT K H' p (cutV xs lo hi) → Q (.ref p) H'
theorem cut_whole {xs : List V} {lo hi : Option Int} (h1 : HT.sIx xs.length 0 lo = 0) (h2 : HT.sIx xs.length xs.length hi = xs.length) : cutV xs lo hi = xs := by
  unfold cutV
  rw [h1, h2, List.drop_zero, Nat.sub_zero, List.take_length]
theorem sl_tupS : SlR X (rSlS X.K) := by
  intro pins s σ H x v vl vu lo hi sl Q I rx hs pl pu h
  obtain ⟨a, xs, rfl, hx, q⟩ := h
  refine sl_tupA pins s σ H _ v vl vu lo hi sl Q I rx hs pl pu ⟨a, xs, rfl, hx, fun w => q H a (Same.refl _) ?_, fun _ p hp => q _ p (same_upd hp) (SqT.of upd_same)⟩
  rw [cut_whole w.1 w.2]
  exact hx
/-- t + u: some tuple with those items -/
def rCatS (K : PySem.W.Frag) : R2 := fun x y H Q => ∃ a b xs ys, x = .ref a ∧ y = .ref b ∧ SqT K H a xs ∧ SqT K H b ys ∧ xs.length + ys.length ≤ sizeLine ∧ ∀ H' p, Same H H' → SqT K H' p (xs ++ ys) → Q (.ref p) H'
theorem op_catS : OpR X (binaryOp .Add) (rCatS X.K) := by
  intro pins s σ H x y v u Q I rx ry h
  obtain ⟨a, b, xs, ys, rfl, rfl, ha, hb, hz, q⟩ := h
  refine op_catA pins s σ H _ _ v u Q I rx ry ⟨a, b, xs, ys, rfl, rfl, ha, hb, hz, fun e => q H b (Same.refl _) (by rw [e]; exact hb), fun _ e => q H a (Same.refl _) (by rw [e, List.append_nil]; exact ha), fun _ _ p hp => q _ p (same_upd hp) (SqT.of upd_same)⟩
end
theorem cut_to {xs : List V} {i : Int} (h0 : 0 ≤ i) (h1 : i ≤ (xs.length : Nat)) : cutV xs none (some i) = xs.take i.toNat := by
  unfold cutV
  show (xs.drop 0).take ((if i < 0 then (i + (xs.length : Nat)).toNat else min i.toNat xs.length) - 0) = _
  rw [if_neg (by omega), List.drop_zero, Nat.sub_zero, show min i.toNat xs.length = i.toNat by omega]
theorem cut_from {xs : List V} {i : Int} (h0 : 0 ≤ i) (h1 : i ≤ (xs.length : Nat)) : cutV xs (some i) none = xs.drop i.toNat := by
  unfold cutV
  show (xs.drop (if i < 0 then (i + (xs.length : Nat)).toNat else min i.toNat xs.length)).take (xs.length - (if i < 0 then (i + (xs.length : Nat)).toNat else min i.toNat xs.length)) = _
  rw [if_neg (by omega), show min i.toNat xs.length = i.toNat by omega, List.take_of_length_le (by rw [List.length_drop]; exact Nat.le_refl _)]
end Fw
set_option maxHeartbeats 2000000
namespace Fw
open PySem PySem.Spec PyProof.Rows L2
open RZ
/-! placements and moves as bounded values (in place of the same names of Pc and L05: never both) -/
theorem dxA_ppsA {K : PySem.W.Frag} {av : List Addr} {H : Hp} : ∀ {ps : List (Addr × Str × Int)}, (∀ p ∈ ps, H p.1 = some (.tup [.str p.2.1, .int p.2.2])) → DxAll K av H (ps.map fun p => V.ref p.1) ((ps.map (·.2)).map pp)
  | [], _ => .nil
  | p :: ps, h => .cons (.tup (SqT.of (h p (List.mem_cons_self ..))) (.cons (.str _) (.cons (.int _) .nil))) (dxA_ppsA fun q hq => h q (List.mem_cons_of_mem _ hq))
theorem PlAt.dxv {K : PySem.W.Frag} {av : List Addr} {H : Hp} {p : Addr} {P : List (Str × Int)} (x : PlAt H p P) : ∃ xs, SqT K H p xs ∧ DxAll K av H xs (P.map pp) ∧ xs.length = P.length := by
  obtain ⟨ps, h1, h2, h3⟩ := x
  rw [h2]
  exact ⟨_, h1.sq, dxA_ppsA h3, by rw [List.length_map, List.length_map]⟩
theorem PlAt.dxa {K : PySem.W.Frag} {av : List Addr} {H : Hp} {p : Addr} {P : List (Str × Int)} (x : PlAt H p P) : Dx K av H (.ref p) (pld P) := by
  obtain ⟨xs, h1, h2, _⟩ := x.dxv (K := K) (av := av)
  exact .tup h1 h2
theorem pp_gd {x : Str × Int} {m : Nat} (h1 : okI 0 (.str x.1) = true) (h2 : x.1.length ≤ m) (h3 : x.2.natAbs ≤ 1000) : Gd 0 1 (m + 2) (pp x) := by
  have a : Gd 0 0 m (.str x.1) := ⟨h1, Nat.zero_le _, h2⟩
  have b : Gd 0 0 0 (.int x.2) := by
    refine ⟨decide_eq_true ?_, Nat.zero_le _, Nat.zero_le _⟩
    have : (1000 : Nat) ≤ 10 ^ 59 := by decide +kernel
    omega
  exact (Gd.tup (GdA.cons a (GdA.cons b (GdA.nil (n := 0))))).up (Nat.le_refl _) (Nat.le_refl _) (by omega)
theorem nam_okI {z : Str} (h : Nam z) : okI 0 (.str z) = true := by
  show (z.cps.toList.all fun c => decide (c < 1114112)) = true
  rw [List.all_eq_true]
  intro c hc
  have := h.2.2 c hc
  exact decide_eq_true (by omega)
theorem pps_gd : ∀ {P : List (Str × Int)}, (∀ x ∈ P, Nam x.1 ∧ 0 ≤ x.2 ∧ x.2 ≤ 100) → GdA 0 1 (11 * P.length) (P.map pp)
  | [], _ => .nil
  | x :: P, h => by
    obtain ⟨h1, h2, h3⟩ := h x List.mem_cons_self
    have l := h1.2.1
    rw [List.map_cons]
    exact (GdA.cons (pp_gd (m := 8) (nam_okI h1) l (by omega)) (pps_gd fun y hy => h y (List.mem_cons_of_mem _ hy))).up (Nat.le_refl _) (Nat.le_refl _) (by rw [List.length_cons]; omega)
mutual
theorem dx_nilA {K : PySem.W.Frag} {av : List Addr} {H : Hp} : ∀ {v : V} {d : PyData}, Dx K av H v d → Dx K [] H v d
  | _, _, .non => .non
  | _, _, .bl b => .bl b
  | _, _, .int i => .int i
  | _, _, .str x => .str x
  | _, _, .lst h n a => .lst h (fun m => n (by rw [List.mem_singleton.mp m]; exact List.mem_cons_self)) (dx_nilAll a)
  | _, _, .tup h a => .tup h (dx_nilAll a)
  | _, _, .dct e => .dct e
theorem dx_nilAll {K : PySem.W.Frag} {av : List Addr} {H : Hp} : ∀ {vs : List V} {ds : List PyData}, DxAll K av H vs ds → DxAll K [] H vs ds
  | _, _, .nil => .nil
  | _, _, .cons h t => .cons (dx_nilA h) (dx_nilAll t)
end
theorem Pl.small {n : Int} {P : List (Str × Int)} (h : Pl n P) (hn : n ≤ 8) : ∀ x ∈ P, Nam x.1 ∧ 0 ≤ x.2 ∧ x.2 ≤ 100 := fun x hx => ⟨h.nams x hx, (h.rm x hx).1, by have := (h.rm x hx).2; omega⟩
theorem GdA.take {b k n : Nat} {ds : List PyData} (h : GdA b k n ds) (i : Nat) : GdA b k n (ds.take i) := by
  obtain ⟨m, l, e, h1, _⟩ := h.at i
  exact h1.up (Nat.le_refl _) (Nat.le_refl _) (by omega)
theorem GdA.drop {b k n : Nat} {ds : List PyData} (h : GdA b k n ds) (i : Nat) : GdA b k n (ds.drop i) := by
  obtain ⟨m, l, e, _, h1⟩ := h.at i
  exact h1.up (Nat.le_refl _) (Nat.le_refl _) (by omega)
theorem cut_fr {xs : List V} {i : Int} (h0 : 0 ≤ i) : cutV xs (some i) none = xs.drop i.toNat := by
  unfold cutV
  show (xs.drop (if i < 0 then (i + (xs.length : Nat)).toNat else min i.toNat xs.length)).take (xs.length - (if i < 0 then (i + (xs.length : Nat)).toNat else min i.toNat xs.length)) = _
  rw [if_neg (by omega)]
  rcases Nat.le_total i.toNat xs.length with h | h
  · rw [Nat.min_eq_left h, List.take_of_length_le (by rw [List.length_drop]; exact Nat.le_refl _)]
  · rw [Nat.min_eq_right h, List.drop_of_length_le (Nat.le_refl _), List.drop_of_length_le h, List.take_nil]
theorem cut_mid {xs : List V} {i : Int} (h0 : 0 ≤ i) (k : Nat) : cutV xs (some i) (some (i + k)) = (xs.drop i.toNat).take k := by
  unfold cutV
  show (xs.drop (if i < 0 then (i + (xs.length : Nat)).toNat else min i.toNat xs.length)).take ((if i + k < 0 then (i + k + (xs.length : Nat)).toNat else min (i + k).toNat xs.length) - (if i < 0 then (i + (xs.length : Nat)).toNat else min i.toNat xs.length)) = _
  rw [if_neg (by omega), if_neg (by omega)]
  rcases Nat.le_total i.toNat xs.length with h | h
  · rw [Nat.min_eq_left h]
    rcases Nat.le_total (i + k).toNat xs.length with g | g
    · rw [Nat.min_eq_left g, show (i + k).toNat - i.toNat = k by omega]
    · rw [Nat.min_eq_right g, List.take_of_length_le (by rw [List.length_drop]; exact Nat.le_refl _), List.take_of_length_le (by rw [List.length_drop]; omega)]
  · rw [Nat.min_eq_right h, List.drop_of_length_le (Nat.le_refl _), List.drop_of_length_le h, List.take_nil, List.take_nil]
/-! a house as a value -/
theorem int_gd {i : Int} (h0 : 0 ≤ i) (h1 : i ≤ 1000) : Gd 0 0 0 (.int i) := by
  refine ⟨decide_eq_true ?_, Nat.zero_le _, Nat.zero_le _⟩
  have : (1000 : Nat) ≤ 10 ^ 59 := by decide +kernel
  omega
theorem doors_gd : ∀ {D : List (Int × Int)}, (∀ d ∈ D, 0 ≤ d.1 ∧ d.1 ≤ 100 ∧ 0 ≤ d.2 ∧ d.2 ≤ 100) → GdA 0 1 (3 * D.length) (D.map pd)
  | [], _ => GdA.nil.up (Nat.le_refl _) (Nat.zero_le _) (Nat.zero_le _)
  | d :: D, h => by
    obtain ⟨a1, a2, a3, a4⟩ := h d List.mem_cons_self
    have a : Gd 0 1 2 (pd d) := Gd.tup (GdA.cons (int_gd a1 (by omega)) (GdA.cons (int_gd a3 (by omega)) (GdA.nil (n := 0))))
    exact (GdA.cons a (doors_gd fun x hx => h x (List.mem_cons_of_mem _ hx))).up (Nat.le_refl _) (Nat.le_refl _) (by rw [List.length_cons]; omega)
theorem house_gd {n : Int} {D : List (Int × Int)} (f : Forest n D) (n0 : 0 ≤ n) (n1 : n ≤ 8) : Gd 0 3 40 (hd n D) := by
  have a := Gd.tup (doors_gd (D := D) fun d hd => by
    have := f.ends (a := d.1) (b := d.2) hd
    omega)
  have hl : D.length ≤ 8 := f.len
  exact (Gd.tup (GdA.cons ((int_gd n0 (by omega)).up (Nat.le_refl 0) (Nat.zero_le 2) (Nat.le_refl 0)) (GdA.cons a (GdA.nil (n := 0))))).up (Nat.le_refl _) (Nat.le_refl _) (by omega)
theorem doors_dx {K : PySem.W.Frag} {av : List Addr} {H : Hp} : ∀ {ps : List (Addr × Int × Int)}, (∀ p ∈ ps, H p.1 = some (.tup [.int p.2.1, .int p.2.2])) → DxAll K av H (ps.map fun p => V.ref p.1) ((ps.map (·.2)).map pd)
  | [], _ => .nil
  | p :: ps, h => .cons (.tup (SqT.of (h p List.mem_cons_self)) (.cons (.int _) (.cons (.int _) .nil))) (doors_dx fun x hx => h x (List.mem_cons_of_mem _ hx))
theorem HouseAt.dx {K : PySem.W.Frag} {av : List Addr} {H : Hp} {h : Addr} {n : Int} {D : List (Int × Int)} (x : HouseAt H h n D) : Dx K av H (.ref h) (hd n D) := by
  obtain ⟨q, ps, h1, h2, rfl, h4⟩ := x
  exact .tup (SqT.of h1) (.cons (.int _) (.cons (.tup (SqT.of h2) (doors_dx h4)) .nil))
end Fw
set_option maxHeartbeats 4000000
namespace Fw
open PySem PySem.Spec PyProof.Rows L2
/-! values that are no names -/
theorem av_no {av : List Addr} {H J : Hp} {p : Addr} (h : ∀ a ∈ av, ∃ o, H a = some o) (s : Same H J) (n : J p = none) (m : p ∈ av) : False := by
  obtain ⟨o, e⟩ := h p m
  rw [s _ _ e] at n
  cases n
theorem GdA.snocs {b k m n : Nat} {ds es : List PyData} (h : GdA b k m ds) (t : GdA b k n es) : GdA b k (m + n) (ds ++ es) := t.app h
theorem strs_gd : ∀ {ns : List Str}, (∀ x ∈ ns, Nam x) → GdA 0 0 (9 * ns.length) (ns.map PyData.str)
  | [], _ => .nil
  | x :: ns, h => by
    have h1 := h x (List.mem_cons_self ..)
    have a : Gd 0 0 8 (.str x) := ⟨nam_okI h1, Nat.zero_le _, h1.2.1⟩
    have := GdA.cons a (strs_gd fun y hy => h y (List.mem_cons_of_mem _ hy))
    refine this.up (Nat.le_refl _) (Nat.le_refl _) ?_
    rw [List.length_cons]
    omega
theorem dxA_strs {K : PySem.W.Frag} {av : List Addr} {H : Hp} : ∀ {ns : List Str}, DxAll K av H (ns.map V.str) (ns.map PyData.str)
  | [] => .nil
  | x :: ns => .cons (.str x) dxA_strs
theorem join1_low {sep : Str} {ns : List Str} (h : ∀ x ∈ ns, Nam x) : Low 8 (Txt.join sep (ns.take 1)) := by
  show Low 8 (Builtin.Str.glued sep (ns.take 1))
  rw [StrLaws.glued_eq_join]
  cases ns with
  | nil => exact ⟨Nat.zero_le _, fun c hc => by cases (show c ∈ ([] : List Nat) from hc)⟩
  | cons x r =>
    rw [List.take_succ_cons, List.take_zero]
    exact (h x (List.mem_cons_self ..)).2
theorem take1_fits {sep : Str} (hs : sep.length = 0) {ns : List Str} (h : ∀ x ∈ ns, Nam x) : ((ns.take 1).map (·.length)).sum + (ns.take 1).length * sep.length ≤ 16777216 := by
  rw [hs, Nat.mul_zero]
  cases ns with
  | nil => exact Nat.zero_le _
  | cons x r =>
    have := (h x (List.mem_cons_self ..)).2.1
    rw [List.take_succ_cons, List.take_zero]
    simp only [List.map_cons, List.map_nil, List.sum_cons, List.sum_nil]
    omega
theorem cut_one (ns : List Str) : cutV (ns.map V.str) none (some 1) = (ns.take 1).map V.str := by
  cases ns with
  | nil => rfl
  | cons x r =>
    rw [cut_to (by decide) (by rw [List.length_map, List.length_cons]; omega)]
    rfl
theorem spc_gd {z : Str} (h : Low 8 z) : Gd 0 0 9 (.str (Str.ofString " " ++ z)) := by
  refine ⟨?_, Nat.zero_le _, ?_⟩
  · show ((Str.ofString " " ++ z).cps.toList.all fun c => decide (c < 1114112)) = true
    rw [List.all_eq_true, app_list]
    intro c hc
    rcases List.mem_append.mp hc with hc | hc
    · have : (Str.ofString " ").cps.toList = [32] := by decide +kernel
      rw [this, List.mem_singleton] at hc
      rw [hc]; rfl
    · have := h.2 c hc
      exact decide_eq_true (by omega)
  · show (Str.ofString " " ++ z).length ≤ 9
    have e : (Str.ofString " ").cps.toList = [32] := by decide +kernel
    have := h.1
    rw [len_list] at *
    rw [app_list, e, List.length_append]
    simp only [List.length_cons, List.length_nil]
    omega
section
variable {P : Program} {w : World} {K : PySem.W.Frag} {mg : Str → Option Value} {base : Heap}
def spInvN (K : PySem.W.Frag) : Sp := fun vs H Q _ => ∃ (t : Addr) (ns : List Str), vs = [.ref t] ∧ SqT K H t (ns.map V.str) ∧ (∀ x ∈ ns, Nam x) ∧ ns.length ≤ 12 ∧
  ∀ H' u xs ds, Same H H' → H' u = some (.lst xs) → xs.length = 15 → (∀ av : List Addr, (∀ a ∈ av, ∃ o, H a = some o) → u ∉ av ∧ DxAll K av H' xs ds) → GdA 0 1 300 ds → Q (.ref u) H'
abbrev nLInvN : List Str := ["_law_names_here", "_law_found"]
theorem scLInvN : FnScope nLInvN ["_law_names_here"] (defScope sLInvN) := ⟨rfl, rfl, rfl, by decide +kernel, rfl, by decide +kernel, by decide +kernel⟩
theorem ok_linvn {f : Addr} {fd : FuncData} {k : Nat} (F : Fun K "_law_invalid_names" "_law_invalid_names" sLInvN f fd) (T : Nm mg) : FnOk P w K mg base CX0 (k + 1) f fd ["_law_names_here"] (spInvN K) := by
  refine F.ok scLInvN (fun vs H Q E h => ?_) (fun cdv A outer s H vs Q E1 h0 h => ?_)
  · obtain ⟨t, ns, rfl, _⟩ := h
    rfl
  · obtain ⟨t, ns, rfl, hT, nm, ln, q⟩ := h
    have hr := h0
    refine ⟨_, (pss_cons (ps_set (i := 1) scLInvN.nd rfl (.inl rfl) (pe_lst (pa_cons pe_non (pa_cons pe_bl (pa_cons pe_int (pa_cons pe_str (pa_cons pe_str (pa_cons pe_str (pa_cons (pe_tup pa_nil) (pa_cons (pe_tup (pa_cons pe_str pa_nil)) (pa_cons (pe_lstN pa_nil) (pa_cons pe_dnewK (pa_cons (pe_op op_pow pe_int pe_int) (pa_cons pe_str (pa_cons (pe_op op_add_str pe_str (pe_join pe_str (pe_slice sl_tupS (pv 0) po_none (po_some pe_int)))) pa_nil)))))))))))))))
      (pss_one (ps_ret (pe_op op_cat (pv 1) (pe_lst (pa_cons (pe_callTy call_listN (by rfl) T.list (by decide +kernel) (pa_cons (pv 0) pa_nil)) (pa_cons (pe_slice sl_tupS (pv 0) po_none (po_some pe_int)) pa_nil))))))), ?_⟩
    refine ⟨le_sz (by simp), fun p1 n1 => ⟨le_sz (by simp), fun p2 n2 => ⟨le_sz (by simp), fun p3 n3 ns3 => fun p4 n4 => ?_⟩⟩⟩
    have t1 := same_upd (o := .tup []) n1
    have x1 : (upd H p1 (.tup [])) p1 = some (.tup []) := upd_same
    generalize upd H p1 (.tup []) = J1 at *
    have t2 := same_upd (o := .tup [.str "a"]) n2
    have x2 : (upd J1 p2 (.tup [.str "a"])) p2 = some (.tup [.str "a"]) := upd_same
    generalize upd J1 p2 (.tup [.str "a"]) = J2 at *
    have t3 := same_upd (o := .lst []) n3
    have x3 : (upd J2 p3 (.lst [])) p3 = some (.lst []) := upd_same
    generalize upd J2 p3 (.lst []) = J3 at *
    have t4 := same_upd (o := .dK []) n4
    have x4 : (upd J3 p4 (.dK [])) p4 = some (.dK []) := upd_same
    generalize upd J3 p4 (.dK []) = J4 at *
    have t14 := t1.trans (t2.trans (t3.trans t4))
    refine ⟨10, 59, rfl, rfl, ⟨by decide, by decide, by decide⟩, ?_⟩
    refine ⟨⟨_, rfl⟩, .ref t, rfl, ?_⟩
    refine ⟨1, rfl, t, _, rfl, sqT_sm t14 hT, fun J5 b1 t5 y1 => ?_⟩
    rw [cut_one] at y1
    refine ⟨_, b1, _, rfl, rfl, .inr y1, take1_fits rfl nm, _, _, rfl, rfl, ?_, ?_⟩
    · have := (join1_low (sep := Str.ofString "") nm).1
      have e : (Str.ofString " ").length = 1 := by decide +kernel
      rw [e]
      exact le_sz (by omega)
    have lowz := join1_low (sep := Str.ofString "") nm
    generalize Txt.join (Str.ofString "") (ns.take 1) = z at *
    refine ⟨le_sz (by simp), fun M hM => ?_⟩
    let X1 : List V := [.non, .bl true, .int 0, .str "", .str "A", .str "abcdefghi", .ref p1, .ref p2, .ref p3, .ref p4, .int (10 ^ (59 : Int).toNat), .str "nobody", .str (Str.ofString " " ++ z)]
    have t6 := same_upd (o := .lst X1) hM
    have x6 : (upd J5 M (.lst X1)) M = some (.lst X1) := upd_same
    generalize hJ6 : upd J5 M (.lst X1) = J6 at *
    have t16 := t14.trans (t5.trans t6)
    refine ⟨_, rfl, ?_⟩
    refine ⟨_, rfl, t, _, rfl, sqT_sm t16 hT, fun L hL nL => ?_⟩
    have t7 := same_upd (o := .lst (ns.map V.str)) hL
    have x7 : (upd J6 L (.lst (ns.map V.str))) L = some (.lst (ns.map V.str)) := upd_same
    generalize upd J6 L (.lst (ns.map V.str)) = J7 at *
    refine ⟨.ref t, rfl, 1, rfl, t, _, rfl, sqT_sm (t16.trans t7) hT, fun J8 b2 t8 y2 => ?_⟩
    rw [cut_one] at y2
    have y2 : SqT K J8 b2 ((ns.take 1).map V.str) := y2
    refine ⟨le_sz (by simp), fun N hN => ?_⟩
    let X2 : List V := [.ref L, .ref b2]
    have t9 := same_upd (o := .lst X2) hN
    have x9 : (upd J8 N (.lst X2)) N = some (.lst X2) := upd_same
    generalize hJ9 : upd J8 N (.lst X2) = J9 at *
    have t79 := t7.trans (t8.trans t9)
    refine ⟨M, N, _, _, rfl, rfl, t79 _ _ x6, x9, le_sz (by simp [X1, X2]), fun u hu => ?_⟩
    have t0 := same_upd (o := .lst (X1 ++ X2)) hu
    have ta := t5.trans (t6.trans (t79.trans t0))
    have zl : Low 8 z := lowz
    refine q _ u (X1 ++ X2) ([.none, .bool true, .int 0, .str "", .str "A", .str "abcdefghi", .tuple [], .tuple [.str "a"], .list [], .dict [], .int (10 ^ 59), .str "nobody", .str (Str.ofString " " ++ z)] ++ [.list (ns.map .str), .tuple ((ns.take 1).map .str)]) (t14.trans ta) upd_same (by simp [X1, X2]) (fun av ha => ⟨fun m => av_no ha (t14.trans (t5.trans (t6.trans t79))) hu m, DxAll.app (.cons .non (.cons (.bl _) (.cons (.int _) (.cons (.str _) (.cons (.str _) (.cons (.str _)
      (.cons (.tup (SqT.of (ta _ _ ((t2.trans (t3.trans t4)) _ _ x1))) .nil) (.cons (.tup (SqT.of (ta _ _ ((t3.trans t4) _ _ x2))) (.cons (.str _) .nil)) (.cons (.lst (SqL.of (ta _ _ (t4 _ _ x3))) (List.not_mem_cons_of_ne_of_not_mem ns3 fun m => av_no ha (t1.trans t2) n3 m) .nil) (.cons (.dct (ta _ _ x4)) (.cons (.int _) (.cons (.str _) (.cons (.str _) .nil)))))))))))))
      (.cons (.lst (SqL.of (((t8.trans t9).trans t0) _ _ x7)) (List.not_mem_cons_of_ne_of_not_mem nL fun m => av_no ha (t14.trans (t5.trans t6)) hL m) dxA_strs) (.cons (.tup (sqT_sm (t9.trans t0) y2) dxA_strs) .nil))⟩) ?_
    have g1 : GdA 0 1 60 [.none, .bool true, .int 0, .str "", .str "A", .str "abcdefghi", .tuple [], .tuple [.str "a"], .list [], .dict [], .int (10 ^ 59), .str "nobody"] := ⟨by decide +kernel, by decide +kernel, by decide +kernel⟩
    have gl : GdA 0 0 108 (ns.map PyData.str) := (strs_gd nm).up (Nat.le_refl _) (Nat.le_refl _) (by omega)
    have gt : GdA 0 0 9 ((ns.take 1).map PyData.str) := (strs_gd fun x hx => nm x (List.mem_of_mem_take hx)).up (Nat.le_refl _) (Nat.le_refl _) (by rw [List.length_take]; omega)
    have g2 : GdA 0 1 130 [.str (Str.ofString " " ++ z), .list (ns.map .str), .tuple ((ns.take 1).map .str)] :=
      (GdA.cons ((spc_gd zl).up (Nat.le_refl _) (Nat.zero_le 1) (Nat.le_refl _)) (GdA.cons (Gd.lst gl) (GdA.cons (Gd.tup gt) (GdA.nil (n := 0))))).up (Nat.le_refl _) (Nat.le_refl _) (by omega)
    exact (g1.snocs g2).up (Nat.le_refl _) (Nat.le_refl _) (by omega)
end
end Fw
set_option maxHeartbeats 4000000
namespace Fw
open PySem PySem.Spec PyProof.Rows L2
/-! pairs of values that are asked, while the stream goes on -/
mutual
theorem dx_less0 {K : PySem.W.Frag} {av : List Addr} {H : Hp} : ∀ {v : V} {d : PyData}, Dx K av H v d → Dx K [] H v d
  | _, _, .non => .non
  | _, _, .bl b => .bl b
  | _, _, .int i => .int i
  | _, _, .str x => .str x
  | _, _, .lst h n t => .lst h (fun m => n (by rw [List.mem_singleton.mp m]; exact List.mem_cons_self)) (dxA_less0 t)
  | _, _, .tup h t => .tup h (dxA_less0 t)
  | _, _, .dct e => .dct e
theorem dxA_less0 {K : PySem.W.Frag} {av : List Addr} {H : Hp} : ∀ {v : List V} {d : List PyData}, DxAll K av H v d → DxAll K [] H v d
  | _, _, .nil => .nil
  | _, _, .cons h t => .cons (dx_less0 h) (dxA_less0 t)
end
theorem sqT_fr0 {K : PySem.W.Frag} {s A B : Addr} {c : Nat} {H H1 : Hp} (hS : StreamAt H s A B c) (f : Fr s A H H1) {a : Addr} {xs : List V} (h : SqT K H a xs) : SqT K H1 a xs := h.imp (rd_fr hS f) id
/-- t != (), whatever lies in t -/
def rNe9 (K : PySem.W.Frag) : R2 := fun x y H Q => ∃ (a b : Addr) (xs : List V), x = .ref a ∧ y = .ref b ∧ SqT K H a xs ∧ SqT K H b [] ∧ Q (.bl (!xs.isEmpty)) H
theorem op_ne9 {X : Cx} (hu : X.A.units < cLine) : OpR X (compareOp .NotEq) (rNe9 X.K) := by
  rintro pn z σ H _ _ v u Q J rx ry ⟨a, b, xs, rfl, rfl, ha, hb, q⟩
  cases (show v = Value.ref a from rx)
  cases (show u = Value.ref b from ry)
  obtain ⟨ia, ra, pa, _⟩ := J.tuple ha
  obtain ⟨_, rb, pb, _⟩ := J.tuple hb
  cases rb
  refine SeqAt.RcNeAt.tuples (e := fun _ => true) pa pb hu (fun j _ h2 => absurd h2 (by simp)) X.prog X.w _ _ ⟨.bl (!xs.isEmpty), H, J, ?_, q⟩
  have hl := ra.length
  show Value.bool _ = Value.bool _
  congr 1
  cases xs with
  | nil => cases ra; rfl
  | cons _ _ => cases ra; simp
def Vok (K : PySem.W.Frag) (av : List Addr) (H : Hp) (v : V) : Prop := ∃ d, Dx K av H v d ∧ Gd 0 1 300 d
theorem Vok.same {K : PySem.W.Frag} {av : List Addr} {H H' : Hp} {v : V} (h : Vok K av H v) (s : Same H H') : Vok K av H' v := by
  obtain ⟨d, h1, h2⟩ := h
  exact ⟨d, dx_sm s h1, h2⟩
theorem Vok.fr {K : PySem.W.Frag} {s A B : Addr} {c : Nat} {H H' : Hp} {v : V} (h : Vok K [s, A] H v) (hS : StreamAt H s A B c) (f : Fr s A H H') : Vok K [s, A] H' v := by
  obtain ⟨d, h1, h2⟩ := h
  exact ⟨d, dx_fr hS f h1, h2⟩
theorem Vok.nam {K : PySem.W.Frag} {av : List Addr} {H : Hp} {z : Str} (h : Nam z) : Vok K av H (.str z) := ⟨_, .str _, nam_okI h, Nat.zero_le _, Nat.le_trans h.2.1 (by decide)⟩
theorem vok_all {K : PySem.W.Frag} {av : List Addr} {H : Hp} {xs : List V} {ds : List PyData} (h : DxAll K av H xs ds) (g : GdA 0 1 300 ds) : ∀ x ∈ xs, Vok K av H x := fun x hx => by
  obtain ⟨i, hi⟩ := List.getElem?_of_mem hx
  obtain ⟨d, hd, hv⟩ := h.at hi
  exact ⟨d, hv, g.get (List.mem_of_getElem? hd)⟩
structure W42 (K : PySem.W.Frag) (H : Hp) (s A B : Addr) (c : Nat) (h p t M : Addr) (n : Int) (D : List (Int × Int)) (P : List (Str × Int)) (xs : List V) : Prop where
  st : StreamAt H s A B c
  ho : HouseAt H h n D
  pl : PlD H p P
  nm : SqT K H t ((P.map (·.1)).map V.str)
  od : H M = some (.lst xs)
  nM : M ∉ [s, A]
  vs : ∀ x ∈ xs, Vok K [s, A] H x
section
variable {K : PySem.W.Frag} {H H' : Hp} {s A B : Addr} {c c' : Nat} {h p t M L : Addr} {n : Int} {D : List (Int × Int)} {P : List (Str × Int)} {xs ps : List V}
theorem not_av {a : Addr} (h : a ∉ [s, A]) : a ≠ s ∧ a ≠ A := ⟨fun z => h (z ▸ List.mem_cons_self), fun z => h (z ▸ List.mem_cons_of_mem _ List.mem_cons_self)⟩
theorem new_av {a : Addr} (hS : StreamAt H s A B c) (e : H a = none) : a ∉ [s, A] := fun m => by
  have := hS.ne e
  rcases List.mem_cons.mp m with z | z
  · exact this.1 z.symm
  · exact this.2.1 (List.mem_singleton.mp z).symm
theorem W42.same (w : W42 K H s A B c h p t M n D P xs) (e : Same H H') : W42 K H' s A B c h p t M n D P xs :=
  ⟨w.st.same e, w.ho.same e, w.pl.same e, sqT_sm e w.nm, e _ _ w.od, w.nM, fun x hx => (w.vs x hx).same e⟩
theorem W42.fr (w : W42 K H s A B c h p t M n D P xs) (f : Fr s A H H') (hS : StreamAt H' s A B c') : W42 K H' s A B c' h p t M n D P xs :=
  ⟨hS, w.ho.fr w.st f, w.pl.fr w.st f, sqT_fr0 w.st f w.nm, f _ _ (not_av w.nM).1 (not_av w.nM).2 w.od, w.nM, fun x hx => (w.vs x hx).fr w.st f⟩
/-- a pair of values -/
def Pok (K : PySem.W.Frag) (av : List Addr) (H : Hp) (v : V) : Prop := ∃ q x y, v = .ref q ∧ H q = some (.tup [x, y]) ∧ Vok K av H x ∧ Vok K av H y
theorem Pok.same {av : List Addr} {v : V} (z : Pok K av H v) (e : Same H H') : Pok K av H' v := by
  obtain ⟨q, x, y, h1, h2, h3, h4⟩ := z
  exact ⟨q, x, y, h1, e _ _ h2, h3.same e, h4.same e⟩
theorem Pok.fr {v : V} (z : Pok K [s, A] H v) (hS : StreamAt H s A B c) (f : Fr s A H H') : Pok K [s, A] H' v := by
  obtain ⟨q, x, y, h1, h2, h3, h4⟩ := z
  exact ⟨q, x, y, h1, f.tup hS h2, h3.fr hS f, h4.fr hS f⟩
structure PsOk (K : PySem.W.Frag) (av : List Addr) (H : Hp) (L : Addr) (ps : List V) : Prop where
  e : H L = some (.lst ps)
  n : L ∉ av
  p : ∀ v ∈ ps, Pok K av H v
theorem PsOk.same {av : List Addr} (z : PsOk K av H L ps) (e : Same H H') : PsOk K av H' L ps := ⟨e _ _ z.e, z.n, fun v hv => (z.p v hv).same e⟩
theorem PsOk.fr (z : PsOk K [s, A] H L ps) (hS : StreamAt H s A B c) (f : Fr s A H H') : PsOk K [s, A] H' L ps := ⟨f _ _ (not_av z.n).1 (not_av z.n).2 z.e, z.n, fun v hv => (z.p v hv).fr hS f⟩
theorem PsOk.add {o1 o2 : V} (z : PsOk K [s, A] H L ps) (hS : StreamAt H s A B c) {O : Addr} (hO : H O = none) (h1 : Pok K [s, A] H o1) (h2 : Pok K [s, A] H o2) : PsOk K [s, A] (upd H O (.lst (ps ++ [o1, o2]))) O (ps ++ [o1, o2]) :=
  ⟨upd_same, new_av hS hO, fun v hv => by
    have g : Pok K [s, A] H v := by
      rcases List.mem_append.mp hv with hv | hv
      · exact z.p v hv
      · rcases List.mem_cons.mp hv with e | hv
        · rw [e]; exact h1
        · rw [List.mem_singleton.mp hv]; exact h2
    exact g.same (same_upd hO)⟩
end
/-- the answers can be shown -/
theorem swA_gd {n : Int} {D : List (Int × Int)} {P : List (Str × Int)} {d e : PyData} (hd : Gd 0 1 300 d) (he : Gd 0 1 300 e) (hr : ∀ a, (rmq P a).natAbs ≤ 1000) (hg : ∀ a, ((regq n D P (rmq P a)).getD 0 0).natAbs ≤ 1000) : Gd 0 2 400 (.list (swA n D P d e)) := by
  have w : ∀ z : Str, okI 0 (.str z) = true → z.length ≤ 20 → Gd 0 1 20 (.str z) := fun z h1 h2 => ⟨h1, Nat.zero_le _, h2⟩
  have i : ∀ z : Int, z.natAbs ≤ 1000 → Gd 0 1 0 (.int z) := fun z h => by
    refine ⟨decide_eq_true ?_, Nat.zero_le _, Nat.zero_le _⟩
    have : (1000 : Nat) ≤ 10 ^ 59 := by decide +kernel
    omega
  have two : ∀ {a b : PyData}, Gd 0 1 20 a → Gd 0 1 300 b → Gd 0 2 400 (.list [a, b]) := fun ha hb => (Gd.lst (GdA.cons ha (GdA.cons hb (GdA.nil (n := 0))))).up (Nat.le_refl _) (Nat.le_refl _) (by omega)
  unfold swA
  split
  · exact two (w _ (by decide +kernel) (by decide +kernel)) hd
  · split
    · exact two (w _ (by decide +kernel) (by decide +kernel)) he
    · split
      · exact two (w _ (by decide +kernel) (by decide +kernel)) ((i _ (hr _)).up (Nat.le_refl _) (Nat.le_refl _) (by omega))
      · split
        · exact two (w _ (by decide +kernel) (by decide +kernel)) ((i _ (hg _)).up (Nat.le_refl _) (Nat.le_refl _) (by omega))
        · exact (Gd.lst (GdA.nil (b := 0) (k := 1) (n := 0))).up (Nat.le_refl _) (by omega) (by omega)
theorem rmq_small {n : Int} {P : List (Str × Int)} (pl : Pl n P) (h : n ≤ 100) (a : Str) : (rmq P a).natAbs ≤ 1000 := by
  unfold rmq
  cases e : P.find? fun x => decide (x.1 = a) with
  | none => exact Nat.zero_le _
  | some y =>
    have := pl.rm y (List.mem_of_find?_eq_some e)
    show y.2.natAbs ≤ 1000
    omega
theorem regq_small {n : Int} {D : List (Int × Int)} {P : List (Str × Int)} (pl : Pl n P) (h : n ≤ 100) (a : Str) : ((regq n D P (rmq P a)).getD 0 0).natAbs ≤ 1000 := by
  cases e : regq n D P (rmq P a) with
  | nil => exact Nat.zero_le _
  | cons y r =>
    have m : y ∈ regq n D P (rmq P a) := by rw [e]; exact List.mem_cons_self
    unfold regq at m
    obtain ⟨x, hx, ex⟩ := List.mem_map.mp (pl.mem_occ.mp (List.mem_filter.mp m).1)
    have := pl.rm x hx
    show y.natAbs ≤ 1000
    omega
/-- how a zip of two lists of one length is walked -/
theorem walk_zip {K : PySem.W.Frag} {a b : Addr} {xs ys : List V} (le : ys.length = xs.length) {G0 : Hp} {Qd : Hp → Prop} {each : (Hp → Prop) → V → Hp → Prop} (Pv : Nat → Hp → Prop) (start : Pv 0 G0) (sees : ∀ i G, Pv i G → SqL K G a xs ∧ SqL K G b ys)
    (does : ∀ i x y T G, xs[i]? = some x → ys[i]? = some y → Pv i G → G T = none → each (Pv (i + 1)) (.ref T) (upd G T (.tup [x, y]))) (ends : ∀ G, Pv xs.length G → Qd G) :
    ∃ W : Nat → Nat → Hp → Prop, (∃ m, W 0 m G0) ∧ ∀ i m G, W i m G → ((Itz K a b).stop i G ∧ Qd G) ∨ ((Itz K a b).go i G ∧ ∃ N : Hp → Prop, (∀ G', N G' → ∃ m', m' < m ∧ W (i + 1) m' G') ∧ ∀ x G', (Itz K a b).yld i G x G' → each N x G') := by
  refine ⟨fun i m J => m + i = xs.length ∧ Pv i J, ⟨xs.length, rfl, start⟩, ?_⟩
  rintro i m J ⟨e, p⟩
  obtain ⟨q1, q2⟩ := sees i J p
  cases m with
  | zero =>
    have e : i = xs.length := by omega
    subst e
    exact .inl ⟨⟨xs, ys, q1, q2, .inl (Nat.le_refl _)⟩, ends J p⟩
  | succ m =>
    have lt : i < xs.length := by omega
    have lt2 : i < ys.length := by omega
    refine .inr ⟨⟨xs, ys, xs[i], ys[i], q1, q2, List.getElem?_eq_getElem lt, List.getElem?_eq_getElem lt2⟩, Pv (i + 1), fun J' p' => ⟨m, Nat.lt_succ_self _, by omega, p'⟩, ?_⟩
    rintro z J' ⟨T, x, y, rfl, nT, rfl, f1, f2⟩
    exact does i x y T J (f1 xs q1) (f2 ys q2) p nT
end Fw
namespace Fw
open PySem PySem.Spec PyProof.Rows L2
set_option maxHeartbeats 8000000
open RZ
section
variable {P : Program} {w : World} {K : PySem.W.Frag} {mg : Str → Option Value} {base : Heap}
def spLaw (K : PySem.W.Frag) : Sp := fun vs H Q _ => ∃ (a : Addr) (ns : List Int), vs = [.ref a] ∧ SqL K H a (vi ns) ∧ ns.length ≤ 63 ∧ ∀ H', Q (.bl true) H'
abbrev nLaw : List Str := ["_law_script", "_law_stream_here", "_law_turn", "_law_house_here", "_law_placement_here", "_law_names_here", "_law_name", "_law_room", "_law_odd", "_law_pairs", "_law_a", "_law_b", "_law_k", "_law_found", "_law_expected"]
theorem scLaw : FnScope nLaw ["_law_script"] (defScope sLaw) := ⟨rfl, rfl, rfl, by decide +kernel, rfl, by decide +kernel, by decide +kernel⟩
def Errs (K : PySem.W.Frag) (mg : Str → Option Value) : Prop := ∃ E, HE K mg E ∧ CEE K mg E "UnknownPerson" "UnknownPerson.__init__" "name" iUnknownPerson ∧ CEE K mg E "InvalidRoom" "InvalidRoom.__init__" "room" iInvalidRoom ∧ CEE K mg E "NotAdjacent" "NotAdjacent.__init__" "room" iNotAdjacent ∧ CEE K mg E "EmptyRoom" "EmptyRoom.__init__" "room" iEmptyRoom ∧ CEE K mg E "InvalidMoves" "InvalidMoves.__init__" "position" iInvalidMoves ∧ CEE K mg E "OtherRegion" "OtherRegion.__init__" "room" iOtherRegion ∧ CEE K mg E "TightRegion" "TightRegion.__init__" "room" iTightRegion ∧ CEE K mg E "Blocked" "Blocked.__init__" "block" iBlocked ∧ CEE K mg E "InvalidName" "InvalidName.__init__" "name" iInvalidName ∧ CEE K mg E "DuplicateName" "DuplicateName.__init__" "name" iDuplicateName ∧ CEE K mg E "LimitReached" "LimitReached.__init__" "limit" iLimitReached ∧ CEE K mg E "AlreadyAdjacent" "AlreadyAdjacent.__init__" "room" iAlreadyAdjacent ∧ CEE K mg E "WouldFormCycle" "WouldFormCycle.__init__" "room" iWouldFormCycle ∧ CEE K mg E "BatchFailed" "BatchFailed.__init__" "position" iBatchFailed ∧ CEE K mg E "InvalidMoment" "InvalidMoment.__init__" "position" iInvalidMoment ∧ CEE K mg E "InvalidText" "InvalidText.__init__" "position" iInvalidText ∧ CE0 K mg E "NothingToUndo" "NothingToUndo.__init__" iNothingToUndo ∧ CE0 K mg E "HistoryFull" "HistoryFull.__init__" iHistoryFull ∧ CE0 K mg E "SessionBusy" "SessionBusy.__init__" iSessionBusy ∧ CE0 K mg E "InvalidActions" "InvalidActions.__init__" iInvalidActions ∧ CE0 K mg E "InvalidHouse" "InvalidHouse.__init__" iInvalidHouse ∧ CE0 K mg E "InvalidPlacement" "InvalidPlacement.__init__" iInvalidPlacement
/-- the defs of the text -/
structure All (K : PySem.W.Frag) (mg : Str → Option Value) : Prop where
  T : Nm mg
  ValueError : mg "ValueError" = none
  any : mg "any" = none
  dict : mg "dict" = none
  er : Errs K mg
  dneighbors : DefE K mg "neighbors" sNb ["house", "room"]
  dpath_between : DefE K mg "path_between" sPath ["house", "a", "b"]
  dcomponents : DefE K mg "components" sComp ["house", "rooms"]
  dsteps_toward : DefE K mg "steps_toward" sSteps ["house", "goal", "rooms"]
  droom_of : DefE K mg "room_of" sRoomOf ["placement", "name"]
  dpeople_in : DefE K mg "people_in" sPIn ["placement", "room"]
  dpeople_within : DefE K mg "people_within" sPWi ["placement", "rooms"]
  dfind_regions : DefE K mg "find_regions" sFReg ["house", "placement"]
  dregion_of : DefE K mg "region_of" sRegOf ["house", "placement", "room"]
  dsurplus : DefE K mg "surplus" sSurp ["placement", "region"]
  dis_tight : DefE K mg "is_tight" sIsTight ["placement", "region"]
  dwalk : DefE K mg "walk" sWalk ["house", "name", "start", "end"]
  dsharing_people : DefE K mg "sharing_people" sSharing ["placement", "rooms"]
  dexchange : DefE K mg "exchange" sExch ["house", "placement", "region", "a", "b"]
  dswap_people : DefE K mg "swap_people" sSwapP ["house", "placement", "a", "b"]
  d_law_stream : DefE K mg "_law_stream" sStream ["_law_script"]
  d_law_names : DefE K mg "_law_names" sNames ["_law_stream_here", "_law_many"]
  d_law_draw : DefE K mg "_law_draw" sDraw ["_law_stream_here", "_law_many"]
  d_law_house : DefE K mg "_law_house" sHouse ["_law_stream_here", "_law_least", "_law_most"]
  d_law_placement : DefE K mg "_law_placement" sPl ["_law_stream_here", "_law_house_here", "_law_most"]
  d_law_neighbors : DefE K mg "_law_neighbors" sLNb ["_law_house_here", "_law_room"]
  d_law_connected : DefE K mg "_law_connected" sConn ["_law_house_here", "_law_rooms", "_law_room"]
  d_law_error_class : DefE K mg "_law_error_class" sLErrorClass ["_law_e"]
  d_law_invalid_names : DefE K mg "_law_invalid_names" sLInvN ["_law_names_here"]
  d_law_swap_error : DefE K mg "_law_swap_error" sLSwErr ["_law_house_here", "_law_placement_here", "_law_a", "_law_b"]
  d_law_swap_outcome : DefE K mg "_law_swap_outcome" sLSwOut ["_law_house_here", "_law_placement_here", "_law_a", "_law_b"]
theorem ok_law {f : Addr} {fd : FuncData} (F : Fun K "law" "law" sLaw f fd) (Z : All K mg) : FnG P w K mg base 8 f fd ["_law_script"] (spLaw K) := by
  have T := Z.T
  obtain ⟨E, hE, eUnknownPerson, eInvalidRoom, eNotAdjacent, eEmptyRoom, eInvalidMoves, eOtherRegion, eTightRegion, eBlocked, eInvalidName, eDuplicateName, eLimitReached, eAlreadyAdjacent, eWouldFormCycle, eBatchFailed, eInvalidMoment, eInvalidText, eNothingToUndo, eHistoryFull, eSessionBusy, eInvalidActions, eInvalidHouse, eInvalidPlacement⟩ := Z.er
  obtain ⟨CUnknownPerson, RUnknownPerson⟩ := er1_UnknownPerson (P := P) (w := w) (base := base) eUnknownPerson
  obtain ⟨CInvalidRoom, RInvalidRoom⟩ := er1_InvalidRoom (P := P) (w := w) (base := base) eInvalidRoom
  obtain ⟨CNotAdjacent, RNotAdjacent⟩ := er1_NotAdjacent (P := P) (w := w) (base := base) eNotAdjacent
  obtain ⟨CEmptyRoom, REmptyRoom⟩ := er1_EmptyRoom (P := P) (w := w) (base := base) eEmptyRoom
  obtain ⟨CInvalidMoves, RInvalidMoves⟩ := er1_InvalidMoves (P := P) (w := w) (base := base) eInvalidMoves
  obtain ⟨COtherRegion, ROtherRegion⟩ := er1_OtherRegion (P := P) (w := w) (base := base) eOtherRegion
  obtain ⟨CTightRegion, RTightRegion⟩ := er1_TightRegion (P := P) (w := w) (base := base) eTightRegion
  obtain ⟨CBlocked, RBlocked⟩ := er1_Blocked (P := P) (w := w) (base := base) eBlocked
  obtain ⟨CInvalidName, RInvalidName⟩ := er1_InvalidName (P := P) (w := w) (base := base) eInvalidName
  obtain ⟨CDuplicateName, RDuplicateName⟩ := er1_DuplicateName (P := P) (w := w) (base := base) eDuplicateName
  obtain ⟨CLimitReached, RLimitReached⟩ := er1_LimitReached (P := P) (w := w) (base := base) eLimitReached
  obtain ⟨CAlreadyAdjacent, RAlreadyAdjacent⟩ := er1_AlreadyAdjacent (P := P) (w := w) (base := base) eAlreadyAdjacent
  obtain ⟨CWouldFormCycle, RWouldFormCycle⟩ := er1_WouldFormCycle (P := P) (w := w) (base := base) eWouldFormCycle
  obtain ⟨CBatchFailed, RBatchFailed⟩ := er1_BatchFailed (P := P) (w := w) (base := base) eBatchFailed
  obtain ⟨CInvalidMoment, RInvalidMoment⟩ := er1_InvalidMoment (P := P) (w := w) (base := base) eInvalidMoment
  obtain ⟨CInvalidText, RInvalidText⟩ := er1_InvalidText (P := P) (w := w) (base := base) eInvalidText
  obtain ⟨CNothingToUndo, RNothingToUndo⟩ := eNothingToUndo.er
  obtain ⟨CHistoryFull, RHistoryFull⟩ := eHistoryFull.er
  obtain ⟨CSessionBusy, RSessionBusy⟩ := eSessionBusy.er
  obtain ⟨CInvalidActions, RInvalidActions⟩ := eInvalidActions.er
  obtain ⟨CInvalidHouse, RInvalidHouse⟩ := eInvalidHouse.er
  obtain ⟨CInvalidPlacement, RInvalidPlacement⟩ := eInvalidPlacement.er
  have Es : Ers K mg E := {UnknownPerson := ⟨_, RUnknownPerson.er⟩, InvalidRoom := ⟨_, RInvalidRoom.er⟩, NotAdjacent := ⟨_, RNotAdjacent.er⟩, EmptyRoom := ⟨_, REmptyRoom.er⟩, InvalidMoves := ⟨_, RInvalidMoves.er⟩, OtherRegion := ⟨_, ROtherRegion.er⟩, TightRegion := ⟨_, RTightRegion.er⟩, Blocked := ⟨_, RBlocked.er⟩, InvalidName := ⟨_, RInvalidName.er⟩, DuplicateName := ⟨_, RDuplicateName.er⟩, LimitReached := ⟨_, RLimitReached.er⟩, AlreadyAdjacent := ⟨_, RAlreadyAdjacent.er⟩, WouldFormCycle := ⟨_, RWouldFormCycle.er⟩, BatchFailed := ⟨_, RBatchFailed.er⟩, InvalidMoment := ⟨_, RInvalidMoment.er⟩, InvalidText := ⟨_, RInvalidText.er⟩, NothingToUndo := ⟨_, RNothingToUndo⟩, HistoryFull := ⟨_, RHistoryFull⟩, SessionBusy := ⟨_, RSessionBusy⟩, InvalidActions := ⟨_, RInvalidActions⟩, InvalidHouse := ⟨_, RInvalidHouse⟩, InvalidPlacement := ⟨_, RInvalidPlacement⟩}
  have Cpath_between : Cal P w K mg base 3 "path_between" ["house", "a", "b"] spPath := Z.dpath_between.cal fun _ _ d => by
    obtain ⟨af2, bf2, f2⟩ := Z.dneighbors
    obtain ⟨af3, bf3, f3⟩ := Z.dsteps_toward
    exact ok_path d.F T f2 f3
  have Croom_of : Cal P w K mg base 1 "room_of" ["placement", "name"] spRoomOf := Z.droom_of.cal fun _ _ d => ok_roomof d.F
  have Cpeople_within : Cal P w K mg base 1 "people_within" ["placement", "rooms"] (spPWi K) := Z.dpeople_within.cal fun _ _ d => ok_pwi d.F T
  have Cpeople_in : Cal P w K mg base 2 "people_in" ["placement", "room"] spPIn := Z.dpeople_in.cal fun _ _ d => ok_pin d.F T (Cpeople_within.up (by decide))
  have Ccomponents : Cal P w K mg base 3 "components" ["house", "rooms"] (spComp K) := Z.dcomponents.cal fun _ _ d => by
    obtain ⟨af2, bf2, f2⟩ := Z.dneighbors
    obtain ⟨af3, bf3, f3⟩ := Z.dsteps_toward
    exact ok_comp d.F T Z.any f2 f3
  have Cfind_regions : Cal P w K mg base 4 "find_regions" ["house", "placement"] spFReg := Z.dfind_regions.cal fun _ _ d => ok_freg d.F T (Cpeople_in.up (by decide)) (Ccomponents.up (by decide))
  have Cregion_of : Cal P w K mg base 5 "region_of" ["house", "placement", "room"] spRegOf := Z.dregion_of.cal fun _ _ d => ok_regof d.F (Cfind_regions.up (by decide))
  have Csurplus : Cal P w K mg base 2 "surplus" ["placement", "region"] (spSurp K) := Z.dsurplus.cal fun _ _ d => ok_surp d.F T (Cpeople_within.up (by decide))
  have Cis_tight : Cal P w K mg base 3 "is_tight" ["placement", "region"] (spTight K) := Z.dis_tight.cal fun _ _ d => ok_tight d.F (Csurplus.up (by decide))
  have C_law_stream : Cal P w K mg base 1 "_law_stream" ["_law_script"] (spStream K) := Z.d_law_stream.cal fun _ _ d => ok_stream d.F T
  have C_law_draw : Cal P w K mg base 1 "_law_draw" ["_law_stream_here", "_law_many"] spDraw := Z.d_law_draw.cal fun _ _ d => ok_draw d.F T
  have C_law_house : Cal P w K mg base 2 "_law_house" ["_law_stream_here", "_law_least", "_law_most"] spHouse := Z.d_law_house.cal fun _ _ d => by
    obtain ⟨af2, bf2, f2⟩ := Z.d_law_draw
    exact ok_house d.F T f2
  have C_law_names : Cal P w K mg base 2 "_law_names" ["_law_stream_here", "_law_many"] spNames := Z.d_law_names.cal fun _ _ d => ok_names d.F T (C_law_draw.up (by decide))
  have C_law_placement : Cal P w K mg base 3 "_law_placement" ["_law_stream_here", "_law_house_here", "_law_most"] spPl := Z.d_law_placement.cal fun _ _ d => ok_pl d.F T (C_law_draw.up (by decide)) (C_law_names.up (by decide))
  have C_law_connected : Cal P w K mg base 2 "_law_connected" ["_law_house_here", "_law_rooms", "_law_room"] (spConn K) := Z.d_law_connected.cal fun _ _ d => by
    obtain ⟨af2, bf2, f2⟩ := Z.d_law_neighbors
    exact ok_conn d.F T f2
  have CroomX : CalX P w K mg base 5 "room_of" pRoomOf (spRoomAny K CUnknownPerson) := Z.droom_of.calX fun _ _ d => ok_roomany (k := 2) d.F RUnknownPerson.r
  have Cwalk : Cal P w K mg base 4 "walk" pWalk spWalk := Z.dwalk.cal fun _ _ d => ok_walk d.F T (Cpath_between.up (by decide))
  have Csharing_people : Cal P w K mg base 3 "sharing_people" pSharing (spShare K) := Z.dsharing_people.cal fun _ _ d => ok_share d.F T (Cpeople_within.up (by decide)) (Cpeople_in.up (by decide)) (Croom_of.up (by decide))
  have Cexchange : Cal P w K mg base 5 "exchange" pExch (spExch K) := Z.dexchange.cal fun _ _ d => ok_exch d.F T (Croom_of.up (by decide)) Cwalk (Csharing_people.up (by decide))
  have CswapX : CalX P w K mg base 6 "swap_people" pSwapP (spSwapX K CUnknownPerson COtherRegion CTightRegion) := Z.dswap_people.calX fun _ _ d => ok_swapX (k := 0) d.F CroomX (Cregion_of.up (by decide)) (Cis_tight.up (by decide)) Cexchange ROtherRegion.r RTightRegion.r
  have LU : CalE P w K mg base 6 "_law_error_class" ["_law_e"] (spLEC CUnknownPerson "UnknownPerson") := Z.d_law_error_class.calE fun _ _ d => ok_lec_UnknownPerson (k := 5) d.F T Z.ValueError hE Es RUnknownPerson.er
  have LO : CalE P w K mg base 6 "_law_error_class" ["_law_e"] (spLEC COtherRegion "OtherRegion") := Z.d_law_error_class.calE fun _ _ d => ok_lec_OtherRegion (k := 5) d.F T Z.ValueError hE Es ROtherRegion.er
  have LT : CalE P w K mg base 6 "_law_error_class" ["_law_e"] (spLEC CTightRegion "TightRegion") := Z.d_law_error_class.calE fun _ _ d => ok_lec_TightRegion (k := 5) d.F T Z.ValueError hE Es RTightRegion.er
  have C_law_swap_outcome : Cal P w K mg base 7 "_law_swap_outcome" pLSwOut (spSwAns K) := Z.d_law_swap_outcome.cal fun _ _ d => ok_lswout (k := 0) d.F RUnknownPerson ROtherRegion RTightRegion hE CswapX LU LO LT
  have C_law_swap_error : Cal P w K mg base 3 "_law_swap_error" pLSwErr (spSwAns K) := Z.d_law_swap_error.cal fun _ _ d => ok_lswerr (k := 0) d.F T Z.dict (C_law_connected.up (by decide))
  have C_law_invalid_names : Cal P w K mg base 1 "_law_invalid_names" ["_law_names_here"] (spInvN K) := Z.d_law_invalid_names.cal fun _ _ d => ok_linvn (k := 0) d.F T
  refine Fun.okG F scLaw (fun vs H Q E h => ?_) (fun cdv A outer s H vs Q gd hr h => ?_)
  · obtain ⟨a, ns, rfl, _⟩ := h
    rfl
  · obtain ⟨a, ns, rfl, hS, hlen, q⟩ := h
    refine ⟨_, (pss_cons (ps_set (i := 1) scLaw.nd rfl (.inl rfl) (pe_cal C_law_stream (hr.mono (by decide)) (by rfl) (pa_cons (pv 0) pa_nil)))
      (pss_cons (ps_for PassesOwn.never rfl (pi_range1 (by rfl) T.range (pa_cons pe_int pa_nil)) (pg_name (i := 2) scLaw.nd rfl (.inl rfl))
      (pss_cons (ps_set (i := 3) scLaw.nd rfl (.inl rfl) (pe_cal C_law_house (hr.mono (by decide)) (by rfl) (pa_cons (pv 1) (pa_cons pe_int (pa_cons pe_int pa_nil)))))
       (pss_cons (ps_set (i := 4) scLaw.nd rfl (.inl rfl) (pe_cal C_law_placement (hr.mono (by decide)) (by rfl) (pa_cons (pv 1) (pa_cons (pv 3) (pa_cons pe_int pa_nil)))))
       (pss_cons (ps_set (i := 5) scLaw.nd rfl (.inl rfl) (pe_callTy (call_tupleK K rfl) (by rfl) T.tuple (by decide +kernel) (pa_cons (pe_lc (own := [("_law_name", 6), ("_law_room", 7)]) (g := gTup K 2 (gCons (gName 6) (gCons (gName 7) gNil))) (by rfl) scLaw.nd (pi_tupK K rfl (pv 4))
 (blkOk_by (own := [("_law_name", 6), ("_law_room", 7)]) (N := nLaw) (sc := defScope sLaw) (by decide +kernel))
 (fun _ _ _ _ _ => (pg_tup (by rfl) (pgs_cons (pg_name (i := 6) scLaw.nd rfl (.inl rfl)) (pgs_cons (pg_name (i := 7) scLaw.nd rfl (.inl rfl)) pgs_nil)))) (fun _ _ _ _ _ => pts_nil) (fun _ _ _ _ _ => (pv 6))) pa_nil)))
       (pss_cons (ps_set (i := 8) scLaw.nd rfl (.inl rfl) (pe_cal C_law_invalid_names (hr.mono (by decide)) (by rfl) (pa_cons (pv 5) pa_nil)))
       (pss_cons (ps_setLc (i := 9) (own := [("_law_a", 10), ("_law_b", 11)]) (g := gTup K 2 (gCons (gName 10) (gCons (gName 11) gNil))) (by rfl) scLaw.nd rfl rfl (sw_true rfl rfl rfl (by decide +kernel)) (pi_zipA (by rfl) T.zip (pa_cons (pv 8) (pa_cons (pe_op op_cat (pe_slice sl_list (pv 8) (po_some pe_int) po_none) (pe_slice sl_list (pv 8) po_none (po_some pe_int))) pa_nil)))
 (blkOk_by (own := [("_law_a", 10), ("_law_b", 11)]) (N := nLaw) (sc := defScope sLaw) (by decide +kernel))
 (fun _ _ _ _ _ => (pg_tup (by rfl) (pgs_cons (pg_name (i := 10) scLaw.nd rfl (.inl rfl)) (pgs_cons (pg_name (i := 11) scLaw.nd rfl (.inl rfl)) pgs_nil)))) (fun _ _ _ _ _ => pts_nil) (fun _ _ _ _ _ => (pe_tup (pa_cons (pv 10) (pa_cons (pv 11) pa_nil)))))
       (pss_cons (ps_for PassesOwn.never rfl (pi_range1 (by rfl) T.range (pa_cons (pe_op op_mul pe_int (pe_callTy call_int1 (by rfl) T.int (by decide +kernel) (pa_cons (pe_cmpR (op_ne9 (Nat.lt_of_succ_lt (hu_of hr))) (pv 5) (pe_tup pa_nil) (nomark _)) pa_nil))) pa_nil)) (pg_name (i := 12) scLaw.nd rfl (.inl rfl))
       (pss_cons (ps_par (i := 10) (j := 11) (by rfl) scLaw.nd rfl rfl (by decide) rfl rfl (pa_cons (pe_ix (ix_tupK K rfl) (pv 5) (pe_cal C_law_draw (hr.mono (by decide)) (by rfl) (pa_cons (pv 1) (pa_cons (pe_callB (call_lenK K rfl) (by rfl) T.len (by decide +kernel) (pa_cons (pv 5) pa_nil)) pa_nil))) (fun _ _ => rfl)) (pa_cons (pe_ix (ix_tupK K rfl) (pv 5) (pe_cal C_law_draw (hr.mono (by decide)) (by rfl) (pa_cons (pv 1) (pa_cons (pe_callB (call_lenK K rfl) (by rfl) T.len (by decide +kernel) (pa_cons (pv 5) pa_nil)) pa_nil))) (fun _ _ => rfl)) pa_nil)) (by rfl))
        (pss_cons (ps_set (i := 9) scLaw.nd rfl (.inl rfl) (pe_op op_cat (pv 9) (pe_lst (pa_cons (pe_tup (pa_cons (pv 10) (pa_cons (pv 11) pa_nil))) (pa_cons (pe_tup (pa_cons (pv 10) (pa_cons (pv 10) pa_nil))) pa_nil)))))
        (pss_one (ps_set (i := 9) scLaw.nd rfl (.inl rfl) (pe_op op_cat (pv 9) (pe_lst (pa_cons (pe_tup (pa_cons (pv 10) (pa_cons (pe_ix (ix_listK K rfl) (pv 8) (pe_cal C_law_draw (hr.mono (by decide)) (by rfl) (pa_cons (pv 1) (pa_cons pe_int pa_nil))) (fun _ _ => rfl)) pa_nil))) (pa_cons (pe_tup (pa_cons (pe_ix (ix_listK K rfl) (pv 8) (pe_cal C_law_draw (hr.mono (by decide)) (by rfl) (pa_cons (pv 1) (pa_cons pe_int pa_nil))) (fun _ _ => rfl)) (pa_cons (pv 11) pa_nil))) pa_nil)))))))))
       (pss_one (ps_for PassesOwn.never rfl (pi_listK K rfl (pv 9)) (pg_tup (by rfl) (pgs_cons (pg_name (i := 10) scLaw.nd rfl (.inl rfl)) (pgs_cons (pg_name (i := 11) scLaw.nd rfl (.inl rfl)) pgs_nil)))
       (pss_cons (ps_par (i := 13) (j := 14) (by rfl) scLaw.nd rfl rfl (by decide) rfl rfl (pa_cons (pe_cal C_law_swap_outcome (hr.mono (by decide)) (by rfl) (pa_cons (pv 3) (pa_cons (pv 4) (pa_cons (pv 10) (pa_cons (pv 11) pa_nil))))) (pa_cons (pe_cal C_law_swap_error (hr.mono (by decide)) (by rfl) (pa_cons (pv 3) (pa_cons (pv 4) (pa_cons (pv 10) (pa_cons (pv 11) pa_nil))))) pa_nil)) (by rfl))
        (pss_one (ps_if (pt_cmpR op_ne (pe_callB (call_reprD (av := []) gd (units65 hr)) (by rfl) T.repr (by decide +kernel) (pa_cons (pv 13) pa_nil)) (pe_callB (call_reprD (av := []) gd (units65 hr)) (by rfl) T.repr (by decide +kernel) (pa_cons (pv 14) pa_nil)) (nomark _))
        pss_never
        pss_nil))))))))))))
      (pss_one (ps_ret pe_bl)))), ?_⟩
    refine ⟨_, rfl, a, ns, rfl, hS, hlen, fun H1 s1 A1 B1 sm1 _ _ hS1 => ?_⟩
    refine ⟨3, rfl, by decide, by decide, for_range (lo := 0) (n := 3) (fun i σ H' => ∃ y2 y3 y4 y5 y6 y7 y8 y9 y10 y11 y12 y13 y14, σ = [some (.ref a), some (.ref s1), y2, y3, y4, y5, y6, y7, y8, y9, y10, y11, y12, y13, y14] ∧ StreamAt H' s1 A1 B1 (200 * i)) ⟨_, _, _, _, _, _, _, _, _, _, _, _, _, rfl, hS1⟩ ?_ ?_⟩
    · rintro i σ H2 hi ⟨y2, y3, y4, y5, y6, y7, y8, y9, y10, y11, y12, y13, y14, rfl, hS2⟩
      refine ⟨_, rfl, s1, A1, B1, 200 * i, 1, 8, rfl, hS2, by omega, by decide, by decide, by decide, fun H3 h n D hS3 fr3 hH3 hF n0 n1 => ?_⟩
      refine ⟨_, rfl, _, rfl, s1, A1, B1, h, 200 * i + 40, n, D, 12, rfl, hS3, by omega, hH3, n0, n1, by decide, by decide, fun H4 p PP hS4 fr4 hP4 pl lP => ?_⟩
      have lP : PP.length ≤ 12 := lP
      have hH4 := hH3.fr hS3 fr4
      have nn : (0 : Int) ≤ n := by omega
      have nam : ∀ x ∈ PP.map (·.1), Nam x := fun x hx => by
        obtain ⟨y, hy, rfl⟩ := List.mem_map.mp hx
        exact pl.nams y hy
      clear hH3 hS3 fr3 fr4 hS2
      dsimp only [gName]
      refine ⟨_, rfl, p, rfl, hP4.pl.sq, fun L hL => lc_pl hP4.pl (fun k H' => Same H4 H' ∧ H' L = some (.lst (((PP.take k).map (·.1)).map V.str))) ⟨same_upd hL, upd_same⟩ (fun _ _ hh => Tk.of hh.1) ?_ ?_⟩
      · rintro k nm r H' hk ⟨s', e'⟩
        refine ⟨rfl, ?_⟩
        unfold tYes
        refine iteT ⟨_, rfl, _, e', ?_, same_put s' hL, ?_⟩
        · rw [List.length_map, List.length_map, List.length_take]
          exact small1000 (by omega)
        · rw [upd_same, names_snoc hk, vs_app]
          rfl
      rintro H6 ⟨s6, e6⟩
      rw [List.take_length] at e6
      refine ⟨L, _, rfl, .inl ⟨SqL.of e6, fun t ht => ?_⟩⟩
      have s7 := s6.trans (same_upd (o := .tup ((PP.map (·.1)).map V.str)) ht)
      have x7 : (upd H6 t (.tup ((PP.map (·.1)).map V.str))) t = some (.tup ((PP.map (·.1)).map V.str)) := upd_same
      generalize upd H6 t (.tup ((PP.map (·.1)).map V.str)) = H7 at *
      have hS7 := hS4.same s7
      refine ⟨_, rfl, t, PP.map (·.1), rfl, SqT.of x7, nam, by rw [List.length_map]; exact lP, fun H8 M xs ds s8 eM lx av8 gd8 => ?_⟩
      obtain ⟨nM, dx8⟩ := av8 [s1, A1] fun b hb => by
        obtain ⟨big, cells, cnt, h1, h2, _⟩ := hS7.ex
        rcases List.mem_cons.mp hb with z | z
        · rw [z]; exact ⟨_, h1⟩
        · rw [List.mem_singleton.mp z]; exact ⟨_, h2⟩
      have w8 : W42 K H8 s1 A1 B1 (200 * i + 40 + 60) h p t M n D PP xs := ⟨hS7.same s8, (hH4.same s7).same s8, (hP4.same s7).same s8, SqT.of (s8 _ _ x7), eM, nM, vok_all dx8 gd8⟩
      clear hS4 hH4 hP4 s6 e6 hL ht s7 x7 hS7 s8 eM av8 gd8 nM dx8
      -- the pairs of odd values
      have c1 : cutV xs (some 1) none = xs.drop 1 := cut_from (by decide) (by rw [lx]; decide)
      have c2 : cutV xs none (some 1) = xs.take 1 := cut_to (by decide) (by rw [lx]; decide)
      refine ⟨_, rfl, _, rfl, 1, rfl, M, _, rfl, SqL.of w8.od, fun p1 h1 => ?_⟩
      rw [c1]
      have t1 := same_upd (o := .lst (xs.drop 1)) h1
      have x1 : (upd H8 p1 (.lst (xs.drop 1))) p1 = some (.lst (xs.drop 1)) := upd_same
      generalize upd H8 p1 (.lst (xs.drop 1)) = J1 at *
      refine ⟨_, rfl, 1, rfl, M, _, rfl, SqL.of (t1 _ _ w8.od), fun p2 h2 => ?_⟩
      rw [c2]
      have t2 := same_upd (o := .lst (xs.take 1)) h2
      have x2 : (upd J1 p2 (.lst (xs.take 1))) p2 = some (.lst (xs.take 1)) := upd_same
      generalize upd J1 p2 (.lst (xs.take 1)) = J2 at *
      have ly : (xs.drop 1 ++ xs.take 1).length = xs.length := by rw [List.length_append, List.length_drop, List.length_take, lx]; rfl
      have my : ∀ y ∈ xs.drop 1 ++ xs.take 1, y ∈ xs := fun y hy => (List.mem_append.mp hy).elim List.mem_of_mem_drop List.mem_of_mem_take
      refine ⟨p1, p2, _, _, rfl, rfl, t2 _ _ x1, x2, by rw [← List.length_append, ly, lx]; exact le_sz (by decide), fun p3 h3 => ?_⟩
      generalize xs.drop 1 ++ xs.take 1 = ys at *
      have t3 := same_upd (o := .lst ys) h3
      have x3 : (upd J2 p3 (.lst ys)) p3 = some (.lst ys) := upd_same
      generalize upd J2 p3 (.lst ys) = J3 at *
      have w9 := w8.same (t1.trans (t2.trans t3))
      clear t1 t2 t3 x1 x2 h1 h2 h3 c1 c2 w8
      dsimp only [tNil]
      refine ⟨M, p3, xs, ys, rfl, .inl ⟨SqL.of w9.od, SqL.of x3, fun O hO => ?_⟩⟩
      have nO := new_av w9.st hO
      refine walk_zip (K := K) (a := M) (b := p3) (xs := xs) (ys := ys) ly (fun k G => Same J3 G ∧ ∃ ps : List V, ps.length = k ∧ G O = some (.lst ps) ∧ ∀ v ∈ ps, ∃ q x y, v = .ref q ∧ G q = some (.tup [x, y]) ∧ x ∈ xs ∧ y ∈ xs) ⟨same_upd hO, [], rfl, upd_same, fun v hv => nomatch hv⟩ (fun k G z => ⟨SqL.of (z.1 _ _ w9.od), SqL.of (z.1 _ _ x3)⟩) ?_ ?_
      · rintro k x y T G hx hy ⟨s', ps, lk, eO, po⟩ hT
        have lk' : k < 15 := by have := (List.getElem?_eq_some_iff.mp hx).1; omega
        refine ⟨T, _, rfl, SqT.of upd_same, rfl, _, _, rfl, _, _, rfl, rfl, ?_⟩
        refine ⟨rfl, ?_⟩
        unfold tYes
        refine iteT ?_
        have u1 := same_upd (o := .tup [x, y]) hT
        generalize upd G T (.tup [x, y]) = G1 at *
        refine ⟨_, rfl, _, rfl, by show 2 ≤ sizeLine; decide, fun q hq => ⟨ps, same_upd hq _ _ (u1 _ _ eO), by rw [lk]; exact small1000 (by omega), same_put ((s'.trans u1).trans (same_upd hq)) hO, ps ++ [.ref q], by rw [List.length_append, lk]; rfl, upd_same, fun v hv => ?_⟩⟩
        have keep : ∀ {b : Addr} {o : HO}, (upd G1 q (.tup [x, y])) b = some o → (∀ l, o ≠ .lst l) → (upd (upd G1 q (.tup [x, y])) O (.lst (ps ++ [.ref q]))) b = some o := fun {b o} e ne => by
          rw [upd_ne (ne_of e (same_upd hq _ _ (u1 _ _ eO)) (ne _))]; exact e
        rcases List.mem_append.mp hv with hv | hv
        · obtain ⟨q', x', y', e1, e2, e3, e4⟩ := po v hv
          exact ⟨q', x', y', e1, keep (same_upd hq _ _ (u1 _ _ e2)) (fun l z => nomatch z), e3, e4⟩
        · exact ⟨q, x, y, List.mem_singleton.mp hv, keep upd_same (fun l z => nomatch z), List.mem_of_getElem? hx, my _ (List.mem_of_getElem? hy)⟩
      rintro G ⟨s', ps, lk, eO, po⟩
      have wG := w9.same s'
      have pG : PsOk K [s1, A1] G O ps := ⟨eO, nO, fun v hv => by
        obtain ⟨q, x, y, e1, e2, e3, e4⟩ := po v hv
        exact ⟨q, x, y, e1, e2, wG.vs x e3, wG.vs y e4⟩⟩
      have lps : ps.length = 15 := lk.trans lx
      clear s' po eO lk w9 nO hO my ly x3
      dsimp only [gName]
      have pick : ∀ r : Int, 0 ≤ r → r < (PP.length : Nat) → ∃ z, atI ((PP.map (·.1)).map V.str) r = some (.str z) ∧ Nam z := fun r r0 r1 => by
        have lt : r.toNat < PP.length := by omega
        obtain ⟨x, hx⟩ : ∃ x, PP[r.toNat]? = some x := ⟨_, List.getElem?_eq_getElem lt⟩
        refine ⟨x.1, ?_, nam _ (List.mem_map_of_mem (f := (·.1)) (List.mem_of_getElem? hx))⟩
        have := atI_nat (xs := (PP.map (·.1)).map V.str) (j := r.toNat) (v := V.str x.1) (by rw [List.getElem?_map, List.getElem?_map, hx]; rfl)
        rw [show ((r.toNat : Nat) : Int) = r by omega] at this
        exact this
      have pickO : ∀ r : Int, 0 ≤ r → r < 15 → ∃ v, atI xs r = some v ∧ v ∈ xs := fun r r0 r1 => by
        have lt : r.toNat < xs.length := by omega
        obtain ⟨x, hx⟩ : ∃ x, xs[r.toNat]? = some x := ⟨_, List.getElem?_eq_getElem lt⟩
        refine ⟨x, ?_, List.mem_of_getElem? hx⟩
        have := atI_nat hx
        rw [show ((r.toNat : Nat) : Int) = r by omega] at this
        exact this
      obtain ⟨m, em, m6, mq⟩ : ∃ m : Nat, 6 * (if (!((PP.map (·.1)).map V.str).isEmpty) = true then (1 : Int) else 0) = (m : Int) ∧ m ≤ 6 ∧ (0 < m → 0 < PP.length) := by
        cases PP with
        | nil => exact ⟨0, rfl, by decide, fun h => absurd h (by decide)⟩
        | cons x r => exact ⟨6, rfl, by decide, fun _ => Nat.succ_pos _⟩
      refine ⟨_, rfl, Nat.zero_le _, fun e he => ⟨t, e, _, rfl, rfl, wG.nm.imp (fun z => z.imp (fun z => same_upd he _ _ z) (fun ⟨o, z⟩ => ⟨o, same_upd he _ _ z⟩)) id, SqT.of upd_same, .inr ⟨_, rfl, 6, _, rfl, rfl, .inl ⟨by decide, by decide⟩, ?_⟩⟩⟩
      have wJ := wG.same (same_upd (o := .tup []) he)
      have pJ := pG.same (same_upd (o := .tup []) he)
      generalize upd G e (.tup []) = J at *
      clear he wG pG
      refine ⟨((m : Nat) : Int), congrArg (fun z => [V.int z]) em, by omega, by omega, for_range (lo := 0) (n := m) (fun k σ' H' => ∃ y6 y7 y10 y11 y12 y13 y14 O ps, σ' = [some (.ref a), some (.ref s1), some (.int (0 + (i : Int))), some (.ref h), some (.ref p), some (.ref t), y6, y7, some (.ref M), some (.ref O), y10, y11, y12, y13, y14] ∧ List.length ps ≤ 15 + 4 * k ∧ W42 K H' s1 A1 B1 (200 * i + 100 + 4 * k) h p t M n D PP xs ∧ PsOk K [s1, A1] H' O ps)
        ⟨_, _, _, _, _, _, _, _, ps, rfl, by omega, wJ, pJ⟩ ?_ ?_⟩
      · rintro k σ' H8 hk ⟨y6, y7, y10, y11, y12, y13, y14, O, ps, rfl, lps, w, po⟩
        have mq := mq (by omega)
        have ln : ((PP.map (·.1)).map V.str).length = PP.length := by rw [List.length_map, List.length_map]
        refine ⟨_, rfl, _, rfl, _, rfl, t, _, rfl, .inr w.nm, s1, A1, B1, _, _, rfl, w.st, by omega, by rw [ln]; omega, by rw [ln]; omega, fun H9 r hS9 fr9 r0 r1 => ?_⟩
        rw [ln] at r1
        have po := po.fr w.st fr9
        have w := w.fr fr9 hS9
        obtain ⟨qa, ea, na⟩ := pick r r0 r1
        clear r0 r1 fr9 hS9
        refine ⟨t, _, r, _, rfl, rfl, w.nm, ea, ?_⟩
        refine ⟨_, rfl, _, rfl, _, rfl, t, _, rfl, .inr w.nm, s1, A1, B1, _, _, rfl, w.st, by omega, by rw [ln]; omega, by rw [ln]; omega, fun H10 r' hS9 fr9 r0 r1 => ?_⟩
        rw [ln] at r1
        have po := po.fr w.st fr9
        have w := w.fr fr9 hS9
        obtain ⟨qb, eb, nb⟩ := pick r' r0 r1
        clear r0 r1 fr9 hS9
        refine ⟨t, _, r', _, rfl, rfl, w.nm, eb, ?_⟩
        refine ⟨_, _, rfl, ?_⟩
        dsimp only [gName, gNil]
        -- the two of them, and the first with itself
        refine ⟨_, rfl, _, rfl, _, rfl, by show 2 ≤ sizeLine; decide, fun q1 h1 => ?_⟩
        have x1 : Pok K [s1, A1] (upd H10 q1 (.tup [.str qa, .str qb])) (.ref q1) := ⟨q1, _, _, rfl, upd_same, Vok.nam na, Vok.nam nb⟩
        have w := w.same (same_upd (o := .tup [.str qa, .str qb]) h1)
        have po := po.same (same_upd (o := .tup [.str qa, .str qb]) h1)
        generalize upd H10 q1 (.tup [.str qa, .str qb]) = J1 at *
        refine ⟨_, rfl, _, rfl, by show 2 ≤ sizeLine; decide, fun q2 h2 => ?_⟩
        have x2 : Pok K [s1, A1] (upd J1 q2 (.tup [.str qa, .str qa])) (.ref q2) := ⟨q2, _, _, rfl, upd_same, Vok.nam na, Vok.nam na⟩
        have x1 := x1.same (same_upd (o := .tup [.str qa, .str qa]) h2)
        have w := w.same (same_upd (o := .tup [.str qa, .str qa]) h2)
        have po := po.same (same_upd (o := .tup [.str qa, .str qa]) h2)
        generalize upd J1 q2 (.tup [.str qa, .str qa]) = J2 at *
        refine ⟨by show 2 ≤ sizeLine; decide, fun l hl => ?_⟩
        have xl : (upd J2 l (.lst [.ref q1, .ref q2])) l = some (.lst [.ref q1, .ref q2]) := upd_same
        have x1 := x1.same (same_upd (o := .lst [.ref q1, .ref q2]) hl)
        have x2 := x2.same (same_upd (o := .lst [.ref q1, .ref q2]) hl)
        have w := w.same (same_upd (o := .lst [.ref q1, .ref q2]) hl)
        have po := po.same (same_upd (o := .lst [.ref q1, .ref q2]) hl)
        generalize upd J2 l (.lst [.ref q1, .ref q2]) = J3 at *
        refine ⟨O, l, ps, _, rfl, rfl, po.e, xl, le_sz (by show ps.length + 2 ≤ _; omega), fun O2 hO2 => ?_⟩
        have po := PsOk.add po w.st hO2 x1 x2
        have w := w.same (same_upd (o := .lst (ps ++ [.ref q1, .ref q2])) hO2)
        generalize upd J3 O2 (.lst (ps ++ [.ref q1, .ref q2])) = J4 at *
        have lps2 : (ps ++ [V.ref q1, V.ref q2]).length ≤ 15 + 4 * k + 2 := by rw [List.length_append]; show ps.length + 2 ≤ _; omega
        generalize ps ++ [V.ref q1, V.ref q2] = ps2 at *
        clear x1 x2 xl hO2 hl h1 h2 lps
        -- each of them with an odd value
        refine ⟨_, rfl, _, rfl, _, rfl, _, rfl, s1, A1, B1, _, _, rfl, w.st, by omega, by decide, by decide, fun H11 r hS9 fr9 r0 r1 => ?_⟩
        have po := po.fr w.st fr9
        have w := w.fr fr9 hS9
        obtain ⟨va, ea, ma⟩ := pickO r r0 r1
        clear r0 r1 fr9 hS9
        refine ⟨M, _, r, _, rfl, rfl, SqL.of w.od, ea, by show 2 ≤ sizeLine; decide, fun q3 h3 => ?_⟩
        have x3 : Pok K [s1, A1] (upd H11 q3 (.tup [.str qa, va])) (.ref q3) := ⟨q3, _, _, rfl, upd_same, Vok.nam na, (w.vs _ ma).same (same_upd h3)⟩
        have w := w.same (same_upd (o := .tup [.str qa, va]) h3)
        have po := po.same (same_upd (o := .tup [.str qa, va]) h3)
        generalize upd H11 q3 (.tup [.str qa, va]) = J5 at *
        refine ⟨_, rfl, _, rfl, s1, A1, B1, _, _, rfl, w.st, by omega, by decide, by decide, fun H12 r' hS9 fr9 r0 r1 => ?_⟩
        have po := po.fr w.st fr9
        have x3 := x3.fr w.st fr9
        have w := w.fr fr9 hS9
        obtain ⟨vb, eb, mb⟩ := pickO r' r0 r1
        clear r0 r1 fr9 hS9
        refine ⟨M, _, r', _, rfl, rfl, SqL.of w.od, eb, _, rfl, by show 2 ≤ sizeLine; decide, fun q4 h4 => ?_⟩
        have x4 : Pok K [s1, A1] (upd H12 q4 (.tup [vb, .str qb])) (.ref q4) := ⟨q4, _, _, rfl, upd_same, (w.vs _ mb).same (same_upd h4), Vok.nam nb⟩
        have x3 := x3.same (same_upd (o := .tup [vb, .str qb]) h4)
        have w := w.same (same_upd (o := .tup [vb, .str qb]) h4)
        have po := po.same (same_upd (o := .tup [vb, .str qb]) h4)
        generalize upd H12 q4 (.tup [vb, .str qb]) = J6 at *
        refine ⟨by show 2 ≤ sizeLine; decide, fun l2 hl => ?_⟩
        have xl : (upd J6 l2 (.lst [.ref q3, .ref q4])) l2 = some (.lst [.ref q3, .ref q4]) := upd_same
        have x3 := x3.same (same_upd (o := .lst [.ref q3, .ref q4]) hl)
        have x4 := x4.same (same_upd (o := .lst [.ref q3, .ref q4]) hl)
        have w := w.same (same_upd (o := .lst [.ref q3, .ref q4]) hl)
        have po := po.same (same_upd (o := .lst [.ref q3, .ref q4]) hl)
        generalize upd J6 l2 (.lst [.ref q3, .ref q4]) = J7 at *
        refine ⟨O2, l2, ps2, _, rfl, rfl, po.e, xl, le_sz (by show ps2.length + 2 ≤ _; omega), fun O3 hO3 => ?_⟩
        have po := PsOk.add po w.st hO3 x3 x4
        have w := w.same (same_upd (o := .lst (ps2 ++ [.ref q3, .ref q4])) hO3)
        generalize upd J7 O3 (.lst (ps2 ++ [.ref q3, .ref q4])) = J8 at *
        have lps3 : (ps2 ++ [V.ref q3, V.ref q4]).length ≤ 15 + 4 * (k + 1) := by rw [List.length_append]; show ps2.length + 2 ≤ _; omega
        exact ⟨_, _, _, _, _, _, _, O3, _, rfl, lps3, ⟨w.st.mono (by omega), w.ho, w.pl, w.nm, w.od, w.nM, w.vs⟩, po⟩
      rintro σ' H8 ⟨y6, y7, y10, y11, y12, y13, y14, O, ps, rfl, lps, w, po⟩
      have Sh : ∀ {d e : PyData}, Gd 0 1 300 d → Gd 0 1 300 e → _ := fun {d e} hd he => (swA_gd (n := n) (D := D) (P := PP) hd he (rmq_small pl (by omega)) (regq_small pl (by omega))).shows (by decide) (by decide) (by decide)
      refine ⟨_, rfl, O, rfl, ⟨_, SqL.of po.e⟩, for_list (K := K) (a := O) (xs := ps) (fun j σ' H' => ∃ y6 y7 y10 y11 y12 y13 y14, σ' = [some (.ref a), some (.ref s1), some (.int (0 + (i : Int))), some (.ref h), some (.ref p), some (.ref t), y6, y7, some (.ref M), some (.ref O), y10, y11, y12, y13, y14] ∧ Same H8 H')
        ⟨_, _, _, _, _, _, _, rfl, Same.refl _⟩ (fun j σ' H' _ hh => ?_) ?_ ?_⟩
      · obtain ⟨_, _, _, _, _, _, _, _, s'⟩ := hh
        exact SqL.of (s' _ _ po.e)
      · rintro j v σ' H9 hx ⟨y6, y7, y10, y11, y12, y13, y14, rfl, s9⟩
        obtain ⟨T, x, y, rfl, eT, ⟨dx, hdx, gx⟩, ⟨dy, hdy, gy⟩⟩ := (po.p v (List.mem_of_getElem? hx)).same s9
        obtain ⟨sh, sp, sz⟩ := Sh gx gy
        have w9 := w.same s9
        refine ⟨T, _, rfl, SqT.of eT, rfl, _, _, rfl, _, _, rfl, rfl, ?_⟩
        have hdx := dx_less0 hdx
        have hdy := dx_less0 hdy
        refine ⟨_, rfl, _, rfl, _, rfl, _, rfl, h, p, n, D, PP, x, dx, y, dy, rfl, w9.ho, hF, nn, n1, w9.pl, pl, lP, hdx, hdy, fun K1 o1 us v1 eo1 no1 as1 => ?_⟩
        refine ⟨_, rfl, _, rfl, _, rfl, _, rfl, h, p, n, D, PP, x, dx, y, dy, rfl, (w9.same v1).ho, hF, nn, n1, (w9.same v1).pl, pl, lP, dx_sm v1 hdx, dx_sm v1 hdy, fun K2 o2 us2 v2 eo2 no2 as2 => ?_⟩
        refine ⟨_, _, rfl, ?_⟩
        dsimp only [gName, gNil]
        refine ⟨_, rfl, o1, .list (swA n D PP dx dy), rfl, .lst (SqL.of (v2 _ _ eo1)) (fun m => no1 (List.mem_singleton.mp m)) (dxA_sm v2 as1), sh, sp, sz, ?_⟩
        refine ⟨_, rfl, o2, .list (swA n D PP dx dy), rfl, .lst (SqL.of eo2) (fun m => no2 (List.mem_singleton.mp m)) as2, sh, sp, sz, rfl, _, rfl, iteNS rfl ?_⟩
        exact ⟨_, _, _, _, _, _, _, rfl, s9.trans (v1.trans v2)⟩
      rintro σ' H9 ⟨y6, y7, y10, y11, y12, y13, y14, rfl, s9⟩
      exact ⟨_, _, _, _, _, _, _, _, _, _, _, _, _, rfl, (w.st.same s9).mono (by omega)⟩
    · rintro σ H2 ⟨y2, y3, y4, y5, y6, y7, y8, y9, y10, y11, y12, y13, y14, rfl, hS2⟩
      exact q _
end
end Fw
set_option maxHeartbeats 8000000
namespace Fw
open PySem L2
theorem all_mk {P : Program} {w : World} {K : PySem.W.Frag} {h : Heap} {mg : Str → Option Value} {fa : Addr} (X : K.In h) (G : h.Ns mainGlobals mg) (hfa : mg "law" = some (.ref fa))
    {EE NH : Addr} {nmH qnH : Str} {bsH subH : List Value} {snH : List Str} {abH : Bool} {colH : Option Bool} {ddH : Option Addr} {pH qH rH sH tH : Option Value} (uHEa : PySem.W.nsIn K mainGlobals "HouseError" = some (some (.ref EE))) (uHEb : PySem.W.subIn K (.ref EE) (.type "BaseException") = some true) (uHEc : K.lookup EE = some (excClassObj nmH qnH EE NH bsH [.type "ValueError", .type "Exception", .type "BaseException", .type "object"] true snH subH abH colH ddH pH qH rH sH tH "ValueError.__new__")) (uHEd : PySem.W.typeIn K (.ref EE) = some (.type "type"))
    {CUnknownPerson gUnknownPerson NUnknownPerson : Addr} {nmUnknownPerson qnUnknownPerson : Str} {bsUnknownPerson subUnknownPerson : List Value} {snUnknownPerson : List Str} {abUnknownPerson : Bool} {colUnknownPerson : Option Bool} {ddUnknownPerson : Option Addr} {pUnknownPerson qUnknownPerson rUnknownPerson sUnknownPerson tUnknownPerson : Option Value} {gdUnknownPerson gaUnknownPerson : Option Addr} {gsUnknownPerson : Array (Option Value)} {goUnknownPerson gkUnknownPerson gvUnknownPerson gpUnknownPerson gcUnknownPerson gtUnknownPerson : Value}
    (uUnknownPersona : PySem.W.nsIn K mainGlobals "UnknownPerson" = some (some (.ref CUnknownPerson)))
    (uUnknownPersonb : K.lookup CUnknownPerson = some (excClassObj nmUnknownPerson qnUnknownPerson CUnknownPerson NUnknownPerson bsUnknownPerson (above EE) true snUnknownPerson subUnknownPerson abUnknownPerson colUnknownPerson ddUnknownPerson pUnknownPerson qUnknownPerson rUnknownPerson sUnknownPerson tUnknownPerson "ValueError.__new__"))
    (uUnknownPersonc : PySem.W.findIn K (.ref CUnknownPerson) "__setattr__" = some (some (.builtin "object.__setattr__"))) (uUnknownPersond : PySem.W.findIn K (.ref CUnknownPerson) "__getattribute__" = some (some (.builtin "BaseException.__getattribute__"))) (uUnknownPersone : PySem.W.findIn K (.ref CUnknownPerson) "__getattr__" = some none)
    (uUnknownPersonf : PySem.W.findIn K (.ref CUnknownPerson) "__init__" = some (some (.ref gUnknownPerson))) (uUnknownPersong : PySem.W.typeIn K (.ref gUnknownPerson) = some (.type "function"))
    (uUnknownPersonh : K.lookup gUnknownPerson = some ⟨goUnknownPerson, gdUnknownPerson, .func (PySem.W.fnOf "__init__" "UnknownPerson.__init__" (defArgs iUnknownPerson) (defBody iUnknownPerson) (defScope iUnknownPerson) .none gkUnknownPerson gvUnknownPerson gpUnknownPerson gaUnknownPerson gcUnknownPerson gtUnknownPerson), gsUnknownPerson⟩)
    (uUnknownPersoni : PySem.W.codeIn K gcUnknownPerson "UnknownPerson.__init__" = true) (uUnknownPersonj : PySem.W.keepIn K (.ref gUnknownPerson) = true) (uUnknownPersonk : PySem.W.keepIn K (.ref CUnknownPerson) = true) (uUnknownPersonl : PySem.W.typeIn K (.ref CUnknownPerson) = some (.type "type")) (uUnknownPersonm : PySem.W.hasDictIn K CUnknownPerson = true)
    (uUnknownPersonn : PySem.W.findIn K (.ref CUnknownPerson) "__class__" = some (some (.builtin "object.__class__"))) (uUnknownPersono : PySem.W.findIn K (.ref CUnknownPerson) "name" = some none)
    (uUnknownPersonp : PySem.W.specialIn K (.builtin "object.__class__") "__get__" = some (some (.builtin "getset_descriptor.__get__"))) (uUnknownPersonq : PySem.W.takesIn K (.builtin "object.__class__") = some true)
    {CInvalidRoom gInvalidRoom NInvalidRoom : Addr} {nmInvalidRoom qnInvalidRoom : Str} {bsInvalidRoom subInvalidRoom : List Value} {snInvalidRoom : List Str} {abInvalidRoom : Bool} {colInvalidRoom : Option Bool} {ddInvalidRoom : Option Addr} {pInvalidRoom qInvalidRoom rInvalidRoom sInvalidRoom tInvalidRoom : Option Value} {gdInvalidRoom gaInvalidRoom : Option Addr} {gsInvalidRoom : Array (Option Value)} {goInvalidRoom gkInvalidRoom gvInvalidRoom gpInvalidRoom gcInvalidRoom gtInvalidRoom : Value}
    (uInvalidRooma : PySem.W.nsIn K mainGlobals "InvalidRoom" = some (some (.ref CInvalidRoom)))
    (uInvalidRoomb : K.lookup CInvalidRoom = some (excClassObj nmInvalidRoom qnInvalidRoom CInvalidRoom NInvalidRoom bsInvalidRoom (above EE) true snInvalidRoom subInvalidRoom abInvalidRoom colInvalidRoom ddInvalidRoom pInvalidRoom qInvalidRoom rInvalidRoom sInvalidRoom tInvalidRoom "ValueError.__new__"))
    (uInvalidRoomc : PySem.W.findIn K (.ref CInvalidRoom) "__setattr__" = some (some (.builtin "object.__setattr__"))) (uInvalidRoomd : PySem.W.findIn K (.ref CInvalidRoom) "__getattribute__" = some (some (.builtin "BaseException.__getattribute__"))) (uInvalidRoome : PySem.W.findIn K (.ref CInvalidRoom) "__getattr__" = some none)
    (uInvalidRoomf : PySem.W.findIn K (.ref CInvalidRoom) "__init__" = some (some (.ref gInvalidRoom))) (uInvalidRoomg : PySem.W.typeIn K (.ref gInvalidRoom) = some (.type "function"))
    (uInvalidRoomh : K.lookup gInvalidRoom = some ⟨goInvalidRoom, gdInvalidRoom, .func (PySem.W.fnOf "__init__" "InvalidRoom.__init__" (defArgs iInvalidRoom) (defBody iInvalidRoom) (defScope iInvalidRoom) .none gkInvalidRoom gvInvalidRoom gpInvalidRoom gaInvalidRoom gcInvalidRoom gtInvalidRoom), gsInvalidRoom⟩)
    (uInvalidRoomi : PySem.W.codeIn K gcInvalidRoom "InvalidRoom.__init__" = true) (uInvalidRoomj : PySem.W.keepIn K (.ref gInvalidRoom) = true) (uInvalidRoomk : PySem.W.keepIn K (.ref CInvalidRoom) = true) (uInvalidRooml : PySem.W.typeIn K (.ref CInvalidRoom) = some (.type "type")) (uInvalidRoomm : PySem.W.hasDictIn K CInvalidRoom = true)
    (uInvalidRoomn : PySem.W.findIn K (.ref CInvalidRoom) "__class__" = some (some (.builtin "object.__class__"))) (uInvalidRoomo : PySem.W.findIn K (.ref CInvalidRoom) "room" = some none)
    (uInvalidRoomp : PySem.W.specialIn K (.builtin "object.__class__") "__get__" = some (some (.builtin "getset_descriptor.__get__"))) (uInvalidRoomq : PySem.W.takesIn K (.builtin "object.__class__") = some true)
    {CNotAdjacent gNotAdjacent NNotAdjacent : Addr} {nmNotAdjacent qnNotAdjacent : Str} {bsNotAdjacent subNotAdjacent : List Value} {snNotAdjacent : List Str} {abNotAdjacent : Bool} {colNotAdjacent : Option Bool} {ddNotAdjacent : Option Addr} {pNotAdjacent qNotAdjacent rNotAdjacent sNotAdjacent tNotAdjacent : Option Value} {gdNotAdjacent gaNotAdjacent : Option Addr} {gsNotAdjacent : Array (Option Value)} {goNotAdjacent gkNotAdjacent gvNotAdjacent gpNotAdjacent gcNotAdjacent gtNotAdjacent : Value}
    (uNotAdjacenta : PySem.W.nsIn K mainGlobals "NotAdjacent" = some (some (.ref CNotAdjacent)))
    (uNotAdjacentb : K.lookup CNotAdjacent = some (excClassObj nmNotAdjacent qnNotAdjacent CNotAdjacent NNotAdjacent bsNotAdjacent (above EE) true snNotAdjacent subNotAdjacent abNotAdjacent colNotAdjacent ddNotAdjacent pNotAdjacent qNotAdjacent rNotAdjacent sNotAdjacent tNotAdjacent "ValueError.__new__"))
    (uNotAdjacentc : PySem.W.findIn K (.ref CNotAdjacent) "__setattr__" = some (some (.builtin "object.__setattr__"))) (uNotAdjacentd : PySem.W.findIn K (.ref CNotAdjacent) "__getattribute__" = some (some (.builtin "BaseException.__getattribute__"))) (uNotAdjacente : PySem.W.findIn K (.ref CNotAdjacent) "__getattr__" = some none)
    (uNotAdjacentf : PySem.W.findIn K (.ref CNotAdjacent) "__init__" = some (some (.ref gNotAdjacent))) (uNotAdjacentg : PySem.W.typeIn K (.ref gNotAdjacent) = some (.type "function"))
    (uNotAdjacenth : K.lookup gNotAdjacent = some ⟨goNotAdjacent, gdNotAdjacent, .func (PySem.W.fnOf "__init__" "NotAdjacent.__init__" (defArgs iNotAdjacent) (defBody iNotAdjacent) (defScope iNotAdjacent) .none gkNotAdjacent gvNotAdjacent gpNotAdjacent gaNotAdjacent gcNotAdjacent gtNotAdjacent), gsNotAdjacent⟩)
    (uNotAdjacenti : PySem.W.codeIn K gcNotAdjacent "NotAdjacent.__init__" = true) (uNotAdjacentj : PySem.W.keepIn K (.ref gNotAdjacent) = true) (uNotAdjacentk : PySem.W.keepIn K (.ref CNotAdjacent) = true) (uNotAdjacentl : PySem.W.typeIn K (.ref CNotAdjacent) = some (.type "type")) (uNotAdjacentm : PySem.W.hasDictIn K CNotAdjacent = true)
    (uNotAdjacentn : PySem.W.findIn K (.ref CNotAdjacent) "__class__" = some (some (.builtin "object.__class__"))) (uNotAdjacento : PySem.W.findIn K (.ref CNotAdjacent) "room" = some none)
    (uNotAdjacentp : PySem.W.specialIn K (.builtin "object.__class__") "__get__" = some (some (.builtin "getset_descriptor.__get__"))) (uNotAdjacentq : PySem.W.takesIn K (.builtin "object.__class__") = some true)
    {CEmptyRoom gEmptyRoom NEmptyRoom : Addr} {nmEmptyRoom qnEmptyRoom : Str} {bsEmptyRoom subEmptyRoom : List Value} {snEmptyRoom : List Str} {abEmptyRoom : Bool} {colEmptyRoom : Option Bool} {ddEmptyRoom : Option Addr} {pEmptyRoom qEmptyRoom rEmptyRoom sEmptyRoom tEmptyRoom : Option Value} {gdEmptyRoom gaEmptyRoom : Option Addr} {gsEmptyRoom : Array (Option Value)} {goEmptyRoom gkEmptyRoom gvEmptyRoom gpEmptyRoom gcEmptyRoom gtEmptyRoom : Value}
    (uEmptyRooma : PySem.W.nsIn K mainGlobals "EmptyRoom" = some (some (.ref CEmptyRoom)))
    (uEmptyRoomb : K.lookup CEmptyRoom = some (excClassObj nmEmptyRoom qnEmptyRoom CEmptyRoom NEmptyRoom bsEmptyRoom (above EE) true snEmptyRoom subEmptyRoom abEmptyRoom colEmptyRoom ddEmptyRoom pEmptyRoom qEmptyRoom rEmptyRoom sEmptyRoom tEmptyRoom "ValueError.__new__"))
    (uEmptyRoomc : PySem.W.findIn K (.ref CEmptyRoom) "__setattr__" = some (some (.builtin "object.__setattr__"))) (uEmptyRoomd : PySem.W.findIn K (.ref CEmptyRoom) "__getattribute__" = some (some (.builtin "BaseException.__getattribute__"))) (uEmptyRoome : PySem.W.findIn K (.ref CEmptyRoom) "__getattr__" = some none)
    (uEmptyRoomf : PySem.W.findIn K (.ref CEmptyRoom) "__init__" = some (some (.ref gEmptyRoom))) (uEmptyRoomg : PySem.W.typeIn K (.ref gEmptyRoom) = some (.type "function"))
    (uEmptyRoomh : K.lookup gEmptyRoom = some ⟨goEmptyRoom, gdEmptyRoom, .func (PySem.W.fnOf "__init__" "EmptyRoom.__init__" (defArgs iEmptyRoom) (defBody iEmptyRoom) (defScope iEmptyRoom) .none gkEmptyRoom gvEmptyRoom gpEmptyRoom gaEmptyRoom gcEmptyRoom gtEmptyRoom), gsEmptyRoom⟩)
    (uEmptyRoomi : PySem.W.codeIn K gcEmptyRoom "EmptyRoom.__init__" = true) (uEmptyRoomj : PySem.W.keepIn K (.ref gEmptyRoom) = true) (uEmptyRoomk : PySem.W.keepIn K (.ref CEmptyRoom) = true) (uEmptyRooml : PySem.W.typeIn K (.ref CEmptyRoom) = some (.type "type")) (uEmptyRoomm : PySem.W.hasDictIn K CEmptyRoom = true)
    (uEmptyRoomn : PySem.W.findIn K (.ref CEmptyRoom) "__class__" = some (some (.builtin "object.__class__"))) (uEmptyRoomo : PySem.W.findIn K (.ref CEmptyRoom) "room" = some none)
    (uEmptyRoomp : PySem.W.specialIn K (.builtin "object.__class__") "__get__" = some (some (.builtin "getset_descriptor.__get__"))) (uEmptyRoomq : PySem.W.takesIn K (.builtin "object.__class__") = some true)
    {CInvalidMoves gInvalidMoves NInvalidMoves : Addr} {nmInvalidMoves qnInvalidMoves : Str} {bsInvalidMoves subInvalidMoves : List Value} {snInvalidMoves : List Str} {abInvalidMoves : Bool} {colInvalidMoves : Option Bool} {ddInvalidMoves : Option Addr} {pInvalidMoves qInvalidMoves rInvalidMoves sInvalidMoves tInvalidMoves : Option Value} {gdInvalidMoves gaInvalidMoves : Option Addr} {gsInvalidMoves : Array (Option Value)} {goInvalidMoves gkInvalidMoves gvInvalidMoves gpInvalidMoves gcInvalidMoves gtInvalidMoves : Value}
    (uInvalidMovesa : PySem.W.nsIn K mainGlobals "InvalidMoves" = some (some (.ref CInvalidMoves)))
    (uInvalidMovesb : K.lookup CInvalidMoves = some (excClassObj nmInvalidMoves qnInvalidMoves CInvalidMoves NInvalidMoves bsInvalidMoves (above EE) true snInvalidMoves subInvalidMoves abInvalidMoves colInvalidMoves ddInvalidMoves pInvalidMoves qInvalidMoves rInvalidMoves sInvalidMoves tInvalidMoves "ValueError.__new__"))
    (uInvalidMovesc : PySem.W.findIn K (.ref CInvalidMoves) "__setattr__" = some (some (.builtin "object.__setattr__"))) (uInvalidMovesd : PySem.W.findIn K (.ref CInvalidMoves) "__getattribute__" = some (some (.builtin "BaseException.__getattribute__"))) (uInvalidMovese : PySem.W.findIn K (.ref CInvalidMoves) "__getattr__" = some none)
    (uInvalidMovesf : PySem.W.findIn K (.ref CInvalidMoves) "__init__" = some (some (.ref gInvalidMoves))) (uInvalidMovesg : PySem.W.typeIn K (.ref gInvalidMoves) = some (.type "function"))
    (uInvalidMovesh : K.lookup gInvalidMoves = some ⟨goInvalidMoves, gdInvalidMoves, .func (PySem.W.fnOf "__init__" "InvalidMoves.__init__" (defArgs iInvalidMoves) (defBody iInvalidMoves) (defScope iInvalidMoves) .none gkInvalidMoves gvInvalidMoves gpInvalidMoves gaInvalidMoves gcInvalidMoves gtInvalidMoves), gsInvalidMoves⟩)
    (uInvalidMovesi : PySem.W.codeIn K gcInvalidMoves "InvalidMoves.__init__" = true) (uInvalidMovesj : PySem.W.keepIn K (.ref gInvalidMoves) = true) (uInvalidMovesk : PySem.W.keepIn K (.ref CInvalidMoves) = true) (uInvalidMovesl : PySem.W.typeIn K (.ref CInvalidMoves) = some (.type "type")) (uInvalidMovesm : PySem.W.hasDictIn K CInvalidMoves = true)
    (uInvalidMovesn : PySem.W.findIn K (.ref CInvalidMoves) "__class__" = some (some (.builtin "object.__class__"))) (uInvalidMoveso : PySem.W.findIn K (.ref CInvalidMoves) "position" = some none)
    (uInvalidMovesp : PySem.W.specialIn K (.builtin "object.__class__") "__get__" = some (some (.builtin "getset_descriptor.__get__"))) (uInvalidMovesq : PySem.W.takesIn K (.builtin "object.__class__") = some true)
    {COtherRegion gOtherRegion NOtherRegion : Addr} {nmOtherRegion qnOtherRegion : Str} {bsOtherRegion subOtherRegion : List Value} {snOtherRegion : List Str} {abOtherRegion : Bool} {colOtherRegion : Option Bool} {ddOtherRegion : Option Addr} {pOtherRegion qOtherRegion rOtherRegion sOtherRegion tOtherRegion : Option Value} {gdOtherRegion gaOtherRegion : Option Addr} {gsOtherRegion : Array (Option Value)} {goOtherRegion gkOtherRegion gvOtherRegion gpOtherRegion gcOtherRegion gtOtherRegion : Value}
    (uOtherRegiona : PySem.W.nsIn K mainGlobals "OtherRegion" = some (some (.ref COtherRegion)))
    (uOtherRegionb : K.lookup COtherRegion = some (excClassObj nmOtherRegion qnOtherRegion COtherRegion NOtherRegion bsOtherRegion (above EE) true snOtherRegion subOtherRegion abOtherRegion colOtherRegion ddOtherRegion pOtherRegion qOtherRegion rOtherRegion sOtherRegion tOtherRegion "ValueError.__new__"))
    (uOtherRegionc : PySem.W.findIn K (.ref COtherRegion) "__setattr__" = some (some (.builtin "object.__setattr__"))) (uOtherRegiond : PySem.W.findIn K (.ref COtherRegion) "__getattribute__" = some (some (.builtin "BaseException.__getattribute__"))) (uOtherRegione : PySem.W.findIn K (.ref COtherRegion) "__getattr__" = some none)
    (uOtherRegionf : PySem.W.findIn K (.ref COtherRegion) "__init__" = some (some (.ref gOtherRegion))) (uOtherRegiong : PySem.W.typeIn K (.ref gOtherRegion) = some (.type "function"))
    (uOtherRegionh : K.lookup gOtherRegion = some ⟨goOtherRegion, gdOtherRegion, .func (PySem.W.fnOf "__init__" "OtherRegion.__init__" (defArgs iOtherRegion) (defBody iOtherRegion) (defScope iOtherRegion) .none gkOtherRegion gvOtherRegion gpOtherRegion gaOtherRegion gcOtherRegion gtOtherRegion), gsOtherRegion⟩)
    (uOtherRegioni : PySem.W.codeIn K gcOtherRegion "OtherRegion.__init__" = true) (uOtherRegionj : PySem.W.keepIn K (.ref gOtherRegion) = true) (uOtherRegionk : PySem.W.keepIn K (.ref COtherRegion) = true) (uOtherRegionl : PySem.W.typeIn K (.ref COtherRegion) = some (.type "type")) (uOtherRegionm : PySem.W.hasDictIn K COtherRegion = true)
    (uOtherRegionn : PySem.W.findIn K (.ref COtherRegion) "__class__" = some (some (.builtin "object.__class__"))) (uOtherRegiono : PySem.W.findIn K (.ref COtherRegion) "room" = some none)
    (uOtherRegionp : PySem.W.specialIn K (.builtin "object.__class__") "__get__" = some (some (.builtin "getset_descriptor.__get__"))) (uOtherRegionq : PySem.W.takesIn K (.builtin "object.__class__") = some true)
    {CTightRegion gTightRegion NTightRegion : Addr} {nmTightRegion qnTightRegion : Str} {bsTightRegion subTightRegion : List Value} {snTightRegion : List Str} {abTightRegion : Bool} {colTightRegion : Option Bool} {ddTightRegion : Option Addr} {pTightRegion qTightRegion rTightRegion sTightRegion tTightRegion : Option Value} {gdTightRegion gaTightRegion : Option Addr} {gsTightRegion : Array (Option Value)} {goTightRegion gkTightRegion gvTightRegion gpTightRegion gcTightRegion gtTightRegion : Value}
    (uTightRegiona : PySem.W.nsIn K mainGlobals "TightRegion" = some (some (.ref CTightRegion)))
    (uTightRegionb : K.lookup CTightRegion = some (excClassObj nmTightRegion qnTightRegion CTightRegion NTightRegion bsTightRegion (above EE) true snTightRegion subTightRegion abTightRegion colTightRegion ddTightRegion pTightRegion qTightRegion rTightRegion sTightRegion tTightRegion "ValueError.__new__"))
    (uTightRegionc : PySem.W.findIn K (.ref CTightRegion) "__setattr__" = some (some (.builtin "object.__setattr__"))) (uTightRegiond : PySem.W.findIn K (.ref CTightRegion) "__getattribute__" = some (some (.builtin "BaseException.__getattribute__"))) (uTightRegione : PySem.W.findIn K (.ref CTightRegion) "__getattr__" = some none)
    (uTightRegionf : PySem.W.findIn K (.ref CTightRegion) "__init__" = some (some (.ref gTightRegion))) (uTightRegiong : PySem.W.typeIn K (.ref gTightRegion) = some (.type "function"))
    (uTightRegionh : K.lookup gTightRegion = some ⟨goTightRegion, gdTightRegion, .func (PySem.W.fnOf "__init__" "TightRegion.__init__" (defArgs iTightRegion) (defBody iTightRegion) (defScope iTightRegion) .none gkTightRegion gvTightRegion gpTightRegion gaTightRegion gcTightRegion gtTightRegion), gsTightRegion⟩)
    (uTightRegioni : PySem.W.codeIn K gcTightRegion "TightRegion.__init__" = true) (uTightRegionj : PySem.W.keepIn K (.ref gTightRegion) = true) (uTightRegionk : PySem.W.keepIn K (.ref CTightRegion) = true) (uTightRegionl : PySem.W.typeIn K (.ref CTightRegion) = some (.type "type")) (uTightRegionm : PySem.W.hasDictIn K CTightRegion = true)
    (uTightRegionn : PySem.W.findIn K (.ref CTightRegion) "__class__" = some (some (.builtin "object.__class__"))) (uTightRegiono : PySem.W.findIn K (.ref CTightRegion) "room" = some none)
    (uTightRegionp : PySem.W.specialIn K (.builtin "object.__class__") "__get__" = some (some (.builtin "getset_descriptor.__get__"))) (uTightRegionq : PySem.W.takesIn K (.builtin "object.__class__") = some true)
    {CBlocked gBlocked NBlocked : Addr} {nmBlocked qnBlocked : Str} {bsBlocked subBlocked : List Value} {snBlocked : List Str} {abBlocked : Bool} {colBlocked : Option Bool} {ddBlocked : Option Addr} {pBlocked qBlocked rBlocked sBlocked tBlocked : Option Value} {gdBlocked gaBlocked : Option Addr} {gsBlocked : Array (Option Value)} {goBlocked gkBlocked gvBlocked gpBlocked gcBlocked gtBlocked : Value}
    (uBlockeda : PySem.W.nsIn K mainGlobals "Blocked" = some (some (.ref CBlocked)))
    (uBlockedb : K.lookup CBlocked = some (excClassObj nmBlocked qnBlocked CBlocked NBlocked bsBlocked (above EE) true snBlocked subBlocked abBlocked colBlocked ddBlocked pBlocked qBlocked rBlocked sBlocked tBlocked "ValueError.__new__"))
    (uBlockedc : PySem.W.findIn K (.ref CBlocked) "__setattr__" = some (some (.builtin "object.__setattr__"))) (uBlockedd : PySem.W.findIn K (.ref CBlocked) "__getattribute__" = some (some (.builtin "BaseException.__getattribute__"))) (uBlockede : PySem.W.findIn K (.ref CBlocked) "__getattr__" = some none)
    (uBlockedf : PySem.W.findIn K (.ref CBlocked) "__init__" = some (some (.ref gBlocked))) (uBlockedg : PySem.W.typeIn K (.ref gBlocked) = some (.type "function"))
    (uBlockedh : K.lookup gBlocked = some ⟨goBlocked, gdBlocked, .func (PySem.W.fnOf "__init__" "Blocked.__init__" (defArgs iBlocked) (defBody iBlocked) (defScope iBlocked) .none gkBlocked gvBlocked gpBlocked gaBlocked gcBlocked gtBlocked), gsBlocked⟩)
    (uBlockedi : PySem.W.codeIn K gcBlocked "Blocked.__init__" = true) (uBlockedj : PySem.W.keepIn K (.ref gBlocked) = true) (uBlockedk : PySem.W.keepIn K (.ref CBlocked) = true) (uBlockedl : PySem.W.typeIn K (.ref CBlocked) = some (.type "type")) (uBlockedm : PySem.W.hasDictIn K CBlocked = true)
    (uBlockedn : PySem.W.findIn K (.ref CBlocked) "__class__" = some (some (.builtin "object.__class__"))) (uBlockedo : PySem.W.findIn K (.ref CBlocked) "block" = some none)
    (uBlockedp : PySem.W.specialIn K (.builtin "object.__class__") "__get__" = some (some (.builtin "getset_descriptor.__get__"))) (uBlockedq : PySem.W.takesIn K (.builtin "object.__class__") = some true)
    {CInvalidName gInvalidName NInvalidName : Addr} {nmInvalidName qnInvalidName : Str} {bsInvalidName subInvalidName : List Value} {snInvalidName : List Str} {abInvalidName : Bool} {colInvalidName : Option Bool} {ddInvalidName : Option Addr} {pInvalidName qInvalidName rInvalidName sInvalidName tInvalidName : Option Value} {gdInvalidName gaInvalidName : Option Addr} {gsInvalidName : Array (Option Value)} {goInvalidName gkInvalidName gvInvalidName gpInvalidName gcInvalidName gtInvalidName : Value}
    (uInvalidNamea : PySem.W.nsIn K mainGlobals "InvalidName" = some (some (.ref CInvalidName)))
    (uInvalidNameb : K.lookup CInvalidName = some (excClassObj nmInvalidName qnInvalidName CInvalidName NInvalidName bsInvalidName (above EE) true snInvalidName subInvalidName abInvalidName colInvalidName ddInvalidName pInvalidName qInvalidName rInvalidName sInvalidName tInvalidName "ValueError.__new__"))
    (uInvalidNamec : PySem.W.findIn K (.ref CInvalidName) "__setattr__" = some (some (.builtin "object.__setattr__"))) (uInvalidNamed : PySem.W.findIn K (.ref CInvalidName) "__getattribute__" = some (some (.builtin "BaseException.__getattribute__"))) (uInvalidNamee : PySem.W.findIn K (.ref CInvalidName) "__getattr__" = some none)
    (uInvalidNamef : PySem.W.findIn K (.ref CInvalidName) "__init__" = some (some (.ref gInvalidName))) (uInvalidNameg : PySem.W.typeIn K (.ref gInvalidName) = some (.type "function"))
    (uInvalidNameh : K.lookup gInvalidName = some ⟨goInvalidName, gdInvalidName, .func (PySem.W.fnOf "__init__" "InvalidName.__init__" (defArgs iInvalidName) (defBody iInvalidName) (defScope iInvalidName) .none gkInvalidName gvInvalidName gpInvalidName gaInvalidName gcInvalidName gtInvalidName), gsInvalidName⟩)
    (uInvalidNamei : PySem.W.codeIn K gcInvalidName "InvalidName.__init__" = true) (uInvalidNamej : PySem.W.keepIn K (.ref gInvalidName) = true) (uInvalidNamek : PySem.W.keepIn K (.ref CInvalidName) = true) (uInvalidNamel : PySem.W.typeIn K (.ref CInvalidName) = some (.type "type")) (uInvalidNamem : PySem.W.hasDictIn K CInvalidName = true)
    (uInvalidNamen : PySem.W.findIn K (.ref CInvalidName) "__class__" = some (some (.builtin "object.__class__"))) (uInvalidNameo : PySem.W.findIn K (.ref CInvalidName) "name" = some none)
    (uInvalidNamep : PySem.W.specialIn K (.builtin "object.__class__") "__get__" = some (some (.builtin "getset_descriptor.__get__"))) (uInvalidNameq : PySem.W.takesIn K (.builtin "object.__class__") = some true)
    {CDuplicateName gDuplicateName NDuplicateName : Addr} {nmDuplicateName qnDuplicateName : Str} {bsDuplicateName subDuplicateName : List Value} {snDuplicateName : List Str} {abDuplicateName : Bool} {colDuplicateName : Option Bool} {ddDuplicateName : Option Addr} {pDuplicateName qDuplicateName rDuplicateName sDuplicateName tDuplicateName : Option Value} {gdDuplicateName gaDuplicateName : Option Addr} {gsDuplicateName : Array (Option Value)} {goDuplicateName gkDuplicateName gvDuplicateName gpDuplicateName gcDuplicateName gtDuplicateName : Value}
    (uDuplicateNamea : PySem.W.nsIn K mainGlobals "DuplicateName" = some (some (.ref CDuplicateName)))
    (uDuplicateNameb : K.lookup CDuplicateName = some (excClassObj nmDuplicateName qnDuplicateName CDuplicateName NDuplicateName bsDuplicateName (above EE) true snDuplicateName subDuplicateName abDuplicateName colDuplicateName ddDuplicateName pDuplicateName qDuplicateName rDuplicateName sDuplicateName tDuplicateName "ValueError.__new__"))
    (uDuplicateNamec : PySem.W.findIn K (.ref CDuplicateName) "__setattr__" = some (some (.builtin "object.__setattr__"))) (uDuplicateNamed : PySem.W.findIn K (.ref CDuplicateName) "__getattribute__" = some (some (.builtin "BaseException.__getattribute__"))) (uDuplicateNamee : PySem.W.findIn K (.ref CDuplicateName) "__getattr__" = some none)
    (uDuplicateNamef : PySem.W.findIn K (.ref CDuplicateName) "__init__" = some (some (.ref gDuplicateName))) (uDuplicateNameg : PySem.W.typeIn K (.ref gDuplicateName) = some (.type "function"))
    (uDuplicateNameh : K.lookup gDuplicateName = some ⟨goDuplicateName, gdDuplicateName, .func (PySem.W.fnOf "__init__" "DuplicateName.__init__" (defArgs iDuplicateName) (defBody iDuplicateName) (defScope iDuplicateName) .none gkDuplicateName gvDuplicateName gpDuplicateName gaDuplicateName gcDuplicateName gtDuplicateName), gsDuplicateName⟩)
    (uDuplicateNamei : PySem.W.codeIn K gcDuplicateName "DuplicateName.__init__" = true) (uDuplicateNamej : PySem.W.keepIn K (.ref gDuplicateName) = true) (uDuplicateNamek : PySem.W.keepIn K (.ref CDuplicateName) = true) (uDuplicateNamel : PySem.W.typeIn K (.ref CDuplicateName) = some (.type "type")) (uDuplicateNamem : PySem.W.hasDictIn K CDuplicateName = true)
    (uDuplicateNamen : PySem.W.findIn K (.ref CDuplicateName) "__class__" = some (some (.builtin "object.__class__"))) (uDuplicateNameo : PySem.W.findIn K (.ref CDuplicateName) "name" = some none)
    (uDuplicateNamep : PySem.W.specialIn K (.builtin "object.__class__") "__get__" = some (some (.builtin "getset_descriptor.__get__"))) (uDuplicateNameq : PySem.W.takesIn K (.builtin "object.__class__") = some true)
    {CLimitReached gLimitReached NLimitReached : Addr} {nmLimitReached qnLimitReached : Str} {bsLimitReached subLimitReached : List Value} {snLimitReached : List Str} {abLimitReached : Bool} {colLimitReached : Option Bool} {ddLimitReached : Option Addr} {pLimitReached qLimitReached rLimitReached sLimitReached tLimitReached : Option Value} {gdLimitReached gaLimitReached : Option Addr} {gsLimitReached : Array (Option Value)} {goLimitReached gkLimitReached gvLimitReached gpLimitReached gcLimitReached gtLimitReached : Value}
    (uLimitReacheda : PySem.W.nsIn K mainGlobals "LimitReached" = some (some (.ref CLimitReached)))
    (uLimitReachedb : K.lookup CLimitReached = some (excClassObj nmLimitReached qnLimitReached CLimitReached NLimitReached bsLimitReached (above EE) true snLimitReached subLimitReached abLimitReached colLimitReached ddLimitReached pLimitReached qLimitReached rLimitReached sLimitReached tLimitReached "ValueError.__new__"))
    (uLimitReachedc : PySem.W.findIn K (.ref CLimitReached) "__setattr__" = some (some (.builtin "object.__setattr__"))) (uLimitReachedd : PySem.W.findIn K (.ref CLimitReached) "__getattribute__" = some (some (.builtin "BaseException.__getattribute__"))) (uLimitReachede : PySem.W.findIn K (.ref CLimitReached) "__getattr__" = some none)
    (uLimitReachedf : PySem.W.findIn K (.ref CLimitReached) "__init__" = some (some (.ref gLimitReached))) (uLimitReachedg : PySem.W.typeIn K (.ref gLimitReached) = some (.type "function"))
    (uLimitReachedh : K.lookup gLimitReached = some ⟨goLimitReached, gdLimitReached, .func (PySem.W.fnOf "__init__" "LimitReached.__init__" (defArgs iLimitReached) (defBody iLimitReached) (defScope iLimitReached) .none gkLimitReached gvLimitReached gpLimitReached gaLimitReached gcLimitReached gtLimitReached), gsLimitReached⟩)
    (uLimitReachedi : PySem.W.codeIn K gcLimitReached "LimitReached.__init__" = true) (uLimitReachedj : PySem.W.keepIn K (.ref gLimitReached) = true) (uLimitReachedk : PySem.W.keepIn K (.ref CLimitReached) = true) (uLimitReachedl : PySem.W.typeIn K (.ref CLimitReached) = some (.type "type")) (uLimitReachedm : PySem.W.hasDictIn K CLimitReached = true)
    (uLimitReachedn : PySem.W.findIn K (.ref CLimitReached) "__class__" = some (some (.builtin "object.__class__"))) (uLimitReachedo : PySem.W.findIn K (.ref CLimitReached) "limit" = some none)
    (uLimitReachedp : PySem.W.specialIn K (.builtin "object.__class__") "__get__" = some (some (.builtin "getset_descriptor.__get__"))) (uLimitReachedq : PySem.W.takesIn K (.builtin "object.__class__") = some true)
    {CAlreadyAdjacent gAlreadyAdjacent NAlreadyAdjacent : Addr} {nmAlreadyAdjacent qnAlreadyAdjacent : Str} {bsAlreadyAdjacent subAlreadyAdjacent : List Value} {snAlreadyAdjacent : List Str} {abAlreadyAdjacent : Bool} {colAlreadyAdjacent : Option Bool} {ddAlreadyAdjacent : Option Addr} {pAlreadyAdjacent qAlreadyAdjacent rAlreadyAdjacent sAlreadyAdjacent tAlreadyAdjacent : Option Value} {gdAlreadyAdjacent gaAlreadyAdjacent : Option Addr} {gsAlreadyAdjacent : Array (Option Value)} {goAlreadyAdjacent gkAlreadyAdjacent gvAlreadyAdjacent gpAlreadyAdjacent gcAlreadyAdjacent gtAlreadyAdjacent : Value}
    (uAlreadyAdjacenta : PySem.W.nsIn K mainGlobals "AlreadyAdjacent" = some (some (.ref CAlreadyAdjacent)))
    (uAlreadyAdjacentb : K.lookup CAlreadyAdjacent = some (excClassObj nmAlreadyAdjacent qnAlreadyAdjacent CAlreadyAdjacent NAlreadyAdjacent bsAlreadyAdjacent (above EE) true snAlreadyAdjacent subAlreadyAdjacent abAlreadyAdjacent colAlreadyAdjacent ddAlreadyAdjacent pAlreadyAdjacent qAlreadyAdjacent rAlreadyAdjacent sAlreadyAdjacent tAlreadyAdjacent "ValueError.__new__"))
    (uAlreadyAdjacentc : PySem.W.findIn K (.ref CAlreadyAdjacent) "__setattr__" = some (some (.builtin "object.__setattr__"))) (uAlreadyAdjacentd : PySem.W.findIn K (.ref CAlreadyAdjacent) "__getattribute__" = some (some (.builtin "BaseException.__getattribute__"))) (uAlreadyAdjacente : PySem.W.findIn K (.ref CAlreadyAdjacent) "__getattr__" = some none)
    (uAlreadyAdjacentf : PySem.W.findIn K (.ref CAlreadyAdjacent) "__init__" = some (some (.ref gAlreadyAdjacent))) (uAlreadyAdjacentg : PySem.W.typeIn K (.ref gAlreadyAdjacent) = some (.type "function"))
    (uAlreadyAdjacenth : K.lookup gAlreadyAdjacent = some ⟨goAlreadyAdjacent, gdAlreadyAdjacent, .func (PySem.W.fnOf "__init__" "AlreadyAdjacent.__init__" (defArgs iAlreadyAdjacent) (defBody iAlreadyAdjacent) (defScope iAlreadyAdjacent) .none gkAlreadyAdjacent gvAlreadyAdjacent gpAlreadyAdjacent gaAlreadyAdjacent gcAlreadyAdjacent gtAlreadyAdjacent), gsAlreadyAdjacent⟩)
    (uAlreadyAdjacenti : PySem.W.codeIn K gcAlreadyAdjacent "AlreadyAdjacent.__init__" = true) (uAlreadyAdjacentj : PySem.W.keepIn K (.ref gAlreadyAdjacent) = true) (uAlreadyAdjacentk : PySem.W.keepIn K (.ref CAlreadyAdjacent) = true) (uAlreadyAdjacentl : PySem.W.typeIn K (.ref CAlreadyAdjacent) = some (.type "type")) (uAlreadyAdjacentm : PySem.W.hasDictIn K CAlreadyAdjacent = true)
    (uAlreadyAdjacentn : PySem.W.findIn K (.ref CAlreadyAdjacent) "__class__" = some (some (.builtin "object.__class__"))) (uAlreadyAdjacento : PySem.W.findIn K (.ref CAlreadyAdjacent) "room" = some none)
    (uAlreadyAdjacentp : PySem.W.specialIn K (.builtin "object.__class__") "__get__" = some (some (.builtin "getset_descriptor.__get__"))) (uAlreadyAdjacentq : PySem.W.takesIn K (.builtin "object.__class__") = some true)
    {CWouldFormCycle gWouldFormCycle NWouldFormCycle : Addr} {nmWouldFormCycle qnWouldFormCycle : Str} {bsWouldFormCycle subWouldFormCycle : List Value} {snWouldFormCycle : List Str} {abWouldFormCycle : Bool} {colWouldFormCycle : Option Bool} {ddWouldFormCycle : Option Addr} {pWouldFormCycle qWouldFormCycle rWouldFormCycle sWouldFormCycle tWouldFormCycle : Option Value} {gdWouldFormCycle gaWouldFormCycle : Option Addr} {gsWouldFormCycle : Array (Option Value)} {goWouldFormCycle gkWouldFormCycle gvWouldFormCycle gpWouldFormCycle gcWouldFormCycle gtWouldFormCycle : Value}
    (uWouldFormCyclea : PySem.W.nsIn K mainGlobals "WouldFormCycle" = some (some (.ref CWouldFormCycle)))
    (uWouldFormCycleb : K.lookup CWouldFormCycle = some (excClassObj nmWouldFormCycle qnWouldFormCycle CWouldFormCycle NWouldFormCycle bsWouldFormCycle (above EE) true snWouldFormCycle subWouldFormCycle abWouldFormCycle colWouldFormCycle ddWouldFormCycle pWouldFormCycle qWouldFormCycle rWouldFormCycle sWouldFormCycle tWouldFormCycle "ValueError.__new__"))
    (uWouldFormCyclec : PySem.W.findIn K (.ref CWouldFormCycle) "__setattr__" = some (some (.builtin "object.__setattr__"))) (uWouldFormCycled : PySem.W.findIn K (.ref CWouldFormCycle) "__getattribute__" = some (some (.builtin "BaseException.__getattribute__"))) (uWouldFormCyclee : PySem.W.findIn K (.ref CWouldFormCycle) "__getattr__" = some none)
    (uWouldFormCyclef : PySem.W.findIn K (.ref CWouldFormCycle) "__init__" = some (some (.ref gWouldFormCycle))) (uWouldFormCycleg : PySem.W.typeIn K (.ref gWouldFormCycle) = some (.type "function"))
    (uWouldFormCycleh : K.lookup gWouldFormCycle = some ⟨goWouldFormCycle, gdWouldFormCycle, .func (PySem.W.fnOf "__init__" "WouldFormCycle.__init__" (defArgs iWouldFormCycle) (defBody iWouldFormCycle) (defScope iWouldFormCycle) .none gkWouldFormCycle gvWouldFormCycle gpWouldFormCycle gaWouldFormCycle gcWouldFormCycle gtWouldFormCycle), gsWouldFormCycle⟩)
    (uWouldFormCyclei : PySem.W.codeIn K gcWouldFormCycle "WouldFormCycle.__init__" = true) (uWouldFormCyclej : PySem.W.keepIn K (.ref gWouldFormCycle) = true) (uWouldFormCyclek : PySem.W.keepIn K (.ref CWouldFormCycle) = true) (uWouldFormCyclel : PySem.W.typeIn K (.ref CWouldFormCycle) = some (.type "type")) (uWouldFormCyclem : PySem.W.hasDictIn K CWouldFormCycle = true)
    (uWouldFormCyclen : PySem.W.findIn K (.ref CWouldFormCycle) "__class__" = some (some (.builtin "object.__class__"))) (uWouldFormCycleo : PySem.W.findIn K (.ref CWouldFormCycle) "room" = some none)
    (uWouldFormCyclep : PySem.W.specialIn K (.builtin "object.__class__") "__get__" = some (some (.builtin "getset_descriptor.__get__"))) (uWouldFormCycleq : PySem.W.takesIn K (.builtin "object.__class__") = some true)
    {CBatchFailed gBatchFailed NBatchFailed : Addr} {nmBatchFailed qnBatchFailed : Str} {bsBatchFailed subBatchFailed : List Value} {snBatchFailed : List Str} {abBatchFailed : Bool} {colBatchFailed : Option Bool} {ddBatchFailed : Option Addr} {pBatchFailed qBatchFailed rBatchFailed sBatchFailed tBatchFailed : Option Value} {gdBatchFailed gaBatchFailed : Option Addr} {gsBatchFailed : Array (Option Value)} {goBatchFailed gkBatchFailed gvBatchFailed gpBatchFailed gcBatchFailed gtBatchFailed : Value}
    (uBatchFaileda : PySem.W.nsIn K mainGlobals "BatchFailed" = some (some (.ref CBatchFailed)))
    (uBatchFailedb : K.lookup CBatchFailed = some (excClassObj nmBatchFailed qnBatchFailed CBatchFailed NBatchFailed bsBatchFailed (above EE) true snBatchFailed subBatchFailed abBatchFailed colBatchFailed ddBatchFailed pBatchFailed qBatchFailed rBatchFailed sBatchFailed tBatchFailed "ValueError.__new__"))
    (uBatchFailedc : PySem.W.findIn K (.ref CBatchFailed) "__setattr__" = some (some (.builtin "object.__setattr__"))) (uBatchFailedd : PySem.W.findIn K (.ref CBatchFailed) "__getattribute__" = some (some (.builtin "BaseException.__getattribute__"))) (uBatchFailede : PySem.W.findIn K (.ref CBatchFailed) "__getattr__" = some none)
    (uBatchFailedf : PySem.W.findIn K (.ref CBatchFailed) "__init__" = some (some (.ref gBatchFailed))) (uBatchFailedg : PySem.W.typeIn K (.ref gBatchFailed) = some (.type "function"))
    (uBatchFailedh : K.lookup gBatchFailed = some ⟨goBatchFailed, gdBatchFailed, .func (PySem.W.fnOf "__init__" "BatchFailed.__init__" (defArgs iBatchFailed) (defBody iBatchFailed) (defScope iBatchFailed) .none gkBatchFailed gvBatchFailed gpBatchFailed gaBatchFailed gcBatchFailed gtBatchFailed), gsBatchFailed⟩)
    (uBatchFailedi : PySem.W.codeIn K gcBatchFailed "BatchFailed.__init__" = true) (uBatchFailedj : PySem.W.keepIn K (.ref gBatchFailed) = true) (uBatchFailedk : PySem.W.keepIn K (.ref CBatchFailed) = true) (uBatchFailedl : PySem.W.typeIn K (.ref CBatchFailed) = some (.type "type")) (uBatchFailedm : PySem.W.hasDictIn K CBatchFailed = true)
    (uBatchFailedn : PySem.W.findIn K (.ref CBatchFailed) "__class__" = some (some (.builtin "object.__class__"))) (uBatchFailedo : PySem.W.findIn K (.ref CBatchFailed) "position" = some none)
    (uBatchFailedp : PySem.W.specialIn K (.builtin "object.__class__") "__get__" = some (some (.builtin "getset_descriptor.__get__"))) (uBatchFailedq : PySem.W.takesIn K (.builtin "object.__class__") = some true)
    {CInvalidMoment gInvalidMoment NInvalidMoment : Addr} {nmInvalidMoment qnInvalidMoment : Str} {bsInvalidMoment subInvalidMoment : List Value} {snInvalidMoment : List Str} {abInvalidMoment : Bool} {colInvalidMoment : Option Bool} {ddInvalidMoment : Option Addr} {pInvalidMoment qInvalidMoment rInvalidMoment sInvalidMoment tInvalidMoment : Option Value} {gdInvalidMoment gaInvalidMoment : Option Addr} {gsInvalidMoment : Array (Option Value)} {goInvalidMoment gkInvalidMoment gvInvalidMoment gpInvalidMoment gcInvalidMoment gtInvalidMoment : Value}
    (uInvalidMomenta : PySem.W.nsIn K mainGlobals "InvalidMoment" = some (some (.ref CInvalidMoment)))
    (uInvalidMomentb : K.lookup CInvalidMoment = some (excClassObj nmInvalidMoment qnInvalidMoment CInvalidMoment NInvalidMoment bsInvalidMoment (above EE) true snInvalidMoment subInvalidMoment abInvalidMoment colInvalidMoment ddInvalidMoment pInvalidMoment qInvalidMoment rInvalidMoment sInvalidMoment tInvalidMoment "ValueError.__new__"))
    (uInvalidMomentc : PySem.W.findIn K (.ref CInvalidMoment) "__setattr__" = some (some (.builtin "object.__setattr__"))) (uInvalidMomentd : PySem.W.findIn K (.ref CInvalidMoment) "__getattribute__" = some (some (.builtin "BaseException.__getattribute__"))) (uInvalidMomente : PySem.W.findIn K (.ref CInvalidMoment) "__getattr__" = some none)
    (uInvalidMomentf : PySem.W.findIn K (.ref CInvalidMoment) "__init__" = some (some (.ref gInvalidMoment))) (uInvalidMomentg : PySem.W.typeIn K (.ref gInvalidMoment) = some (.type "function"))
    (uInvalidMomenth : K.lookup gInvalidMoment = some ⟨goInvalidMoment, gdInvalidMoment, .func (PySem.W.fnOf "__init__" "InvalidMoment.__init__" (defArgs iInvalidMoment) (defBody iInvalidMoment) (defScope iInvalidMoment) .none gkInvalidMoment gvInvalidMoment gpInvalidMoment gaInvalidMoment gcInvalidMoment gtInvalidMoment), gsInvalidMoment⟩)
    (uInvalidMomenti : PySem.W.codeIn K gcInvalidMoment "InvalidMoment.__init__" = true) (uInvalidMomentj : PySem.W.keepIn K (.ref gInvalidMoment) = true) (uInvalidMomentk : PySem.W.keepIn K (.ref CInvalidMoment) = true) (uInvalidMomentl : PySem.W.typeIn K (.ref CInvalidMoment) = some (.type "type")) (uInvalidMomentm : PySem.W.hasDictIn K CInvalidMoment = true)
    (uInvalidMomentn : PySem.W.findIn K (.ref CInvalidMoment) "__class__" = some (some (.builtin "object.__class__"))) (uInvalidMomento : PySem.W.findIn K (.ref CInvalidMoment) "position" = some none)
    (uInvalidMomentp : PySem.W.specialIn K (.builtin "object.__class__") "__get__" = some (some (.builtin "getset_descriptor.__get__"))) (uInvalidMomentq : PySem.W.takesIn K (.builtin "object.__class__") = some true)
    {CInvalidText gInvalidText NInvalidText : Addr} {nmInvalidText qnInvalidText : Str} {bsInvalidText subInvalidText : List Value} {snInvalidText : List Str} {abInvalidText : Bool} {colInvalidText : Option Bool} {ddInvalidText : Option Addr} {pInvalidText qInvalidText rInvalidText sInvalidText tInvalidText : Option Value} {gdInvalidText gaInvalidText : Option Addr} {gsInvalidText : Array (Option Value)} {goInvalidText gkInvalidText gvInvalidText gpInvalidText gcInvalidText gtInvalidText : Value}
    (uInvalidTexta : PySem.W.nsIn K mainGlobals "InvalidText" = some (some (.ref CInvalidText)))
    (uInvalidTextb : K.lookup CInvalidText = some (excClassObj nmInvalidText qnInvalidText CInvalidText NInvalidText bsInvalidText (above EE) true snInvalidText subInvalidText abInvalidText colInvalidText ddInvalidText pInvalidText qInvalidText rInvalidText sInvalidText tInvalidText "ValueError.__new__"))
    (uInvalidTextc : PySem.W.findIn K (.ref CInvalidText) "__setattr__" = some (some (.builtin "object.__setattr__"))) (uInvalidTextd : PySem.W.findIn K (.ref CInvalidText) "__getattribute__" = some (some (.builtin "BaseException.__getattribute__"))) (uInvalidTexte : PySem.W.findIn K (.ref CInvalidText) "__getattr__" = some none)
    (uInvalidTextf : PySem.W.findIn K (.ref CInvalidText) "__init__" = some (some (.ref gInvalidText))) (uInvalidTextg : PySem.W.typeIn K (.ref gInvalidText) = some (.type "function"))
    (uInvalidTexth : K.lookup gInvalidText = some ⟨goInvalidText, gdInvalidText, .func (PySem.W.fnOf "__init__" "InvalidText.__init__" (defArgs iInvalidText) (defBody iInvalidText) (defScope iInvalidText) .none gkInvalidText gvInvalidText gpInvalidText gaInvalidText gcInvalidText gtInvalidText), gsInvalidText⟩)
    (uInvalidTexti : PySem.W.codeIn K gcInvalidText "InvalidText.__init__" = true) (uInvalidTextj : PySem.W.keepIn K (.ref gInvalidText) = true) (uInvalidTextk : PySem.W.keepIn K (.ref CInvalidText) = true) (uInvalidTextl : PySem.W.typeIn K (.ref CInvalidText) = some (.type "type")) (uInvalidTextm : PySem.W.hasDictIn K CInvalidText = true)
    (uInvalidTextn : PySem.W.findIn K (.ref CInvalidText) "__class__" = some (some (.builtin "object.__class__"))) (uInvalidTexto : PySem.W.findIn K (.ref CInvalidText) "position" = some none)
    (uInvalidTextp : PySem.W.specialIn K (.builtin "object.__class__") "__get__" = some (some (.builtin "getset_descriptor.__get__"))) (uInvalidTextq : PySem.W.takesIn K (.builtin "object.__class__") = some true)
    {CNothingToUndo gNothingToUndo NNothingToUndo : Addr} {nmNothingToUndo qnNothingToUndo : Str} {bsNothingToUndo subNothingToUndo : List Value} {snNothingToUndo : List Str} {abNothingToUndo : Bool} {colNothingToUndo : Option Bool} {ddNothingToUndo : Option Addr} {pNothingToUndo qNothingToUndo rNothingToUndo sNothingToUndo tNothingToUndo : Option Value} {gdNothingToUndo gaNothingToUndo : Option Addr} {gsNothingToUndo : Array (Option Value)} {goNothingToUndo gkNothingToUndo gvNothingToUndo gpNothingToUndo gcNothingToUndo gtNothingToUndo : Value}
    (uNothingToUndoa : PySem.W.nsIn K mainGlobals "NothingToUndo" = some (some (.ref CNothingToUndo)))
    (uNothingToUndob : K.lookup CNothingToUndo = some (excClassObj nmNothingToUndo qnNothingToUndo CNothingToUndo NNothingToUndo bsNothingToUndo (above EE) true snNothingToUndo subNothingToUndo abNothingToUndo colNothingToUndo ddNothingToUndo pNothingToUndo qNothingToUndo rNothingToUndo sNothingToUndo tNothingToUndo "ValueError.__new__"))
    (uNothingToUndoc : PySem.W.findIn K (.ref CNothingToUndo) "__setattr__" = some (some (.builtin "object.__setattr__"))) (uNothingToUndod : PySem.W.findIn K (.ref CNothingToUndo) "__getattribute__" = some (some (.builtin "BaseException.__getattribute__"))) (uNothingToUndoe : PySem.W.findIn K (.ref CNothingToUndo) "__getattr__" = some none)
    (uNothingToUndof : PySem.W.findIn K (.ref CNothingToUndo) "__init__" = some (some (.ref gNothingToUndo))) (uNothingToUndog : PySem.W.typeIn K (.ref gNothingToUndo) = some (.type "function"))
    (uNothingToUndoh : K.lookup gNothingToUndo = some ⟨goNothingToUndo, gdNothingToUndo, .func (PySem.W.fnOf "__init__" "NothingToUndo.__init__" (defArgs iNothingToUndo) (defBody iNothingToUndo) (defScope iNothingToUndo) .none gkNothingToUndo gvNothingToUndo gpNothingToUndo gaNothingToUndo gcNothingToUndo gtNothingToUndo), gsNothingToUndo⟩)
    (uNothingToUndoi : PySem.W.codeIn K gcNothingToUndo "NothingToUndo.__init__" = true) (uNothingToUndoj : PySem.W.keepIn K (.ref gNothingToUndo) = true) (uNothingToUndok : PySem.W.keepIn K (.ref CNothingToUndo) = true) (uNothingToUndol : PySem.W.typeIn K (.ref CNothingToUndo) = some (.type "type")) (uNothingToUndom : PySem.W.hasDictIn K CNothingToUndo = true)
    (uNothingToUndon : PySem.W.findIn K (.ref CNothingToUndo) "__class__" = some (some (.builtin "object.__class__")))
    (uNothingToUndop : PySem.W.specialIn K (.builtin "object.__class__") "__get__" = some (some (.builtin "getset_descriptor.__get__"))) (uNothingToUndoq : PySem.W.takesIn K (.builtin "object.__class__") = some true)
    {CHistoryFull gHistoryFull NHistoryFull : Addr} {nmHistoryFull qnHistoryFull : Str} {bsHistoryFull subHistoryFull : List Value} {snHistoryFull : List Str} {abHistoryFull : Bool} {colHistoryFull : Option Bool} {ddHistoryFull : Option Addr} {pHistoryFull qHistoryFull rHistoryFull sHistoryFull tHistoryFull : Option Value} {gdHistoryFull gaHistoryFull : Option Addr} {gsHistoryFull : Array (Option Value)} {goHistoryFull gkHistoryFull gvHistoryFull gpHistoryFull gcHistoryFull gtHistoryFull : Value}
    (uHistoryFulla : PySem.W.nsIn K mainGlobals "HistoryFull" = some (some (.ref CHistoryFull)))
    (uHistoryFullb : K.lookup CHistoryFull = some (excClassObj nmHistoryFull qnHistoryFull CHistoryFull NHistoryFull bsHistoryFull (above EE) true snHistoryFull subHistoryFull abHistoryFull colHistoryFull ddHistoryFull pHistoryFull qHistoryFull rHistoryFull sHistoryFull tHistoryFull "ValueError.__new__"))
    (uHistoryFullc : PySem.W.findIn K (.ref CHistoryFull) "__setattr__" = some (some (.builtin "object.__setattr__"))) (uHistoryFulld : PySem.W.findIn K (.ref CHistoryFull) "__getattribute__" = some (some (.builtin "BaseException.__getattribute__"))) (uHistoryFulle : PySem.W.findIn K (.ref CHistoryFull) "__getattr__" = some none)
    (uHistoryFullf : PySem.W.findIn K (.ref CHistoryFull) "__init__" = some (some (.ref gHistoryFull))) (uHistoryFullg : PySem.W.typeIn K (.ref gHistoryFull) = some (.type "function"))
    (uHistoryFullh : K.lookup gHistoryFull = some ⟨goHistoryFull, gdHistoryFull, .func (PySem.W.fnOf "__init__" "HistoryFull.__init__" (defArgs iHistoryFull) (defBody iHistoryFull) (defScope iHistoryFull) .none gkHistoryFull gvHistoryFull gpHistoryFull gaHistoryFull gcHistoryFull gtHistoryFull), gsHistoryFull⟩)
    (uHistoryFulli : PySem.W.codeIn K gcHistoryFull "HistoryFull.__init__" = true) (uHistoryFullj : PySem.W.keepIn K (.ref gHistoryFull) = true) (uHistoryFullk : PySem.W.keepIn K (.ref CHistoryFull) = true) (uHistoryFulll : PySem.W.typeIn K (.ref CHistoryFull) = some (.type "type")) (uHistoryFullm : PySem.W.hasDictIn K CHistoryFull = true)
    (uHistoryFulln : PySem.W.findIn K (.ref CHistoryFull) "__class__" = some (some (.builtin "object.__class__")))
    (uHistoryFullp : PySem.W.specialIn K (.builtin "object.__class__") "__get__" = some (some (.builtin "getset_descriptor.__get__"))) (uHistoryFullq : PySem.W.takesIn K (.builtin "object.__class__") = some true)
    {CSessionBusy gSessionBusy NSessionBusy : Addr} {nmSessionBusy qnSessionBusy : Str} {bsSessionBusy subSessionBusy : List Value} {snSessionBusy : List Str} {abSessionBusy : Bool} {colSessionBusy : Option Bool} {ddSessionBusy : Option Addr} {pSessionBusy qSessionBusy rSessionBusy sSessionBusy tSessionBusy : Option Value} {gdSessionBusy gaSessionBusy : Option Addr} {gsSessionBusy : Array (Option Value)} {goSessionBusy gkSessionBusy gvSessionBusy gpSessionBusy gcSessionBusy gtSessionBusy : Value}
    (uSessionBusya : PySem.W.nsIn K mainGlobals "SessionBusy" = some (some (.ref CSessionBusy)))
    (uSessionBusyb : K.lookup CSessionBusy = some (excClassObj nmSessionBusy qnSessionBusy CSessionBusy NSessionBusy bsSessionBusy (above EE) true snSessionBusy subSessionBusy abSessionBusy colSessionBusy ddSessionBusy pSessionBusy qSessionBusy rSessionBusy sSessionBusy tSessionBusy "ValueError.__new__"))
    (uSessionBusyc : PySem.W.findIn K (.ref CSessionBusy) "__setattr__" = some (some (.builtin "object.__setattr__"))) (uSessionBusyd : PySem.W.findIn K (.ref CSessionBusy) "__getattribute__" = some (some (.builtin "BaseException.__getattribute__"))) (uSessionBusye : PySem.W.findIn K (.ref CSessionBusy) "__getattr__" = some none)
    (uSessionBusyf : PySem.W.findIn K (.ref CSessionBusy) "__init__" = some (some (.ref gSessionBusy))) (uSessionBusyg : PySem.W.typeIn K (.ref gSessionBusy) = some (.type "function"))
    (uSessionBusyh : K.lookup gSessionBusy = some ⟨goSessionBusy, gdSessionBusy, .func (PySem.W.fnOf "__init__" "SessionBusy.__init__" (defArgs iSessionBusy) (defBody iSessionBusy) (defScope iSessionBusy) .none gkSessionBusy gvSessionBusy gpSessionBusy gaSessionBusy gcSessionBusy gtSessionBusy), gsSessionBusy⟩)
    (uSessionBusyi : PySem.W.codeIn K gcSessionBusy "SessionBusy.__init__" = true) (uSessionBusyj : PySem.W.keepIn K (.ref gSessionBusy) = true) (uSessionBusyk : PySem.W.keepIn K (.ref CSessionBusy) = true) (uSessionBusyl : PySem.W.typeIn K (.ref CSessionBusy) = some (.type "type")) (uSessionBusym : PySem.W.hasDictIn K CSessionBusy = true)
    (uSessionBusyn : PySem.W.findIn K (.ref CSessionBusy) "__class__" = some (some (.builtin "object.__class__")))
    (uSessionBusyp : PySem.W.specialIn K (.builtin "object.__class__") "__get__" = some (some (.builtin "getset_descriptor.__get__"))) (uSessionBusyq : PySem.W.takesIn K (.builtin "object.__class__") = some true)
    {CInvalidActions gInvalidActions NInvalidActions : Addr} {nmInvalidActions qnInvalidActions : Str} {bsInvalidActions subInvalidActions : List Value} {snInvalidActions : List Str} {abInvalidActions : Bool} {colInvalidActions : Option Bool} {ddInvalidActions : Option Addr} {pInvalidActions qInvalidActions rInvalidActions sInvalidActions tInvalidActions : Option Value} {gdInvalidActions gaInvalidActions : Option Addr} {gsInvalidActions : Array (Option Value)} {goInvalidActions gkInvalidActions gvInvalidActions gpInvalidActions gcInvalidActions gtInvalidActions : Value}
    (uInvalidActionsa : PySem.W.nsIn K mainGlobals "InvalidActions" = some (some (.ref CInvalidActions)))
    (uInvalidActionsb : K.lookup CInvalidActions = some (excClassObj nmInvalidActions qnInvalidActions CInvalidActions NInvalidActions bsInvalidActions (above EE) true snInvalidActions subInvalidActions abInvalidActions colInvalidActions ddInvalidActions pInvalidActions qInvalidActions rInvalidActions sInvalidActions tInvalidActions "ValueError.__new__"))
    (uInvalidActionsc : PySem.W.findIn K (.ref CInvalidActions) "__setattr__" = some (some (.builtin "object.__setattr__"))) (uInvalidActionsd : PySem.W.findIn K (.ref CInvalidActions) "__getattribute__" = some (some (.builtin "BaseException.__getattribute__"))) (uInvalidActionse : PySem.W.findIn K (.ref CInvalidActions) "__getattr__" = some none)
    (uInvalidActionsf : PySem.W.findIn K (.ref CInvalidActions) "__init__" = some (some (.ref gInvalidActions))) (uInvalidActionsg : PySem.W.typeIn K (.ref gInvalidActions) = some (.type "function"))
    (uInvalidActionsh : K.lookup gInvalidActions = some ⟨goInvalidActions, gdInvalidActions, .func (PySem.W.fnOf "__init__" "InvalidActions.__init__" (defArgs iInvalidActions) (defBody iInvalidActions) (defScope iInvalidActions) .none gkInvalidActions gvInvalidActions gpInvalidActions gaInvalidActions gcInvalidActions gtInvalidActions), gsInvalidActions⟩)
    (uInvalidActionsi : PySem.W.codeIn K gcInvalidActions "InvalidActions.__init__" = true) (uInvalidActionsj : PySem.W.keepIn K (.ref gInvalidActions) = true) (uInvalidActionsk : PySem.W.keepIn K (.ref CInvalidActions) = true) (uInvalidActionsl : PySem.W.typeIn K (.ref CInvalidActions) = some (.type "type")) (uInvalidActionsm : PySem.W.hasDictIn K CInvalidActions = true)
    (uInvalidActionsn : PySem.W.findIn K (.ref CInvalidActions) "__class__" = some (some (.builtin "object.__class__")))
    (uInvalidActionsp : PySem.W.specialIn K (.builtin "object.__class__") "__get__" = some (some (.builtin "getset_descriptor.__get__"))) (uInvalidActionsq : PySem.W.takesIn K (.builtin "object.__class__") = some true)
    {CInvalidHouse gInvalidHouse NInvalidHouse : Addr} {nmInvalidHouse qnInvalidHouse : Str} {bsInvalidHouse subInvalidHouse : List Value} {snInvalidHouse : List Str} {abInvalidHouse : Bool} {colInvalidHouse : Option Bool} {ddInvalidHouse : Option Addr} {pInvalidHouse qInvalidHouse rInvalidHouse sInvalidHouse tInvalidHouse : Option Value} {gdInvalidHouse gaInvalidHouse : Option Addr} {gsInvalidHouse : Array (Option Value)} {goInvalidHouse gkInvalidHouse gvInvalidHouse gpInvalidHouse gcInvalidHouse gtInvalidHouse : Value}
    (uInvalidHousea : PySem.W.nsIn K mainGlobals "InvalidHouse" = some (some (.ref CInvalidHouse)))
    (uInvalidHouseb : K.lookup CInvalidHouse = some (excClassObj nmInvalidHouse qnInvalidHouse CInvalidHouse NInvalidHouse bsInvalidHouse (above EE) true snInvalidHouse subInvalidHouse abInvalidHouse colInvalidHouse ddInvalidHouse pInvalidHouse qInvalidHouse rInvalidHouse sInvalidHouse tInvalidHouse "ValueError.__new__"))
    (uInvalidHousec : PySem.W.findIn K (.ref CInvalidHouse) "__setattr__" = some (some (.builtin "object.__setattr__"))) (uInvalidHoused : PySem.W.findIn K (.ref CInvalidHouse) "__getattribute__" = some (some (.builtin "BaseException.__getattribute__"))) (uInvalidHousee : PySem.W.findIn K (.ref CInvalidHouse) "__getattr__" = some none)
    (uInvalidHousef : PySem.W.findIn K (.ref CInvalidHouse) "__init__" = some (some (.ref gInvalidHouse))) (uInvalidHouseg : PySem.W.typeIn K (.ref gInvalidHouse) = some (.type "function"))
    (uInvalidHouseh : K.lookup gInvalidHouse = some ⟨goInvalidHouse, gdInvalidHouse, .func (PySem.W.fnOf "__init__" "InvalidHouse.__init__" (defArgs iInvalidHouse) (defBody iInvalidHouse) (defScope iInvalidHouse) .none gkInvalidHouse gvInvalidHouse gpInvalidHouse gaInvalidHouse gcInvalidHouse gtInvalidHouse), gsInvalidHouse⟩)
    (uInvalidHousei : PySem.W.codeIn K gcInvalidHouse "InvalidHouse.__init__" = true) (uInvalidHousej : PySem.W.keepIn K (.ref gInvalidHouse) = true) (uInvalidHousek : PySem.W.keepIn K (.ref CInvalidHouse) = true) (uInvalidHousel : PySem.W.typeIn K (.ref CInvalidHouse) = some (.type "type")) (uInvalidHousem : PySem.W.hasDictIn K CInvalidHouse = true)
    (uInvalidHousen : PySem.W.findIn K (.ref CInvalidHouse) "__class__" = some (some (.builtin "object.__class__")))
    (uInvalidHousep : PySem.W.specialIn K (.builtin "object.__class__") "__get__" = some (some (.builtin "getset_descriptor.__get__"))) (uInvalidHouseq : PySem.W.takesIn K (.builtin "object.__class__") = some true)
    {CInvalidPlacement gInvalidPlacement NInvalidPlacement : Addr} {nmInvalidPlacement qnInvalidPlacement : Str} {bsInvalidPlacement subInvalidPlacement : List Value} {snInvalidPlacement : List Str} {abInvalidPlacement : Bool} {colInvalidPlacement : Option Bool} {ddInvalidPlacement : Option Addr} {pInvalidPlacement qInvalidPlacement rInvalidPlacement sInvalidPlacement tInvalidPlacement : Option Value} {gdInvalidPlacement gaInvalidPlacement : Option Addr} {gsInvalidPlacement : Array (Option Value)} {goInvalidPlacement gkInvalidPlacement gvInvalidPlacement gpInvalidPlacement gcInvalidPlacement gtInvalidPlacement : Value}
    (uInvalidPlacementa : PySem.W.nsIn K mainGlobals "InvalidPlacement" = some (some (.ref CInvalidPlacement)))
    (uInvalidPlacementb : K.lookup CInvalidPlacement = some (excClassObj nmInvalidPlacement qnInvalidPlacement CInvalidPlacement NInvalidPlacement bsInvalidPlacement (above EE) true snInvalidPlacement subInvalidPlacement abInvalidPlacement colInvalidPlacement ddInvalidPlacement pInvalidPlacement qInvalidPlacement rInvalidPlacement sInvalidPlacement tInvalidPlacement "ValueError.__new__"))
    (uInvalidPlacementc : PySem.W.findIn K (.ref CInvalidPlacement) "__setattr__" = some (some (.builtin "object.__setattr__"))) (uInvalidPlacementd : PySem.W.findIn K (.ref CInvalidPlacement) "__getattribute__" = some (some (.builtin "BaseException.__getattribute__"))) (uInvalidPlacemente : PySem.W.findIn K (.ref CInvalidPlacement) "__getattr__" = some none)
    (uInvalidPlacementf : PySem.W.findIn K (.ref CInvalidPlacement) "__init__" = some (some (.ref gInvalidPlacement))) (uInvalidPlacementg : PySem.W.typeIn K (.ref gInvalidPlacement) = some (.type "function"))
    (uInvalidPlacementh : K.lookup gInvalidPlacement = some ⟨goInvalidPlacement, gdInvalidPlacement, .func (PySem.W.fnOf "__init__" "InvalidPlacement.__init__" (defArgs iInvalidPlacement) (defBody iInvalidPlacement) (defScope iInvalidPlacement) .none gkInvalidPlacement gvInvalidPlacement gpInvalidPlacement gaInvalidPlacement gcInvalidPlacement gtInvalidPlacement), gsInvalidPlacement⟩)
    (uInvalidPlacementi : PySem.W.codeIn K gcInvalidPlacement "InvalidPlacement.__init__" = true) (uInvalidPlacementj : PySem.W.keepIn K (.ref gInvalidPlacement) = true) (uInvalidPlacementk : PySem.W.keepIn K (.ref CInvalidPlacement) = true) (uInvalidPlacementl : PySem.W.typeIn K (.ref CInvalidPlacement) = some (.type "type")) (uInvalidPlacementm : PySem.W.hasDictIn K CInvalidPlacement = true)
    (uInvalidPlacementn : PySem.W.findIn K (.ref CInvalidPlacement) "__class__" = some (some (.builtin "object.__class__")))
    (uInvalidPlacementp : PySem.W.specialIn K (.builtin "object.__class__") "__get__" = some (some (.builtin "getset_descriptor.__get__"))) (uInvalidPlacementq : PySem.W.takesIn K (.builtin "object.__class__") = some true)
    {f1 : Addr} {od1 an1 : Option Addr} {sl1 : Array (Option Value)} {oc1 kV1 dc1 pm1 cd1 ct1 : Value}
    (a1 : PySem.W.nsIn K mainGlobals "neighbors" = some (some (.ref f1)))
    (l1 : K.lookup f1 = some ⟨oc1, od1, .func (PySem.W.fnOf "neighbors" "neighbors" (defArgs sNb) (defBody sNb) (defScope sNb) .none kV1 dc1 pm1 an1 cd1 ct1), sl1⟩)
    (c1 : PySem.W.codeIn K cd1 "neighbors" = true) (k1 : PySem.W.keepIn K (.ref f1) = true)
    {f2 : Addr} {od2 an2 : Option Addr} {sl2 : Array (Option Value)} {oc2 kV2 dc2 pm2 cd2 ct2 : Value}
    (a2 : PySem.W.nsIn K mainGlobals "path_between" = some (some (.ref f2)))
    (l2 : K.lookup f2 = some ⟨oc2, od2, .func (PySem.W.fnOf "path_between" "path_between" (defArgs sPath) (defBody sPath) (defScope sPath) .none kV2 dc2 pm2 an2 cd2 ct2), sl2⟩)
    (c2 : PySem.W.codeIn K cd2 "path_between" = true) (k2 : PySem.W.keepIn K (.ref f2) = true)
    {f3 : Addr} {od3 an3 : Option Addr} {sl3 : Array (Option Value)} {oc3 kV3 dc3 pm3 cd3 ct3 : Value}
    (a3 : PySem.W.nsIn K mainGlobals "components" = some (some (.ref f3)))
    (l3 : K.lookup f3 = some ⟨oc3, od3, .func (PySem.W.fnOf "components" "components" (defArgs sComp) (defBody sComp) (defScope sComp) .none kV3 dc3 pm3 an3 cd3 ct3), sl3⟩)
    (c3 : PySem.W.codeIn K cd3 "components" = true) (k3 : PySem.W.keepIn K (.ref f3) = true)
    {f4 : Addr} {od4 an4 : Option Addr} {sl4 : Array (Option Value)} {oc4 kV4 dc4 pm4 cd4 ct4 : Value}
    (a4 : PySem.W.nsIn K mainGlobals "steps_toward" = some (some (.ref f4)))
    (l4 : K.lookup f4 = some ⟨oc4, od4, .func (PySem.W.fnOf "steps_toward" "steps_toward" (defArgs sSteps) (defBody sSteps) (defScope sSteps) .none kV4 dc4 pm4 an4 cd4 ct4), sl4⟩)
    (c4 : PySem.W.codeIn K cd4 "steps_toward" = true) (k4 : PySem.W.keepIn K (.ref f4) = true)
    {f5 : Addr} {od5 an5 : Option Addr} {sl5 : Array (Option Value)} {oc5 kV5 dc5 pm5 cd5 ct5 : Value}
    (a5 : PySem.W.nsIn K mainGlobals "room_of" = some (some (.ref f5)))
    (l5 : K.lookup f5 = some ⟨oc5, od5, .func (PySem.W.fnOf "room_of" "room_of" (defArgs sRoomOf) (defBody sRoomOf) (defScope sRoomOf) .none kV5 dc5 pm5 an5 cd5 ct5), sl5⟩)
    (c5 : PySem.W.codeIn K cd5 "room_of" = true) (k5 : PySem.W.keepIn K (.ref f5) = true)
    {f6 : Addr} {od6 an6 : Option Addr} {sl6 : Array (Option Value)} {oc6 kV6 dc6 pm6 cd6 ct6 : Value}
    (a6 : PySem.W.nsIn K mainGlobals "people_in" = some (some (.ref f6)))
    (l6 : K.lookup f6 = some ⟨oc6, od6, .func (PySem.W.fnOf "people_in" "people_in" (defArgs sPIn) (defBody sPIn) (defScope sPIn) .none kV6 dc6 pm6 an6 cd6 ct6), sl6⟩)
    (c6 : PySem.W.codeIn K cd6 "people_in" = true) (k6 : PySem.W.keepIn K (.ref f6) = true)
    {f7 : Addr} {od7 an7 : Option Addr} {sl7 : Array (Option Value)} {oc7 kV7 dc7 pm7 cd7 ct7 : Value}
    (a7 : PySem.W.nsIn K mainGlobals "people_within" = some (some (.ref f7)))
    (l7 : K.lookup f7 = some ⟨oc7, od7, .func (PySem.W.fnOf "people_within" "people_within" (defArgs sPWi) (defBody sPWi) (defScope sPWi) .none kV7 dc7 pm7 an7 cd7 ct7), sl7⟩)
    (c7 : PySem.W.codeIn K cd7 "people_within" = true) (k7 : PySem.W.keepIn K (.ref f7) = true)
    {f8 : Addr} {od8 an8 : Option Addr} {sl8 : Array (Option Value)} {oc8 kV8 dc8 pm8 cd8 ct8 : Value}
    (a8 : PySem.W.nsIn K mainGlobals "find_regions" = some (some (.ref f8)))
    (l8 : K.lookup f8 = some ⟨oc8, od8, .func (PySem.W.fnOf "find_regions" "find_regions" (defArgs sFReg) (defBody sFReg) (defScope sFReg) .none kV8 dc8 pm8 an8 cd8 ct8), sl8⟩)
    (c8 : PySem.W.codeIn K cd8 "find_regions" = true) (k8 : PySem.W.keepIn K (.ref f8) = true)
    {f9 : Addr} {od9 an9 : Option Addr} {sl9 : Array (Option Value)} {oc9 kV9 dc9 pm9 cd9 ct9 : Value}
    (a9 : PySem.W.nsIn K mainGlobals "region_of" = some (some (.ref f9)))
    (l9 : K.lookup f9 = some ⟨oc9, od9, .func (PySem.W.fnOf "region_of" "region_of" (defArgs sRegOf) (defBody sRegOf) (defScope sRegOf) .none kV9 dc9 pm9 an9 cd9 ct9), sl9⟩)
    (c9 : PySem.W.codeIn K cd9 "region_of" = true) (k9 : PySem.W.keepIn K (.ref f9) = true)
    {f10 : Addr} {od10 an10 : Option Addr} {sl10 : Array (Option Value)} {oc10 kV10 dc10 pm10 cd10 ct10 : Value}
    (a10 : PySem.W.nsIn K mainGlobals "surplus" = some (some (.ref f10)))
    (l10 : K.lookup f10 = some ⟨oc10, od10, .func (PySem.W.fnOf "surplus" "surplus" (defArgs sSurp) (defBody sSurp) (defScope sSurp) .none kV10 dc10 pm10 an10 cd10 ct10), sl10⟩)
    (c10 : PySem.W.codeIn K cd10 "surplus" = true) (k10 : PySem.W.keepIn K (.ref f10) = true)
    {f11 : Addr} {od11 an11 : Option Addr} {sl11 : Array (Option Value)} {oc11 kV11 dc11 pm11 cd11 ct11 : Value}
    (a11 : PySem.W.nsIn K mainGlobals "is_tight" = some (some (.ref f11)))
    (l11 : K.lookup f11 = some ⟨oc11, od11, .func (PySem.W.fnOf "is_tight" "is_tight" (defArgs sIsTight) (defBody sIsTight) (defScope sIsTight) .none kV11 dc11 pm11 an11 cd11 ct11), sl11⟩)
    (c11 : PySem.W.codeIn K cd11 "is_tight" = true) (k11 : PySem.W.keepIn K (.ref f11) = true)
    {f12 : Addr} {od12 an12 : Option Addr} {sl12 : Array (Option Value)} {oc12 kV12 dc12 pm12 cd12 ct12 : Value}
    (a12 : PySem.W.nsIn K mainGlobals "walk" = some (some (.ref f12)))
    (l12 : K.lookup f12 = some ⟨oc12, od12, .func (PySem.W.fnOf "walk" "walk" (defArgs sWalk) (defBody sWalk) (defScope sWalk) .none kV12 dc12 pm12 an12 cd12 ct12), sl12⟩)
    (c12 : PySem.W.codeIn K cd12 "walk" = true) (k12 : PySem.W.keepIn K (.ref f12) = true)
    {f13 : Addr} {od13 an13 : Option Addr} {sl13 : Array (Option Value)} {oc13 kV13 dc13 pm13 cd13 ct13 : Value}
    (a13 : PySem.W.nsIn K mainGlobals "sharing_people" = some (some (.ref f13)))
    (l13 : K.lookup f13 = some ⟨oc13, od13, .func (PySem.W.fnOf "sharing_people" "sharing_people" (defArgs sSharing) (defBody sSharing) (defScope sSharing) .none kV13 dc13 pm13 an13 cd13 ct13), sl13⟩)
    (c13 : PySem.W.codeIn K cd13 "sharing_people" = true) (k13 : PySem.W.keepIn K (.ref f13) = true)
    {f14 : Addr} {od14 an14 : Option Addr} {sl14 : Array (Option Value)} {oc14 kV14 dc14 pm14 cd14 ct14 : Value}
    (a14 : PySem.W.nsIn K mainGlobals "exchange" = some (some (.ref f14)))
    (l14 : K.lookup f14 = some ⟨oc14, od14, .func (PySem.W.fnOf "exchange" "exchange" (defArgs sExch) (defBody sExch) (defScope sExch) .none kV14 dc14 pm14 an14 cd14 ct14), sl14⟩)
    (c14 : PySem.W.codeIn K cd14 "exchange" = true) (k14 : PySem.W.keepIn K (.ref f14) = true)
    {f15 : Addr} {od15 an15 : Option Addr} {sl15 : Array (Option Value)} {oc15 kV15 dc15 pm15 cd15 ct15 : Value}
    (a15 : PySem.W.nsIn K mainGlobals "swap_people" = some (some (.ref f15)))
    (l15 : K.lookup f15 = some ⟨oc15, od15, .func (PySem.W.fnOf "swap_people" "swap_people" (defArgs sSwapP) (defBody sSwapP) (defScope sSwapP) .none kV15 dc15 pm15 an15 cd15 ct15), sl15⟩)
    (c15 : PySem.W.codeIn K cd15 "swap_people" = true) (k15 : PySem.W.keepIn K (.ref f15) = true)
    {f16 : Addr} {od16 an16 : Option Addr} {sl16 : Array (Option Value)} {oc16 kV16 dc16 pm16 cd16 ct16 : Value}
    (a16 : PySem.W.nsIn K mainGlobals "_law_stream" = some (some (.ref f16)))
    (l16 : K.lookup f16 = some ⟨oc16, od16, .func (PySem.W.fnOf "_law_stream" "_law_stream" (defArgs sStream) (defBody sStream) (defScope sStream) .none kV16 dc16 pm16 an16 cd16 ct16), sl16⟩)
    (c16 : PySem.W.codeIn K cd16 "_law_stream" = true) (k16 : PySem.W.keepIn K (.ref f16) = true)
    {f17 : Addr} {od17 an17 : Option Addr} {sl17 : Array (Option Value)} {oc17 kV17 dc17 pm17 cd17 ct17 : Value}
    (a17 : PySem.W.nsIn K mainGlobals "_law_names" = some (some (.ref f17)))
    (l17 : K.lookup f17 = some ⟨oc17, od17, .func (PySem.W.fnOf "_law_names" "_law_names" (defArgs sNames) (defBody sNames) (defScope sNames) .none kV17 dc17 pm17 an17 cd17 ct17), sl17⟩)
    (c17 : PySem.W.codeIn K cd17 "_law_names" = true) (k17 : PySem.W.keepIn K (.ref f17) = true)
    {f18 : Addr} {od18 an18 : Option Addr} {sl18 : Array (Option Value)} {oc18 kV18 dc18 pm18 cd18 ct18 : Value}
    (a18 : PySem.W.nsIn K mainGlobals "_law_draw" = some (some (.ref f18)))
    (l18 : K.lookup f18 = some ⟨oc18, od18, .func (PySem.W.fnOf "_law_draw" "_law_draw" (defArgs sDraw) (defBody sDraw) (defScope sDraw) .none kV18 dc18 pm18 an18 cd18 ct18), sl18⟩)
    (c18 : PySem.W.codeIn K cd18 "_law_draw" = true) (k18 : PySem.W.keepIn K (.ref f18) = true)
    {f19 : Addr} {od19 an19 : Option Addr} {sl19 : Array (Option Value)} {oc19 kV19 dc19 pm19 cd19 ct19 : Value}
    (a19 : PySem.W.nsIn K mainGlobals "_law_house" = some (some (.ref f19)))
    (l19 : K.lookup f19 = some ⟨oc19, od19, .func (PySem.W.fnOf "_law_house" "_law_house" (defArgs sHouse) (defBody sHouse) (defScope sHouse) .none kV19 dc19 pm19 an19 cd19 ct19), sl19⟩)
    (c19 : PySem.W.codeIn K cd19 "_law_house" = true) (k19 : PySem.W.keepIn K (.ref f19) = true)
    {f20 : Addr} {od20 an20 : Option Addr} {sl20 : Array (Option Value)} {oc20 kV20 dc20 pm20 cd20 ct20 : Value}
    (a20 : PySem.W.nsIn K mainGlobals "_law_placement" = some (some (.ref f20)))
    (l20 : K.lookup f20 = some ⟨oc20, od20, .func (PySem.W.fnOf "_law_placement" "_law_placement" (defArgs sPl) (defBody sPl) (defScope sPl) .none kV20 dc20 pm20 an20 cd20 ct20), sl20⟩)
    (c20 : PySem.W.codeIn K cd20 "_law_placement" = true) (k20 : PySem.W.keepIn K (.ref f20) = true)
    {f21 : Addr} {od21 an21 : Option Addr} {sl21 : Array (Option Value)} {oc21 kV21 dc21 pm21 cd21 ct21 : Value}
    (a21 : PySem.W.nsIn K mainGlobals "_law_neighbors" = some (some (.ref f21)))
    (l21 : K.lookup f21 = some ⟨oc21, od21, .func (PySem.W.fnOf "_law_neighbors" "_law_neighbors" (defArgs sLNb) (defBody sLNb) (defScope sLNb) .none kV21 dc21 pm21 an21 cd21 ct21), sl21⟩)
    (c21 : PySem.W.codeIn K cd21 "_law_neighbors" = true) (k21 : PySem.W.keepIn K (.ref f21) = true)
    {f22 : Addr} {od22 an22 : Option Addr} {sl22 : Array (Option Value)} {oc22 kV22 dc22 pm22 cd22 ct22 : Value}
    (a22 : PySem.W.nsIn K mainGlobals "_law_connected" = some (some (.ref f22)))
    (l22 : K.lookup f22 = some ⟨oc22, od22, .func (PySem.W.fnOf "_law_connected" "_law_connected" (defArgs sConn) (defBody sConn) (defScope sConn) .none kV22 dc22 pm22 an22 cd22 ct22), sl22⟩)
    (c22 : PySem.W.codeIn K cd22 "_law_connected" = true) (k22 : PySem.W.keepIn K (.ref f22) = true)
    {f23 : Addr} {od23 an23 : Option Addr} {sl23 : Array (Option Value)} {oc23 kV23 dc23 pm23 cd23 ct23 : Value}
    (a23 : PySem.W.nsIn K mainGlobals "_law_error_class" = some (some (.ref f23)))
    (l23 : K.lookup f23 = some ⟨oc23, od23, .func (PySem.W.fnOf "_law_error_class" "_law_error_class" (defArgs sLErrorClass) (defBody sLErrorClass) (defScope sLErrorClass) .none kV23 dc23 pm23 an23 cd23 ct23), sl23⟩)
    (c23 : PySem.W.codeIn K cd23 "_law_error_class" = true) (k23 : PySem.W.keepIn K (.ref f23) = true)
    {f24 : Addr} {od24 an24 : Option Addr} {sl24 : Array (Option Value)} {oc24 kV24 dc24 pm24 cd24 ct24 : Value}
    (a24 : PySem.W.nsIn K mainGlobals "_law_invalid_names" = some (some (.ref f24)))
    (l24 : K.lookup f24 = some ⟨oc24, od24, .func (PySem.W.fnOf "_law_invalid_names" "_law_invalid_names" (defArgs sLInvN) (defBody sLInvN) (defScope sLInvN) .none kV24 dc24 pm24 an24 cd24 ct24), sl24⟩)
    (c24 : PySem.W.codeIn K cd24 "_law_invalid_names" = true) (k24 : PySem.W.keepIn K (.ref f24) = true)
    {f25 : Addr} {od25 an25 : Option Addr} {sl25 : Array (Option Value)} {oc25 kV25 dc25 pm25 cd25 ct25 : Value}
    (a25 : PySem.W.nsIn K mainGlobals "_law_swap_error" = some (some (.ref f25)))
    (l25 : K.lookup f25 = some ⟨oc25, od25, .func (PySem.W.fnOf "_law_swap_error" "_law_swap_error" (defArgs sLSwErr) (defBody sLSwErr) (defScope sLSwErr) .none kV25 dc25 pm25 an25 cd25 ct25), sl25⟩)
    (c25 : PySem.W.codeIn K cd25 "_law_swap_error" = true) (k25 : PySem.W.keepIn K (.ref f25) = true)
    {f26 : Addr} {od26 an26 : Option Addr} {sl26 : Array (Option Value)} {oc26 kV26 dc26 pm26 cd26 ct26 : Value}
    (a26 : PySem.W.nsIn K mainGlobals "_law_swap_outcome" = some (some (.ref f26)))
    (l26 : K.lookup f26 = some ⟨oc26, od26, .func (PySem.W.fnOf "_law_swap_outcome" "_law_swap_outcome" (defArgs sLSwOut) (defBody sLSwOut) (defScope sLSwOut) .none kV26 dc26 pm26 an26 cd26 ct26), sl26⟩)
    (c26 : PySem.W.codeIn K cd26 "_law_swap_outcome" = true) (k26 : PySem.W.keepIn K (.ref f26) = true)
    {f27 : Addr} {od27 an27 : Option Addr} {sl27 : Array (Option Value)} {oc27 kV27 dc27 pm27 cd27 ct27 : Value}
    (a27 : PySem.W.nsIn K mainGlobals "law" = some (some (.ref f27)))
    (l27 : K.lookup f27 = some ⟨oc27, od27, .func (PySem.W.fnOf "law" "law" (defArgs sLaw) (defBody sLaw) (defScope sLaw) .none kV27 dc27 pm27 an27 cd27 ct27), sl27⟩)
    (c27 : PySem.W.codeIn K cd27 "law" = true) (k27 : PySem.W.keepIn K (.ref f27) = true)
    (z_abs : PySem.W.nsIn K mainGlobals "abs" = some none) (z_len : PySem.W.nsIn K mainGlobals "len" = some none) (z_list : PySem.W.nsIn K mainGlobals "list" = some none) (z_range : PySem.W.nsIn K mainGlobals "range" = some none) (z_min : PySem.W.nsIn K mainGlobals "min" = some none) (z_max : PySem.W.nsIn K mainGlobals "max" = some none) (z_tuple : PySem.W.nsIn K mainGlobals "tuple" = some none) (z_sorted : PySem.W.nsIn K mainGlobals "sorted" = some none) (z_isinstance : PySem.W.nsIn K mainGlobals "isinstance" = some none) (z_all : PySem.W.nsIn K mainGlobals "all" = some none) (z_zip : PySem.W.nsIn K mainGlobals "zip" = some none) (z_bool : PySem.W.nsIn K mainGlobals "bool" = some none) (z_int : PySem.W.nsIn K mainGlobals "int" = some none) (z_str : PySem.W.nsIn K mainGlobals "str" = some none) (z_repr : PySem.W.nsIn K mainGlobals "repr" = some none) (z_ValueError : PySem.W.nsIn K mainGlobals "ValueError" = some none) (z_any : PySem.W.nsIn K mainGlobals "any" = some none) (z_dict : PySem.W.nsIn K mainGlobals "dict" = some none) : LawAt P w K mg 8 fa (spLaw K) := by
  have e := hfa.symm.trans (PySem.W.mg_of X G a27)
  cases e
  have T : Nm mg := ⟨PySem.W.mg_none_of X G z_abs, PySem.W.mg_none_of X G z_len, PySem.W.mg_none_of X G z_list, PySem.W.mg_none_of X G z_range, PySem.W.mg_none_of X G z_min, PySem.W.mg_none_of X G z_max, PySem.W.mg_none_of X G z_tuple, PySem.W.mg_none_of X G z_sorted, PySem.W.mg_none_of X G z_isinstance, PySem.W.mg_none_of X G z_all, PySem.W.mg_none_of X G z_zip, PySem.W.mg_none_of X G z_bool, PySem.W.mg_none_of X G z_int, PySem.W.mg_none_of X G z_str, PySem.W.mg_none_of X G z_repr⟩
  obtain ⟨hUnknownPerson, vUnknownPerson⟩ := cf_mk (x := "UnknownPerson") (q := "UnknownPerson.__init__") (st := iUnknownPerson) (ps := ["self", "name"]) X G (fun fd F => F.binds fun _ _ _ _ _ _ us hl => match us, hl with | [_, _], _ => rfl) uUnknownPersona uUnknownPersonb uUnknownPersonc uUnknownPersond uUnknownPersone uUnknownPersonf uUnknownPersong uUnknownPersonh uUnknownPersoni uUnknownPersonj uUnknownPersonk uUnknownPersonl uUnknownPersonm uUnknownPersonn uUnknownPersonp uUnknownPersonq
  obtain ⟨hInvalidRoom, vInvalidRoom⟩ := cf_mk (x := "InvalidRoom") (q := "InvalidRoom.__init__") (st := iInvalidRoom) (ps := ["self", "room"]) X G (fun fd F => F.binds fun _ _ _ _ _ _ us hl => match us, hl with | [_, _], _ => rfl) uInvalidRooma uInvalidRoomb uInvalidRoomc uInvalidRoomd uInvalidRoome uInvalidRoomf uInvalidRoomg uInvalidRoomh uInvalidRoomi uInvalidRoomj uInvalidRoomk uInvalidRooml uInvalidRoomm uInvalidRoomn uInvalidRoomp uInvalidRoomq
  obtain ⟨hNotAdjacent, vNotAdjacent⟩ := cf_mk (x := "NotAdjacent") (q := "NotAdjacent.__init__") (st := iNotAdjacent) (ps := ["self", "room"]) X G (fun fd F => F.binds fun _ _ _ _ _ _ us hl => match us, hl with | [_, _], _ => rfl) uNotAdjacenta uNotAdjacentb uNotAdjacentc uNotAdjacentd uNotAdjacente uNotAdjacentf uNotAdjacentg uNotAdjacenth uNotAdjacenti uNotAdjacentj uNotAdjacentk uNotAdjacentl uNotAdjacentm uNotAdjacentn uNotAdjacentp uNotAdjacentq
  obtain ⟨hEmptyRoom, vEmptyRoom⟩ := cf_mk (x := "EmptyRoom") (q := "EmptyRoom.__init__") (st := iEmptyRoom) (ps := ["self", "room"]) X G (fun fd F => F.binds fun _ _ _ _ _ _ us hl => match us, hl with | [_, _], _ => rfl) uEmptyRooma uEmptyRoomb uEmptyRoomc uEmptyRoomd uEmptyRoome uEmptyRoomf uEmptyRoomg uEmptyRoomh uEmptyRoomi uEmptyRoomj uEmptyRoomk uEmptyRooml uEmptyRoomm uEmptyRoomn uEmptyRoomp uEmptyRoomq
  obtain ⟨hInvalidMoves, vInvalidMoves⟩ := cf_mk (x := "InvalidMoves") (q := "InvalidMoves.__init__") (st := iInvalidMoves) (ps := ["self", "position"]) X G (fun fd F => F.binds fun _ _ _ _ _ _ us hl => match us, hl with | [_, _], _ => rfl) uInvalidMovesa uInvalidMovesb uInvalidMovesc uInvalidMovesd uInvalidMovese uInvalidMovesf uInvalidMovesg uInvalidMovesh uInvalidMovesi uInvalidMovesj uInvalidMovesk uInvalidMovesl uInvalidMovesm uInvalidMovesn uInvalidMovesp uInvalidMovesq
  obtain ⟨hOtherRegion, vOtherRegion⟩ := cf_mk (x := "OtherRegion") (q := "OtherRegion.__init__") (st := iOtherRegion) (ps := ["self", "room"]) X G (fun fd F => F.binds fun _ _ _ _ _ _ us hl => match us, hl with | [_, _], _ => rfl) uOtherRegiona uOtherRegionb uOtherRegionc uOtherRegiond uOtherRegione uOtherRegionf uOtherRegiong uOtherRegionh uOtherRegioni uOtherRegionj uOtherRegionk uOtherRegionl uOtherRegionm uOtherRegionn uOtherRegionp uOtherRegionq
  obtain ⟨hTightRegion, vTightRegion⟩ := cf_mk (x := "TightRegion") (q := "TightRegion.__init__") (st := iTightRegion) (ps := ["self", "room"]) X G (fun fd F => F.binds fun _ _ _ _ _ _ us hl => match us, hl with | [_, _], _ => rfl) uTightRegiona uTightRegionb uTightRegionc uTightRegiond uTightRegione uTightRegionf uTightRegiong uTightRegionh uTightRegioni uTightRegionj uTightRegionk uTightRegionl uTightRegionm uTightRegionn uTightRegionp uTightRegionq
  obtain ⟨hBlocked, vBlocked⟩ := cf_mk (x := "Blocked") (q := "Blocked.__init__") (st := iBlocked) (ps := ["self", "block"]) X G (fun fd F => F.binds fun _ _ _ _ _ _ us hl => match us, hl with | [_, _], _ => rfl) uBlockeda uBlockedb uBlockedc uBlockedd uBlockede uBlockedf uBlockedg uBlockedh uBlockedi uBlockedj uBlockedk uBlockedl uBlockedm uBlockedn uBlockedp uBlockedq
  obtain ⟨hInvalidName, vInvalidName⟩ := cf_mk (x := "InvalidName") (q := "InvalidName.__init__") (st := iInvalidName) (ps := ["self", "name"]) X G (fun fd F => F.binds fun _ _ _ _ _ _ us hl => match us, hl with | [_, _], _ => rfl) uInvalidNamea uInvalidNameb uInvalidNamec uInvalidNamed uInvalidNamee uInvalidNamef uInvalidNameg uInvalidNameh uInvalidNamei uInvalidNamej uInvalidNamek uInvalidNamel uInvalidNamem uInvalidNamen uInvalidNamep uInvalidNameq
  obtain ⟨hDuplicateName, vDuplicateName⟩ := cf_mk (x := "DuplicateName") (q := "DuplicateName.__init__") (st := iDuplicateName) (ps := ["self", "name"]) X G (fun fd F => F.binds fun _ _ _ _ _ _ us hl => match us, hl with | [_, _], _ => rfl) uDuplicateNamea uDuplicateNameb uDuplicateNamec uDuplicateNamed uDuplicateNamee uDuplicateNamef uDuplicateNameg uDuplicateNameh uDuplicateNamei uDuplicateNamej uDuplicateNamek uDuplicateNamel uDuplicateNamem uDuplicateNamen uDuplicateNamep uDuplicateNameq
  obtain ⟨hLimitReached, vLimitReached⟩ := cf_mk (x := "LimitReached") (q := "LimitReached.__init__") (st := iLimitReached) (ps := ["self", "limit"]) X G (fun fd F => F.binds fun _ _ _ _ _ _ us hl => match us, hl with | [_, _], _ => rfl) uLimitReacheda uLimitReachedb uLimitReachedc uLimitReachedd uLimitReachede uLimitReachedf uLimitReachedg uLimitReachedh uLimitReachedi uLimitReachedj uLimitReachedk uLimitReachedl uLimitReachedm uLimitReachedn uLimitReachedp uLimitReachedq
  obtain ⟨hAlreadyAdjacent, vAlreadyAdjacent⟩ := cf_mk (x := "AlreadyAdjacent") (q := "AlreadyAdjacent.__init__") (st := iAlreadyAdjacent) (ps := ["self", "room"]) X G (fun fd F => F.binds fun _ _ _ _ _ _ us hl => match us, hl with | [_, _], _ => rfl) uAlreadyAdjacenta uAlreadyAdjacentb uAlreadyAdjacentc uAlreadyAdjacentd uAlreadyAdjacente uAlreadyAdjacentf uAlreadyAdjacentg uAlreadyAdjacenth uAlreadyAdjacenti uAlreadyAdjacentj uAlreadyAdjacentk uAlreadyAdjacentl uAlreadyAdjacentm uAlreadyAdjacentn uAlreadyAdjacentp uAlreadyAdjacentq
  obtain ⟨hWouldFormCycle, vWouldFormCycle⟩ := cf_mk (x := "WouldFormCycle") (q := "WouldFormCycle.__init__") (st := iWouldFormCycle) (ps := ["self", "room"]) X G (fun fd F => F.binds fun _ _ _ _ _ _ us hl => match us, hl with | [_, _], _ => rfl) uWouldFormCyclea uWouldFormCycleb uWouldFormCyclec uWouldFormCycled uWouldFormCyclee uWouldFormCyclef uWouldFormCycleg uWouldFormCycleh uWouldFormCyclei uWouldFormCyclej uWouldFormCyclek uWouldFormCyclel uWouldFormCyclem uWouldFormCyclen uWouldFormCyclep uWouldFormCycleq
  obtain ⟨hBatchFailed, vBatchFailed⟩ := cf_mk (x := "BatchFailed") (q := "BatchFailed.__init__") (st := iBatchFailed) (ps := ["self", "position"]) X G (fun fd F => F.binds fun _ _ _ _ _ _ us hl => match us, hl with | [_, _], _ => rfl) uBatchFaileda uBatchFailedb uBatchFailedc uBatchFailedd uBatchFailede uBatchFailedf uBatchFailedg uBatchFailedh uBatchFailedi uBatchFailedj uBatchFailedk uBatchFailedl uBatchFailedm uBatchFailedn uBatchFailedp uBatchFailedq
  obtain ⟨hInvalidMoment, vInvalidMoment⟩ := cf_mk (x := "InvalidMoment") (q := "InvalidMoment.__init__") (st := iInvalidMoment) (ps := ["self", "position"]) X G (fun fd F => F.binds fun _ _ _ _ _ _ us hl => match us, hl with | [_, _], _ => rfl) uInvalidMomenta uInvalidMomentb uInvalidMomentc uInvalidMomentd uInvalidMomente uInvalidMomentf uInvalidMomentg uInvalidMomenth uInvalidMomenti uInvalidMomentj uInvalidMomentk uInvalidMomentl uInvalidMomentm uInvalidMomentn uInvalidMomentp uInvalidMomentq
  obtain ⟨hInvalidText, vInvalidText⟩ := cf_mk (x := "InvalidText") (q := "InvalidText.__init__") (st := iInvalidText) (ps := ["self", "position"]) X G (fun fd F => F.binds fun _ _ _ _ _ _ us hl => match us, hl with | [_, _], _ => rfl) uInvalidTexta uInvalidTextb uInvalidTextc uInvalidTextd uInvalidTexte uInvalidTextf uInvalidTextg uInvalidTexth uInvalidTexti uInvalidTextj uInvalidTextk uInvalidTextl uInvalidTextm uInvalidTextn uInvalidTextp uInvalidTextq
  obtain ⟨hNothingToUndo, vNothingToUndo⟩ := cf_mk (x := "NothingToUndo") (q := "NothingToUndo.__init__") (st := iNothingToUndo) (ps := ["self"]) X G (fun fd F => F.binds fun _ _ _ _ _ _ us hl => match us, hl with | [_], _ => rfl) uNothingToUndoa uNothingToUndob uNothingToUndoc uNothingToUndod uNothingToUndoe uNothingToUndof uNothingToUndog uNothingToUndoh uNothingToUndoi uNothingToUndoj uNothingToUndok uNothingToUndol uNothingToUndom uNothingToUndon uNothingToUndop uNothingToUndoq
  obtain ⟨hHistoryFull, vHistoryFull⟩ := cf_mk (x := "HistoryFull") (q := "HistoryFull.__init__") (st := iHistoryFull) (ps := ["self"]) X G (fun fd F => F.binds fun _ _ _ _ _ _ us hl => match us, hl with | [_], _ => rfl) uHistoryFulla uHistoryFullb uHistoryFullc uHistoryFulld uHistoryFulle uHistoryFullf uHistoryFullg uHistoryFullh uHistoryFulli uHistoryFullj uHistoryFullk uHistoryFulll uHistoryFullm uHistoryFulln uHistoryFullp uHistoryFullq
  obtain ⟨hSessionBusy, vSessionBusy⟩ := cf_mk (x := "SessionBusy") (q := "SessionBusy.__init__") (st := iSessionBusy) (ps := ["self"]) X G (fun fd F => F.binds fun _ _ _ _ _ _ us hl => match us, hl with | [_], _ => rfl) uSessionBusya uSessionBusyb uSessionBusyc uSessionBusyd uSessionBusye uSessionBusyf uSessionBusyg uSessionBusyh uSessionBusyi uSessionBusyj uSessionBusyk uSessionBusyl uSessionBusym uSessionBusyn uSessionBusyp uSessionBusyq
  obtain ⟨hInvalidActions, vInvalidActions⟩ := cf_mk (x := "InvalidActions") (q := "InvalidActions.__init__") (st := iInvalidActions) (ps := ["self"]) X G (fun fd F => F.binds fun _ _ _ _ _ _ us hl => match us, hl with | [_], _ => rfl) uInvalidActionsa uInvalidActionsb uInvalidActionsc uInvalidActionsd uInvalidActionse uInvalidActionsf uInvalidActionsg uInvalidActionsh uInvalidActionsi uInvalidActionsj uInvalidActionsk uInvalidActionsl uInvalidActionsm uInvalidActionsn uInvalidActionsp uInvalidActionsq
  obtain ⟨hInvalidHouse, vInvalidHouse⟩ := cf_mk (x := "InvalidHouse") (q := "InvalidHouse.__init__") (st := iInvalidHouse) (ps := ["self"]) X G (fun fd F => F.binds fun _ _ _ _ _ _ us hl => match us, hl with | [_], _ => rfl) uInvalidHousea uInvalidHouseb uInvalidHousec uInvalidHoused uInvalidHousee uInvalidHousef uInvalidHouseg uInvalidHouseh uInvalidHousei uInvalidHousej uInvalidHousek uInvalidHousel uInvalidHousem uInvalidHousen uInvalidHousep uInvalidHouseq
  obtain ⟨hInvalidPlacement, vInvalidPlacement⟩ := cf_mk (x := "InvalidPlacement") (q := "InvalidPlacement.__init__") (st := iInvalidPlacement) (ps := ["self"]) X G (fun fd F => F.binds fun _ _ _ _ _ _ us hl => match us, hl with | [_], _ => rfl) uInvalidPlacementa uInvalidPlacementb uInvalidPlacementc uInvalidPlacementd uInvalidPlacemente uInvalidPlacementf uInvalidPlacementg uInvalidPlacementh uInvalidPlacementi uInvalidPlacementj uInvalidPlacementk uInvalidPlacementl uInvalidPlacementm uInvalidPlacementn uInvalidPlacementp uInvalidPlacementq
  have F1 := fun_mk (st := sNb) l1 c1 k1
  have b1 := F1.binds (ps := ["house", "room"]) fun _ _ _ _ _ _ us hl => match us, hl with | [_, _], _ => rfl
  have F2 := fun_mk (st := sPath) l2 c2 k2
  have b2 := F2.binds (ps := ["house", "a", "b"]) fun _ _ _ _ _ _ us hl => match us, hl with | [_, _, _], _ => rfl
  have F3 := fun_mk (st := sComp) l3 c3 k3
  have b3 := F3.binds (ps := ["house", "rooms"]) fun _ _ _ _ _ _ us hl => match us, hl with | [_, _], _ => rfl
  have F4 := fun_mk (st := sSteps) l4 c4 k4
  have b4 := F4.binds (ps := ["house", "goal", "rooms"]) fun _ _ _ _ _ _ us hl => match us, hl with | [_, _, _], _ => rfl
  have F5 := fun_mk (st := sRoomOf) l5 c5 k5
  have b5 := F5.binds (ps := ["placement", "name"]) fun _ _ _ _ _ _ us hl => match us, hl with | [_, _], _ => rfl
  have F6 := fun_mk (st := sPIn) l6 c6 k6
  have b6 := F6.binds (ps := ["placement", "room"]) fun _ _ _ _ _ _ us hl => match us, hl with | [_, _], _ => rfl
  have F7 := fun_mk (st := sPWi) l7 c7 k7
  have b7 := F7.binds (ps := ["placement", "rooms"]) fun _ _ _ _ _ _ us hl => match us, hl with | [_, _], _ => rfl
  have F8 := fun_mk (st := sFReg) l8 c8 k8
  have b8 := F8.binds (ps := ["house", "placement"]) fun _ _ _ _ _ _ us hl => match us, hl with | [_, _], _ => rfl
  have F9 := fun_mk (st := sRegOf) l9 c9 k9
  have b9 := F9.binds (ps := ["house", "placement", "room"]) fun _ _ _ _ _ _ us hl => match us, hl with | [_, _, _], _ => rfl
  have F10 := fun_mk (st := sSurp) l10 c10 k10
  have b10 := F10.binds (ps := ["placement", "region"]) fun _ _ _ _ _ _ us hl => match us, hl with | [_, _], _ => rfl
  have F11 := fun_mk (st := sIsTight) l11 c11 k11
  have b11 := F11.binds (ps := ["placement", "region"]) fun _ _ _ _ _ _ us hl => match us, hl with | [_, _], _ => rfl
  have F12 := fun_mk (st := sWalk) l12 c12 k12
  have b12 := F12.binds (ps := ["house", "name", "start", "end"]) fun _ _ _ _ _ _ us hl => match us, hl with | [_, _, _, _], _ => rfl
  have F13 := fun_mk (st := sSharing) l13 c13 k13
  have b13 := F13.binds (ps := ["placement", "rooms"]) fun _ _ _ _ _ _ us hl => match us, hl with | [_, _], _ => rfl
  have F14 := fun_mk (st := sExch) l14 c14 k14
  have b14 := F14.binds (ps := ["house", "placement", "region", "a", "b"]) fun _ _ _ _ _ _ us hl => match us, hl with | [_, _, _, _, _], _ => rfl
  have F15 := fun_mk (st := sSwapP) l15 c15 k15
  have b15 := F15.binds (ps := ["house", "placement", "a", "b"]) fun _ _ _ _ _ _ us hl => match us, hl with | [_, _, _, _], _ => rfl
  have F16 := fun_mk (st := sStream) l16 c16 k16
  have b16 := F16.binds (ps := ["_law_script"]) fun _ _ _ _ _ _ us hl => match us, hl with | [_], _ => rfl
  have F17 := fun_mk (st := sNames) l17 c17 k17
  have b17 := F17.binds (ps := ["_law_stream_here", "_law_many"]) fun _ _ _ _ _ _ us hl => match us, hl with | [_, _], _ => rfl
  have F18 := fun_mk (st := sDraw) l18 c18 k18
  have b18 := F18.binds (ps := ["_law_stream_here", "_law_many"]) fun _ _ _ _ _ _ us hl => match us, hl with | [_, _], _ => rfl
  have F19 := fun_mk (st := sHouse) l19 c19 k19
  have b19 := F19.binds (ps := ["_law_stream_here", "_law_least", "_law_most"]) fun _ _ _ _ _ _ us hl => match us, hl with | [_, _, _], _ => rfl
  have F20 := fun_mk (st := sPl) l20 c20 k20
  have b20 := F20.binds (ps := ["_law_stream_here", "_law_house_here", "_law_most"]) fun _ _ _ _ _ _ us hl => match us, hl with | [_, _, _], _ => rfl
  have F21 := fun_mk (st := sLNb) l21 c21 k21
  have b21 := F21.binds (ps := ["_law_house_here", "_law_room"]) fun _ _ _ _ _ _ us hl => match us, hl with | [_, _], _ => rfl
  have F22 := fun_mk (st := sConn) l22 c22 k22
  have b22 := F22.binds (ps := ["_law_house_here", "_law_rooms", "_law_room"]) fun _ _ _ _ _ _ us hl => match us, hl with | [_, _, _], _ => rfl
  have F23 := fun_mk (st := sLErrorClass) l23 c23 k23
  have b23 := F23.binds (ps := ["_law_e"]) fun _ _ _ _ _ _ us hl => match us, hl with | [_], _ => rfl
  have F24 := fun_mk (st := sLInvN) l24 c24 k24
  have b24 := F24.binds (ps := ["_law_names_here"]) fun _ _ _ _ _ _ us hl => match us, hl with | [_], _ => rfl
  have F25 := fun_mk (st := sLSwErr) l25 c25 k25
  have b25 := F25.binds (ps := ["_law_house_here", "_law_placement_here", "_law_a", "_law_b"]) fun _ _ _ _ _ _ us hl => match us, hl with | [_, _, _, _], _ => rfl
  have F26 := fun_mk (st := sLSwOut) l26 c26 k26
  have b26 := F26.binds (ps := ["_law_house_here", "_law_placement_here", "_law_a", "_law_b"]) fun _ _ _ _ _ _ us hl => match us, hl with | [_, _, _, _], _ => rfl
  have F27 := fun_mk (st := sLaw) l27 c27 k27
  have Z : All K mg := ⟨T, PySem.W.mg_none_of X G z_ValueError, PySem.W.mg_none_of X G z_any, PySem.W.mg_none_of X G z_dict, ⟨_, he_mk X G uHEa uHEb uHEc uHEd, ⟨_, _, _, vUnknownPerson, uUnknownPersono⟩, ⟨_, _, _, vInvalidRoom, uInvalidRoomo⟩, ⟨_, _, _, vNotAdjacent, uNotAdjacento⟩, ⟨_, _, _, vEmptyRoom, uEmptyRoomo⟩, ⟨_, _, _, vInvalidMoves, uInvalidMoveso⟩, ⟨_, _, _, vOtherRegion, uOtherRegiono⟩, ⟨_, _, _, vTightRegion, uTightRegiono⟩, ⟨_, _, _, vBlocked, uBlockedo⟩, ⟨_, _, _, vInvalidName, uInvalidNameo⟩, ⟨_, _, _, vDuplicateName, uDuplicateNameo⟩, ⟨_, _, _, vLimitReached, uLimitReachedo⟩, ⟨_, _, _, vAlreadyAdjacent, uAlreadyAdjacento⟩, ⟨_, _, _, vWouldFormCycle, uWouldFormCycleo⟩, ⟨_, _, _, vBatchFailed, uBatchFailedo⟩, ⟨_, _, _, vInvalidMoment, uInvalidMomento⟩, ⟨_, _, _, vInvalidText, uInvalidTexto⟩, ⟨_, _, _, vNothingToUndo⟩, ⟨_, _, _, vHistoryFull⟩, ⟨_, _, _, vSessionBusy⟩, ⟨_, _, _, vInvalidActions⟩, ⟨_, _, _, vInvalidHouse⟩, ⟨_, _, _, vInvalidPlacement⟩⟩, ⟨_, _, ⟨F1, b1, PySem.W.mg_of X G a1⟩⟩, ⟨_, _, ⟨F2, b2, PySem.W.mg_of X G a2⟩⟩, ⟨_, _, ⟨F3, b3, PySem.W.mg_of X G a3⟩⟩, ⟨_, _, ⟨F4, b4, PySem.W.mg_of X G a4⟩⟩, ⟨_, _, ⟨F5, b5, PySem.W.mg_of X G a5⟩⟩, ⟨_, _, ⟨F6, b6, PySem.W.mg_of X G a6⟩⟩, ⟨_, _, ⟨F7, b7, PySem.W.mg_of X G a7⟩⟩, ⟨_, _, ⟨F8, b8, PySem.W.mg_of X G a8⟩⟩, ⟨_, _, ⟨F9, b9, PySem.W.mg_of X G a9⟩⟩, ⟨_, _, ⟨F10, b10, PySem.W.mg_of X G a10⟩⟩, ⟨_, _, ⟨F11, b11, PySem.W.mg_of X G a11⟩⟩, ⟨_, _, ⟨F12, b12, PySem.W.mg_of X G a12⟩⟩, ⟨_, _, ⟨F13, b13, PySem.W.mg_of X G a13⟩⟩, ⟨_, _, ⟨F14, b14, PySem.W.mg_of X G a14⟩⟩, ⟨_, _, ⟨F15, b15, PySem.W.mg_of X G a15⟩⟩, ⟨_, _, ⟨F16, b16, PySem.W.mg_of X G a16⟩⟩, ⟨_, _, ⟨F17, b17, PySem.W.mg_of X G a17⟩⟩, ⟨_, _, ⟨F18, b18, PySem.W.mg_of X G a18⟩⟩, ⟨_, _, ⟨F19, b19, PySem.W.mg_of X G a19⟩⟩, ⟨_, _, ⟨F20, b20, PySem.W.mg_of X G a20⟩⟩, ⟨_, _, ⟨F21, b21, PySem.W.mg_of X G a21⟩⟩, ⟨_, _, ⟨F22, b22, PySem.W.mg_of X G a22⟩⟩, ⟨_, _, ⟨F23, b23, PySem.W.mg_of X G a23⟩⟩, ⟨_, _, ⟨F24, b24, PySem.W.mg_of X G a24⟩⟩, ⟨_, _, ⟨F25, b25, PySem.W.mg_of X G a25⟩⟩, ⟨_, _, ⟨F26, b26, PySem.W.mg_of X G a26⟩⟩⟩
  refine ⟨_, fun s v => ?_, fun base _ _ => ok_law F27 Z⟩
  exact .of_eq rfl
theorem tells : Tells spLaw := fun K H a ns hl hS => ⟨a, ns, rfl, hS, hl, fun _ => rfl⟩
end Fw

open PySem PySem.W PyProof.Rows in
set_option maxRecDepth 100000 in
set_option maxHeartbeats 0 in
theorem PySem.Challenge.cw_fromwithin_k42_swap_errors_holds : PySem.Challenge.rw_fromwithin_k42_swap_errors.Holds := by
  w_on; o_law; k_head; (case hw => w_witness2)
  k_fill
  refine Fw.walkG (l := PySem.Challenge.rw_fromwithin_k42_swap_errors) (k := 8) Fw.tells rfl rfl ⟨rfl, by decide, by decide⟩ (fun w h Y => PySem.W.kIn_of Y) ?F
  case F =>
    intro w mg fa h KX G hmg
    refine' Fw.all_mk KX G hmg ?uHEa ?uHEb ?uHEc ?uHEd ?uUnknownPersona ?uUnknownPersonb ?uUnknownPersonc ?uUnknownPersond ?uUnknownPersone ?uUnknownPersonf ?uUnknownPersong ?uUnknownPersonh ?uUnknownPersoni ?uUnknownPersonj ?uUnknownPersonk ?uUnknownPersonl ?uUnknownPersonm ?uUnknownPersonn ?uUnknownPersono ?uUnknownPersonp ?uUnknownPersonq ?uInvalidRooma ?uInvalidRoomb ?uInvalidRoomc ?uInvalidRoomd ?uInvalidRoome ?uInvalidRoomf ?uInvalidRoomg ?uInvalidRoomh ?uInvalidRoomi ?uInvalidRoomj ?uInvalidRoomk ?uInvalidRooml ?uInvalidRoomm ?uInvalidRoomn ?uInvalidRoomo ?uInvalidRoomp ?uInvalidRoomq ?uNotAdjacenta ?uNotAdjacentb ?uNotAdjacentc ?uNotAdjacentd ?uNotAdjacente ?uNotAdjacentf ?uNotAdjacentg ?uNotAdjacenth ?uNotAdjacenti ?uNotAdjacentj ?uNotAdjacentk ?uNotAdjacentl ?uNotAdjacentm ?uNotAdjacentn ?uNotAdjacento ?uNotAdjacentp ?uNotAdjacentq ?uEmptyRooma ?uEmptyRoomb ?uEmptyRoomc ?uEmptyRoomd ?uEmptyRoome ?uEmptyRoomf ?uEmptyRoomg ?uEmptyRoomh ?uEmptyRoomi ?uEmptyRoomj ?uEmptyRoomk ?uEmptyRooml ?uEmptyRoomm ?uEmptyRoomn ?uEmptyRoomo ?uEmptyRoomp ?uEmptyRoomq ?uInvalidMovesa ?uInvalidMovesb ?uInvalidMovesc ?uInvalidMovesd ?uInvalidMovese ?uInvalidMovesf ?uInvalidMovesg ?uInvalidMovesh ?uInvalidMovesi ?uInvalidMovesj ?uInvalidMovesk ?uInvalidMovesl ?uInvalidMovesm ?uInvalidMovesn ?uInvalidMoveso ?uInvalidMovesp ?uInvalidMovesq ?uOtherRegiona ?uOtherRegionb ?uOtherRegionc ?uOtherRegiond ?uOtherRegione ?uOtherRegionf ?uOtherRegiong ?uOtherRegionh ?uOtherRegioni ?uOtherRegionj ?uOtherRegionk ?uOtherRegionl ?uOtherRegionm ?uOtherRegionn ?uOtherRegiono ?uOtherRegionp ?uOtherRegionq ?uTightRegiona ?uTightRegionb ?uTightRegionc ?uTightRegiond ?uTightRegione ?uTightRegionf ?uTightRegiong ?uTightRegionh ?uTightRegioni ?uTightRegionj ?uTightRegionk ?uTightRegionl ?uTightRegionm ?uTightRegionn ?uTightRegiono ?uTightRegionp ?uTightRegionq ?uBlockeda ?uBlockedb ?uBlockedc ?uBlockedd ?uBlockede ?uBlockedf ?uBlockedg ?uBlockedh ?uBlockedi ?uBlockedj ?uBlockedk ?uBlockedl ?uBlockedm ?uBlockedn ?uBlockedo ?uBlockedp ?uBlockedq ?uInvalidNamea ?uInvalidNameb ?uInvalidNamec ?uInvalidNamed ?uInvalidNamee ?uInvalidNamef ?uInvalidNameg ?uInvalidNameh ?uInvalidNamei ?uInvalidNamej ?uInvalidNamek ?uInvalidNamel ?uInvalidNamem ?uInvalidNamen ?uInvalidNameo ?uInvalidNamep ?uInvalidNameq ?uDuplicateNamea ?uDuplicateNameb ?uDuplicateNamec ?uDuplicateNamed ?uDuplicateNamee ?uDuplicateNamef ?uDuplicateNameg ?uDuplicateNameh ?uDuplicateNamei ?uDuplicateNamej ?uDuplicateNamek ?uDuplicateNamel ?uDuplicateNamem ?uDuplicateNamen ?uDuplicateNameo ?uDuplicateNamep ?uDuplicateNameq ?uLimitReacheda ?uLimitReachedb ?uLimitReachedc ?uLimitReachedd ?uLimitReachede ?uLimitReachedf ?uLimitReachedg ?uLimitReachedh ?uLimitReachedi ?uLimitReachedj ?uLimitReachedk ?uLimitReachedl ?uLimitReachedm ?uLimitReachedn ?uLimitReachedo ?uLimitReachedp ?uLimitReachedq ?uAlreadyAdjacenta ?uAlreadyAdjacentb ?uAlreadyAdjacentc ?uAlreadyAdjacentd ?uAlreadyAdjacente ?uAlreadyAdjacentf ?uAlreadyAdjacentg ?uAlreadyAdjacenth ?uAlreadyAdjacenti ?uAlreadyAdjacentj ?uAlreadyAdjacentk ?uAlreadyAdjacentl ?uAlreadyAdjacentm ?uAlreadyAdjacentn ?uAlreadyAdjacento ?uAlreadyAdjacentp ?uAlreadyAdjacentq ?uWouldFormCyclea ?uWouldFormCycleb ?uWouldFormCyclec ?uWouldFormCycled ?uWouldFormCyclee ?uWouldFormCyclef ?uWouldFormCycleg ?uWouldFormCycleh ?uWouldFormCyclei ?uWouldFormCyclej ?uWouldFormCyclek ?uWouldFormCyclel ?uWouldFormCyclem ?uWouldFormCyclen ?uWouldFormCycleo ?uWouldFormCyclep ?uWouldFormCycleq ?uBatchFaileda ?uBatchFailedb ?uBatchFailedc ?uBatchFailedd ?uBatchFailede ?uBatchFailedf ?uBatchFailedg ?uBatchFailedh ?uBatchFailedi ?uBatchFailedj ?uBatchFailedk ?uBatchFailedl ?uBatchFailedm ?uBatchFailedn ?uBatchFailedo ?uBatchFailedp ?uBatchFailedq ?uInvalidMomenta ?uInvalidMomentb ?uInvalidMomentc ?uInvalidMomentd ?uInvalidMomente ?uInvalidMomentf ?uInvalidMomentg ?uInvalidMomenth ?uInvalidMomenti ?uInvalidMomentj ?uInvalidMomentk ?uInvalidMomentl ?uInvalidMomentm ?uInvalidMomentn ?uInvalidMomento ?uInvalidMomentp ?uInvalidMomentq ?uInvalidTexta ?uInvalidTextb ?uInvalidTextc ?uInvalidTextd ?uInvalidTexte ?uInvalidTextf ?uInvalidTextg ?uInvalidTexth ?uInvalidTexti ?uInvalidTextj ?uInvalidTextk ?uInvalidTextl ?uInvalidTextm ?uInvalidTextn ?uInvalidTexto ?uInvalidTextp ?uInvalidTextq ?uNothingToUndoa ?uNothingToUndob ?uNothingToUndoc ?uNothingToUndod ?uNothingToUndoe ?uNothingToUndof ?uNothingToUndog ?uNothingToUndoh ?uNothingToUndoi ?uNothingToUndoj ?uNothingToUndok ?uNothingToUndol ?uNothingToUndom ?uNothingToUndon ?uNothingToUndop ?uNothingToUndoq ?uHistoryFulla ?uHistoryFullb ?uHistoryFullc ?uHistoryFulld ?uHistoryFulle ?uHistoryFullf ?uHistoryFullg ?uHistoryFullh ?uHistoryFulli ?uHistoryFullj ?uHistoryFullk ?uHistoryFulll ?uHistoryFullm ?uHistoryFulln ?uHistoryFullp ?uHistoryFullq ?uSessionBusya ?uSessionBusyb ?uSessionBusyc ?uSessionBusyd ?uSessionBusye ?uSessionBusyf ?uSessionBusyg ?uSessionBusyh ?uSessionBusyi ?uSessionBusyj ?uSessionBusyk ?uSessionBusyl ?uSessionBusym ?uSessionBusyn ?uSessionBusyp ?uSessionBusyq ?uInvalidActionsa ?uInvalidActionsb ?uInvalidActionsc ?uInvalidActionsd ?uInvalidActionse ?uInvalidActionsf ?uInvalidActionsg ?uInvalidActionsh ?uInvalidActionsi ?uInvalidActionsj ?uInvalidActionsk ?uInvalidActionsl ?uInvalidActionsm ?uInvalidActionsn ?uInvalidActionsp ?uInvalidActionsq ?uInvalidHousea ?uInvalidHouseb ?uInvalidHousec ?uInvalidHoused ?uInvalidHousee ?uInvalidHousef ?uInvalidHouseg ?uInvalidHouseh ?uInvalidHousei ?uInvalidHousej ?uInvalidHousek ?uInvalidHousel ?uInvalidHousem ?uInvalidHousen ?uInvalidHousep ?uInvalidHouseq ?uInvalidPlacementa ?uInvalidPlacementb ?uInvalidPlacementc ?uInvalidPlacementd ?uInvalidPlacemente ?uInvalidPlacementf ?uInvalidPlacementg ?uInvalidPlacementh ?uInvalidPlacementi ?uInvalidPlacementj ?uInvalidPlacementk ?uInvalidPlacementl ?uInvalidPlacementm ?uInvalidPlacementn ?uInvalidPlacementp ?uInvalidPlacementq ?a1 ?l1 ?c1 ?k1 ?a2 ?l2 ?c2 ?k2 ?a3 ?l3 ?c3 ?k3 ?a4 ?l4 ?c4 ?k4 ?a5 ?l5 ?c5 ?k5 ?a6 ?l6 ?c6 ?k6 ?a7 ?l7 ?c7 ?k7 ?a8 ?l8 ?c8 ?k8 ?a9 ?l9 ?c9 ?k9 ?a10 ?l10 ?c10 ?k10 ?a11 ?l11 ?c11 ?k11 ?a12 ?l12 ?c12 ?k12 ?a13 ?l13 ?c13 ?k13 ?a14 ?l14 ?c14 ?k14 ?a15 ?l15 ?c15 ?k15 ?a16 ?l16 ?c16 ?k16 ?a17 ?l17 ?c17 ?k17 ?a18 ?l18 ?c18 ?k18 ?a19 ?l19 ?c19 ?k19 ?a20 ?l20 ?c20 ?k20 ?a21 ?l21 ?c21 ?k21 ?a22 ?l22 ?c22 ?k22 ?a23 ?l23 ?c23 ?k23 ?a24 ?l24 ?c24 ?k24 ?a25 ?l25 ?c25 ?k25 ?a26 ?l26 ?c26 ?k26 ?a27 ?l27 ?c27 ?k27 ?z_abs ?z_len ?z_list ?z_range ?z_min ?z_max ?z_tuple ?z_sorted ?z_isinstance ?z_all ?z_zip ?z_bool ?z_int ?z_str ?z_repr ?z_ValueError ?z_any ?z_dict
    (case uHEa => k_is)
    (case uHEb => k_is)
    (case uHEc => k_is)
    (case uHEd => k_is)
    (case uUnknownPersona => k_is)
    (case uUnknownPersonb => k_is)
    (case uUnknownPersonc => k_is)
    (case uUnknownPersond => k_is)
    (case uUnknownPersone => k_is)
    (case uUnknownPersonf => k_is)
    (case uUnknownPersong => k_is)
    (case uUnknownPersonh => k_is)
    (case uUnknownPersoni => k_is)
    (case uUnknownPersonj => k_is)
    (case uUnknownPersonk => k_is)
    (case uUnknownPersonl => k_is)
    (case uUnknownPersonm => k_is)
    (case uUnknownPersonn => k_is)
    (case uUnknownPersono => k_is)
    (case uUnknownPersonp => k_is)
    (case uUnknownPersonq => k_is)
    (case uInvalidRooma => k_is)
    (case uInvalidRoomb => k_is)
    (case uInvalidRoomc => k_is)
    (case uInvalidRoomd => k_is)
    (case uInvalidRoome => k_is)
    (case uInvalidRoomf => k_is)
    (case uInvalidRoomg => k_is)
    (case uInvalidRoomh => k_is)
    (case uInvalidRoomi => k_is)
    (case uInvalidRoomj => k_is)
    (case uInvalidRoomk => k_is)
    (case uInvalidRooml => k_is)
    (case uInvalidRoomm => k_is)
    (case uInvalidRoomn => k_is)
    (case uInvalidRoomo => k_is)
    (case uInvalidRoomp => k_is)
    (case uInvalidRoomq => k_is)
    (case uNotAdjacenta => k_is)
    (case uNotAdjacentb => k_is)
    (case uNotAdjacentc => k_is)
    (case uNotAdjacentd => k_is)
    (case uNotAdjacente => k_is)
    (case uNotAdjacentf => k_is)
    (case uNotAdjacentg => k_is)
    (case uNotAdjacenth => k_is)
    (case uNotAdjacenti => k_is)
    (case uNotAdjacentj => k_is)
    (case uNotAdjacentk => k_is)
    (case uNotAdjacentl => k_is)
    (case uNotAdjacentm => k_is)
    (case uNotAdjacentn => k_is)
    (case uNotAdjacento => k_is)
    (case uNotAdjacentp => k_is)
    (case uNotAdjacentq => k_is)
    (case uEmptyRooma => k_is)
    (case uEmptyRoomb => k_is)
    (case uEmptyRoomc => k_is)
    (case uEmptyRoomd => k_is)
    (case uEmptyRoome => k_is)
    (case uEmptyRoomf => k_is)
    (case uEmptyRoomg => k_is)
    (case uEmptyRoomh => k_is)
    (case uEmptyRoomi => k_is)
    (case uEmptyRoomj => k_is)
    (case uEmptyRoomk => k_is)
    (case uEmptyRooml => k_is)
    (case uEmptyRoomm => k_is)
    (case uEmptyRoomn => k_is)
    (case uEmptyRoomo => k_is)
    (case uEmptyRoomp => k_is)
    (case uEmptyRoomq => k_is)
    (case uInvalidMovesa => k_is)
    (case uInvalidMovesb => k_is)
    (case uInvalidMovesc => k_is)
    (case uInvalidMovesd => k_is)
    (case uInvalidMovese => k_is)
    (case uInvalidMovesf => k_is)
    (case uInvalidMovesg => k_is)
    (case uInvalidMovesh => k_is)
    (case uInvalidMovesi => k_is)
    (case uInvalidMovesj => k_is)
    (case uInvalidMovesk => k_is)
    (case uInvalidMovesl => k_is)
    (case uInvalidMovesm => k_is)
    (case uInvalidMovesn => k_is)
    (case uInvalidMoveso => k_is)
    (case uInvalidMovesp => k_is)
    (case uInvalidMovesq => k_is)
    (case uOtherRegiona => k_is)
    (case uOtherRegionb => k_is)
    (case uOtherRegionc => k_is)
    (case uOtherRegiond => k_is)
    (case uOtherRegione => k_is)
    (case uOtherRegionf => k_is)
    (case uOtherRegiong => k_is)
    (case uOtherRegionh => k_is)
    (case uOtherRegioni => k_is)
    (case uOtherRegionj => k_is)
    (case uOtherRegionk => k_is)
    (case uOtherRegionl => k_is)
    (case uOtherRegionm => k_is)
    (case uOtherRegionn => k_is)
    (case uOtherRegiono => k_is)
    (case uOtherRegionp => k_is)
    (case uOtherRegionq => k_is)
    (case uTightRegiona => k_is)
    (case uTightRegionb => k_is)
    (case uTightRegionc => k_is)
    (case uTightRegiond => k_is)
    (case uTightRegione => k_is)
    (case uTightRegionf => k_is)
    (case uTightRegiong => k_is)
    (case uTightRegionh => k_is)
    (case uTightRegioni => k_is)
    (case uTightRegionj => k_is)
    (case uTightRegionk => k_is)
    (case uTightRegionl => k_is)
    (case uTightRegionm => k_is)
    (case uTightRegionn => k_is)
    (case uTightRegiono => k_is)
    (case uTightRegionp => k_is)
    (case uTightRegionq => k_is)
    (case uBlockeda => k_is)
    (case uBlockedb => k_is)
    (case uBlockedc => k_is)
    (case uBlockedd => k_is)
    (case uBlockede => k_is)
    (case uBlockedf => k_is)
    (case uBlockedg => k_is)
    (case uBlockedh => k_is)
    (case uBlockedi => k_is)
    (case uBlockedj => k_is)
    (case uBlockedk => k_is)
    (case uBlockedl => k_is)
    (case uBlockedm => k_is)
    (case uBlockedn => k_is)
    (case uBlockedo => k_is)
    (case uBlockedp => k_is)
    (case uBlockedq => k_is)
    (case uInvalidNamea => k_is)
    (case uInvalidNameb => k_is)
    (case uInvalidNamec => k_is)
    (case uInvalidNamed => k_is)
    (case uInvalidNamee => k_is)
    (case uInvalidNamef => k_is)
    (case uInvalidNameg => k_is)
    (case uInvalidNameh => k_is)
    (case uInvalidNamei => k_is)
    (case uInvalidNamej => k_is)
    (case uInvalidNamek => k_is)
    (case uInvalidNamel => k_is)
    (case uInvalidNamem => k_is)
    (case uInvalidNamen => k_is)
    (case uInvalidNameo => k_is)
    (case uInvalidNamep => k_is)
    (case uInvalidNameq => k_is)
    (case uDuplicateNamea => k_is)
    (case uDuplicateNameb => k_is)
    (case uDuplicateNamec => k_is)
    (case uDuplicateNamed => k_is)
    (case uDuplicateNamee => k_is)
    (case uDuplicateNamef => k_is)
    (case uDuplicateNameg => k_is)
    (case uDuplicateNameh => k_is)
    (case uDuplicateNamei => k_is)
    (case uDuplicateNamej => k_is)
    (case uDuplicateNamek => k_is)
    (case uDuplicateNamel => k_is)
    (case uDuplicateNamem => k_is)
    (case uDuplicateNamen => k_is)
    (case uDuplicateNameo => k_is)
    (case uDuplicateNamep => k_is)
    (case uDuplicateNameq => k_is)
    (case uLimitReacheda => k_is)
    (case uLimitReachedb => k_is)
    (case uLimitReachedc => k_is)
    (case uLimitReachedd => k_is)
    (case uLimitReachede => k_is)
    (case uLimitReachedf => k_is)
    (case uLimitReachedg => k_is)
    (case uLimitReachedh => k_is)
    (case uLimitReachedi => k_is)
    (case uLimitReachedj => k_is)
    (case uLimitReachedk => k_is)
    (case uLimitReachedl => k_is)
    (case uLimitReachedm => k_is)
    (case uLimitReachedn => k_is)
    (case uLimitReachedo => k_is)
    (case uLimitReachedp => k_is)
    (case uLimitReachedq => k_is)
    (case uAlreadyAdjacenta => k_is)
    (case uAlreadyAdjacentb => k_is)
    (case uAlreadyAdjacentc => k_is)
    (case uAlreadyAdjacentd => k_is)
    (case uAlreadyAdjacente => k_is)
    (case uAlreadyAdjacentf => k_is)
    (case uAlreadyAdjacentg => k_is)
    (case uAlreadyAdjacenth => k_is)
    (case uAlreadyAdjacenti => k_is)
    (case uAlreadyAdjacentj => k_is)
    (case uAlreadyAdjacentk => k_is)
    (case uAlreadyAdjacentl => k_is)
    (case uAlreadyAdjacentm => k_is)
    (case uAlreadyAdjacentn => k_is)
    (case uAlreadyAdjacento => k_is)
    (case uAlreadyAdjacentp => k_is)
    (case uAlreadyAdjacentq => k_is)
    (case uWouldFormCyclea => k_is)
    (case uWouldFormCycleb => k_is)
    (case uWouldFormCyclec => k_is)
    (case uWouldFormCycled => k_is)
    (case uWouldFormCyclee => k_is)
    (case uWouldFormCyclef => k_is)
    (case uWouldFormCycleg => k_is)
    (case uWouldFormCycleh => k_is)
    (case uWouldFormCyclei => k_is)
    (case uWouldFormCyclej => k_is)
    (case uWouldFormCyclek => k_is)
    (case uWouldFormCyclel => k_is)
    (case uWouldFormCyclem => k_is)
    (case uWouldFormCyclen => k_is)
    (case uWouldFormCycleo => k_is)
    (case uWouldFormCyclep => k_is)
    (case uWouldFormCycleq => k_is)
    (case uBatchFaileda => k_is)
    (case uBatchFailedb => k_is)
    (case uBatchFailedc => k_is)
    (case uBatchFailedd => k_is)
    (case uBatchFailede => k_is)
    (case uBatchFailedf => k_is)
    (case uBatchFailedg => k_is)
    (case uBatchFailedh => k_is)
    (case uBatchFailedi => k_is)
    (case uBatchFailedj => k_is)
    (case uBatchFailedk => k_is)
    (case uBatchFailedl => k_is)
    (case uBatchFailedm => k_is)
    (case uBatchFailedn => k_is)
    (case uBatchFailedo => k_is)
    (case uBatchFailedp => k_is)
    (case uBatchFailedq => k_is)
    (case uInvalidMomenta => k_is)
    (case uInvalidMomentb => k_is)
    (case uInvalidMomentc => k_is)
    (case uInvalidMomentd => k_is)
    (case uInvalidMomente => k_is)
    (case uInvalidMomentf => k_is)
    (case uInvalidMomentg => k_is)
    (case uInvalidMomenth => k_is)
    (case uInvalidMomenti => k_is)
    (case uInvalidMomentj => k_is)
    (case uInvalidMomentk => k_is)
    (case uInvalidMomentl => k_is)
    (case uInvalidMomentm => k_is)
    (case uInvalidMomentn => k_is)
    (case uInvalidMomento => k_is)
    (case uInvalidMomentp => k_is)
    (case uInvalidMomentq => k_is)
    (case uInvalidTexta => k_is)
    (case uInvalidTextb => k_is)
    (case uInvalidTextc => k_is)
    (case uInvalidTextd => k_is)
    (case uInvalidTexte => k_is)
    (case uInvalidTextf => k_is)
    (case uInvalidTextg => k_is)
    (case uInvalidTexth => k_is)
    (case uInvalidTexti => k_is)
    (case uInvalidTextj => k_is)
    (case uInvalidTextk => k_is)
    (case uInvalidTextl => k_is)
    (case uInvalidTextm => k_is)
    (case uInvalidTextn => k_is)
    (case uInvalidTexto => k_is)
    (case uInvalidTextp => k_is)
    (case uInvalidTextq => k_is)
    (case uNothingToUndoa => k_is)
    (case uNothingToUndob => k_is)
    (case uNothingToUndoc => k_is)
    (case uNothingToUndod => k_is)
    (case uNothingToUndoe => k_is)
    (case uNothingToUndof => k_is)
    (case uNothingToUndog => k_is)
    (case uNothingToUndoh => k_is)
    (case uNothingToUndoi => k_is)
    (case uNothingToUndoj => k_is)
    (case uNothingToUndok => k_is)
    (case uNothingToUndol => k_is)
    (case uNothingToUndom => k_is)
    (case uNothingToUndon => k_is)
    (case uNothingToUndop => k_is)
    (case uNothingToUndoq => k_is)
    (case uHistoryFulla => k_is)
    (case uHistoryFullb => k_is)
    (case uHistoryFullc => k_is)
    (case uHistoryFulld => k_is)
    (case uHistoryFulle => k_is)
    (case uHistoryFullf => k_is)
    (case uHistoryFullg => k_is)
    (case uHistoryFullh => k_is)
    (case uHistoryFulli => k_is)
    (case uHistoryFullj => k_is)
    (case uHistoryFullk => k_is)
    (case uHistoryFulll => k_is)
    (case uHistoryFullm => k_is)
    (case uHistoryFulln => k_is)
    (case uHistoryFullp => k_is)
    (case uHistoryFullq => k_is)
    (case uSessionBusya => k_is)
    (case uSessionBusyb => k_is)
    (case uSessionBusyc => k_is)
    (case uSessionBusyd => k_is)
    (case uSessionBusye => k_is)
    (case uSessionBusyf => k_is)
    (case uSessionBusyg => k_is)
    (case uSessionBusyh => k_is)
    (case uSessionBusyi => k_is)
    (case uSessionBusyj => k_is)
    (case uSessionBusyk => k_is)
    (case uSessionBusyl => k_is)
    (case uSessionBusym => k_is)
    (case uSessionBusyn => k_is)
    (case uSessionBusyp => k_is)
    (case uSessionBusyq => k_is)
    (case uInvalidActionsa => k_is)
    (case uInvalidActionsb => k_is)
    (case uInvalidActionsc => k_is)
    (case uInvalidActionsd => k_is)
    (case uInvalidActionse => k_is)
    (case uInvalidActionsf => k_is)
    (case uInvalidActionsg => k_is)
    (case uInvalidActionsh => k_is)
    (case uInvalidActionsi => k_is)
    (case uInvalidActionsj => k_is)
    (case uInvalidActionsk => k_is)
    (case uInvalidActionsl => k_is)
    (case uInvalidActionsm => k_is)
    (case uInvalidActionsn => k_is)
    (case uInvalidActionsp => k_is)
    (case uInvalidActionsq => k_is)
    (case uInvalidHousea => k_is)
    (case uInvalidHouseb => k_is)
    (case uInvalidHousec => k_is)
    (case uInvalidHoused => k_is)
    (case uInvalidHousee => k_is)
    (case uInvalidHousef => k_is)
    (case uInvalidHouseg => k_is)
    (case uInvalidHouseh => k_is)
    (case uInvalidHousei => k_is)
    (case uInvalidHousej => k_is)
    (case uInvalidHousek => k_is)
    (case uInvalidHousel => k_is)
    (case uInvalidHousem => k_is)
    (case uInvalidHousen => k_is)
    (case uInvalidHousep => k_is)
    (case uInvalidHouseq => k_is)
    (case uInvalidPlacementa => k_is)
    (case uInvalidPlacementb => k_is)
    (case uInvalidPlacementc => k_is)
    (case uInvalidPlacementd => k_is)
    (case uInvalidPlacemente => k_is)
    (case uInvalidPlacementf => k_is)
    (case uInvalidPlacementg => k_is)
    (case uInvalidPlacementh => k_is)
    (case uInvalidPlacementi => k_is)
    (case uInvalidPlacementj => k_is)
    (case uInvalidPlacementk => k_is)
    (case uInvalidPlacementl => k_is)
    (case uInvalidPlacementm => k_is)
    (case uInvalidPlacementn => k_is)
    (case uInvalidPlacementp => k_is)
    (case uInvalidPlacementq => k_is)
    (case a1 => k_is)
    (case l1 => k_is)
    (case c1 => k_is)
    (case k1 => k_is)
    (case a2 => k_is)
    (case l2 => k_is)
    (case c2 => k_is)
    (case k2 => k_is)
    (case a3 => k_is)
    (case l3 => k_is)
    (case c3 => k_is)
    (case k3 => k_is)
    (case a4 => k_is)
    (case l4 => k_is)
    (case c4 => k_is)
    (case k4 => k_is)
    (case a5 => k_is)
    (case l5 => k_is)
    (case c5 => k_is)
    (case k5 => k_is)
    (case a6 => k_is)
    (case l6 => k_is)
    (case c6 => k_is)
    (case k6 => k_is)
    (case a7 => k_is)
    (case l7 => k_is)
    (case c7 => k_is)
    (case k7 => k_is)
    (case a8 => k_is)
    (case l8 => k_is)
    (case c8 => k_is)
    (case k8 => k_is)
    (case a9 => k_is)
    (case l9 => k_is)
    (case c9 => k_is)
    (case k9 => k_is)
    (case a10 => k_is)
    (case l10 => k_is)
    (case c10 => k_is)
    (case k10 => k_is)
    (case a11 => k_is)
    (case l11 => k_is)
    (case c11 => k_is)
    (case k11 => k_is)
    (case a12 => k_is)
    (case l12 => k_is)
    (case c12 => k_is)
    (case k12 => k_is)
    (case a13 => k_is)
    (case l13 => k_is)
    (case c13 => k_is)
    (case k13 => k_is)
    (case a14 => k_is)
    (case l14 => k_is)
    (case c14 => k_is)
    (case k14 => k_is)
    (case a15 => k_is)
    (case l15 => k_is)
    (case c15 => k_is)
    (case k15 => k_is)
    (case a16 => k_is)
    (case l16 => k_is)
    (case c16 => k_is)
    (case k16 => k_is)
    (case a17 => k_is)
    (case l17 => k_is)
    (case c17 => k_is)
    (case k17 => k_is)
    (case a18 => k_is)
    (case l18 => k_is)
    (case c18 => k_is)
    (case k18 => k_is)
    (case a19 => k_is)
    (case l19 => k_is)
    (case c19 => k_is)
    (case k19 => k_is)
    (case a20 => k_is)
    (case l20 => k_is)
    (case c20 => k_is)
    (case k20 => k_is)
    (case a21 => k_is)
    (case l21 => k_is)
    (case c21 => k_is)
    (case k21 => k_is)
    (case a22 => k_is)
    (case l22 => k_is)
    (case c22 => k_is)
    (case k22 => k_is)
    (case a23 => k_is)
    (case l23 => k_is)
    (case c23 => k_is)
    (case k23 => k_is)
    (case a24 => k_is)
    (case l24 => k_is)
    (case c24 => k_is)
    (case k24 => k_is)
    (case a25 => k_is)
    (case l25 => k_is)
    (case c25 => k_is)
    (case k25 => k_is)
    (case a26 => k_is)
    (case l26 => k_is)
    (case c26 => k_is)
    (case k26 => k_is)
    (case a27 => k_is)
    (case l27 => k_is)
    (case c27 => k_is)
    (case k27 => k_is)
    (case z_abs => k_is)
    (case z_len => k_is)
    (case z_list => k_is)
    (case z_range => k_is)
    (case z_min => k_is)
    (case z_max => k_is)
    (case z_tuple => k_is)
    (case z_sorted => k_is)
    (case z_isinstance => k_is)
    (case z_all => k_is)
    (case z_zip => k_is)
    (case z_bool => k_is)
    (case z_int => k_is)
    (case z_str => k_is)
    (case z_repr => k_is)
    (case z_ValueError => k_is)
    (case z_any => k_is)
    (case z_dict => k_is)
