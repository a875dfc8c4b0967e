import PyProof.Rows.All
import Wide.All
import OpenK.AllK
import Wide.FinOn
import HandS.ForMost
import HandS.Conv
import HandS.Style
import HandS.Sort
import HandS.ExcInit
import HandS.ExcField
import HandS.SetFor
import HandS.IsInst
import KE.KExcIs
import HandS.Dict
import HandS.Comp
import PySem.Challenge.RW_fromwithin_k80_errors_constructed
set_option Elab.async false
set_option linter.all false
set_option maxRecDepth 100000
/-! Forests grown room by room: simple ways in them are unique. -/
namespace Fw

def adj (D : List (Int × Int)) (a b : Int) : Prop := (a, b) ∈ D ∨ (b, a) ∈ D

theorem adj_symm {D : List (Int × Int)} {a b : Int} (h : adj D a b) : adj D b a := h.symm

/-- a way without a room twice -/
inductive SP (R : Int → Int → Prop) : Int → Int → List Int → Prop
  | one (a : Int) : SP R a a [a]
  | cons {a c b : Int} {p : List Int} : R a c → SP R c b p → a ∉ p → SP R a b (a :: p)

section
variable {R R' : Int → Int → Prop}
theorem SP.head {a b : Int} {p : List Int} (h : SP R a b p) : a ∈ p := by
  cases h <;> simp
theorem SP.last {a b : Int} {p : List Int} (h : SP R a b p) : b ∈ p := by
  induction h with
  | one a => simp
  | cons _ _ _ ih => exact List.mem_cons_of_mem _ ih
theorem SP.loop {a : Int} {p : List Int} (h : SP R a a p) : p = [a] := by
  cases h with
  | one => rfl
  | cons r q n => exact absurd q.last n
theorem SP.nodup {a b : Int} {p : List Int} (h : SP R a b p) : p.Nodup := by
  induction h with
  | one a => simp
  | cons _ _ n ih => exact List.nodup_cons.mpr ⟨n, ih⟩
theorem SP.snoc {a b c : Int} {p : List Int} (h : SP R a b p) (r : R b c) (n : c ∉ p) : SP R a c (p ++ [c]) := by
  induction h with
  | one a =>
    refine .cons r (.one c) ?_
    intro e
    have e : a = c := List.mem_singleton.mp e
    exact n (by rw [e]; simp)
  | cons r' q n' ih =>
    rename_i a' c' b' p'
    rw [List.mem_cons, not_or] at n
    refine .cons r' (ih r n.2) ?_
    intro e
    rcases List.mem_append.mp e with e | e
    · exact n' e
    · exact n.1 (List.mem_singleton.mp e).symm
theorem SP.map {a b : Int} {p : List Int} (h : SP R a b p) (f : ∀ x y, x ∈ p → y ∈ p → R x y → R' x y) : SP R' a b p := by
  induction h with
  | one a => exact .one a
  | cons r q n ih =>
    exact .cons (f _ _ (List.mem_cons_self ..) (List.mem_cons_of_mem _ q.head) r) (ih fun x y hx hy => f x y (List.mem_cons_of_mem _ hx) (List.mem_cons_of_mem _ hy)) n
/-- what is closed under R and holds the end holds the start, and the other way -/
theorem SP.back {S : Int → Prop} (hs : ∀ x y, R x y → S y → S x) {a b : Int} {p : List Int} (h : SP R a b p) (e : S b) : S a := by
  induction h with
  | one a => exact e
  | cons r _ _ ih => exact hs _ _ r (ih e)
theorem SP.forth {S : Int → Prop} (hs : ∀ x y, R x y → S x → S y) {a b : Int} {p : List Int} (h : SP R a b p) (e : S a) : S b := by
  induction h with
  | one a => exact e
  | cons r _ _ ih => exact ih (hs _ _ r e)
end

def Uniq (R : Int → Int → Prop) : Prop := ∀ a b p q, SP R a b p → SP R a b q → p = q

section
variable {R R' : Int → Int → Prop} {u v : Int}
/-- one more leaf v, on u -/
structure Leaf (R R' : Int → Int → Prop) (u v : Int) : Prop where
  iff : ∀ x y, R' x y ↔ (R x y ∨ (x = u ∧ y = v) ∨ (x = v ∧ y = u))
  no1 : ∀ x, ¬ R v x
  no2 : ∀ x, ¬ R x v
  ne : u ≠ v
theorem Leaf.into (L : Leaf R R' u v) {x : Int} (h : R' x v) : x = u := by
  rcases (L.iff x v).mp h with h | h | h
  · exact absurd h (L.no2 x)
  · exact h.1
  · exact absurd h.2.symm L.ne
theorem Leaf.out (L : Leaf R R' u v) {x : Int} (h : R' v x) : x = u := by
  rcases (L.iff v x).mp h with h | h | h
  · exact absurd h (L.no1 x)
  · exact absurd h.1.symm L.ne
  · exact h.2
theorem Leaf.off (L : Leaf R R' u v) {x y : Int} (hx : x ≠ v) (hy : y ≠ v) (h : R' x y) : R x y := by
  rcases (L.iff x y).mp h with h | h | h
  · exact h
  · exact absurd h.2 hy
  · exact absurd h.1 hx
theorem Leaf.avoid (L : Leaf R R' u v) {a b : Int} {p : List Int} (h : SP R' a b p) (n : v ∉ p) : SP R a b p :=
  h.map fun x y hx hy r => L.off (fun e => n (e ▸ hx)) (fun e => n (e ▸ hy)) r
theorem Leaf.free (L : Leaf R R' u v) {a b : Int} {p : List Int} (h : SP R' a b p) (ha : a ≠ v) (hb : b ≠ v) : v ∉ p := by
  induction h with
  | one a =>
    intro e
    rw [List.mem_singleton] at e
    exact ha e.symm
  | cons r q n ih =>
    rename_i a' c' b' p'
    by_cases hc : c' = v
    · subst hc
      have e := L.into r
      cases q with
      | one => exact absurd rfl hb
      | cons r2 q2 n2 =>
        rename_i c2 p2
        have e2 := L.out r2
        exact absurd (List.mem_cons_of_mem _ (e ▸ e2 ▸ q2.head)) n
    · intro e
      rw [List.mem_cons] at e
      rcases e with e | e
      · exact ha e.symm
      · exact ih hc hb e
theorem Leaf.from (L : Leaf R R' u v) {b : Int} {p : List Int} (h : SP R' v b p) (hb : b ≠ v) : ∃ p', p = v :: p' ∧ SP R u b p' := by
  cases h with
  | one => exact absurd rfl hb
  | cons r q n =>
    rename_i c p'
    have e := L.out r
    subst e
    exact ⟨p', rfl, L.avoid q n⟩
theorem Leaf.to (L : Leaf R R' u v) {a b : Int} {p : List Int} (h : SP R' a b p) : a ≠ v → b = v → ∃ p', p = p' ++ [v] ∧ SP R a u p' := by
  induction h with
  | one a =>
    intro h1 h2
    exact absurd h2 h1
  | cons r q n ih =>
    rename_i a' c' b' p'
    intro h1 h2
    by_cases hc : c' = v
    · subst hc
      subst h2
      have e := L.into r
      subst e
      have e2 := q.loop
      subst e2
      exact ⟨[a'], rfl, .one _⟩
    · obtain ⟨p2, e, q2⟩ := ih hc h2
      refine ⟨a' :: p2, by rw [e]; rfl, .cons (L.off h1 hc r) q2 ?_⟩
      intro m
      exact n (by rw [e]; exact List.mem_append_left _ m)
theorem Leaf.uniq (L : Leaf R R' u v) (U : Uniq R) : Uniq R' := by
  intro a b p q hp hq
  by_cases ha : a = v
  · subst ha
    by_cases hb : b = a
    · subst hb
      rw [hp.loop, hq.loop]
    · obtain ⟨p', e1, s1⟩ := L.from hp hb
      obtain ⟨q', e2, s2⟩ := L.from hq hb
      rw [e1, e2, U _ _ _ _ s1 s2]
  · by_cases hb : b = v
    · obtain ⟨p', e1, s1⟩ := L.to hp ha hb
      obtain ⟨q', e2, s2⟩ := L.to hq ha hb
      rw [e1, e2, U _ _ _ _ s1 s2]
    · exact U _ _ _ _ (L.avoid hp (L.free hp ha hb)) (L.avoid hq (L.free hq ha hb))
end

/-- a forest, room by room: the rooms that stand, and the doors -/
inductive Grown : List Int → List (Int × Int) → Prop
  | nil : Grown [] []
  | room {U : List Int} {E : List (Int × Int)} (v : Int) : Grown U E → v ∉ U → Grown (v :: U) E
  | door {U : List Int} {E : List (Int × Int)} (v u a b : Int) : Grown U E → v ∉ U → u ∈ U → (a = min u v ∧ b = max u v) → Grown (v :: U) ((a, b) :: E)

theorem minmax (u v a b : Int) (h : a = min u v ∧ b = max u v) : (a = u ∧ b = v ∧ u ≤ v) ∨ (a = v ∧ b = u ∧ v ≤ u) := by
  omega

theorem Grown.ends {U : List Int} {E : List (Int × Int)} (g : Grown U E) : ∀ a b, (a, b) ∈ E → a ∈ U ∧ b ∈ U ∧ a < b := by
  induction g with
  | nil => intro a b h; cases h
  | room v g n ih => intro a b h; exact ⟨List.mem_cons_of_mem _ (ih a b h).1, List.mem_cons_of_mem _ (ih a b h).2.1, (ih a b h).2.2⟩
  | door v u x y g n hu hm ih =>
    intro a b h
    have hne : u ≠ v := fun e => n (e ▸ hu)
    rw [List.mem_cons] at h
    rcases h with h | h
    · injection h with h1 h2
      subst h1 h2
      rcases minmax u v a b hm with ⟨h1, h2, h3⟩ | ⟨h1, h2, h3⟩
      · subst h1 h2
        exact ⟨List.mem_cons_of_mem _ hu, List.mem_cons_self .., by omega⟩
      · subst h1 h2
        exact ⟨List.mem_cons_self .., List.mem_cons_of_mem _ hu, by omega⟩
    · exact ⟨List.mem_cons_of_mem _ (ih a b h).1, List.mem_cons_of_mem _ (ih a b h).2.1, (ih a b h).2.2⟩

theorem Grown.nodup {U : List Int} {E : List (Int × Int)} (g : Grown U E) : E.Nodup := by
  induction g with
  | nil => exact List.nodup_nil
  | room v g n ih => exact ih
  | door v u x y g n hu hm ih =>
    refine List.nodup_cons.mpr ⟨fun h => ?_, ih⟩
    have e := g.ends x y h
    rcases minmax u v x y hm with ⟨h1, h2, _⟩ | ⟨h1, h2, _⟩
    · exact n (h2 ▸ e.2.1)
    · exact n (h1 ▸ e.1)

theorem Grown.length {U : List Int} {E : List (Int × Int)} (g : Grown U E) : E.length ≤ U.length := by
  induction g with
  | nil => exact Nat.le_refl _
  | room v g n ih => exact Nat.le_succ_of_le ih
  | door v u x y g n hu hm ih => exact Nat.succ_le_succ ih

theorem Grown.uniq {U : List Int} {E : List (Int × Int)} (g : Grown U E) : Uniq (adj E) := by
  induction g with
  | nil =>
    intro a b p q hp hq
    have k : ∀ {p : List Int}, SP (adj []) a b p → p = [a] := by
      intro p hp
      cases hp with
      | one => rfl
      | cons r _ _ => rcases r with r | r <;> cases r
    rw [k hp, k hq]
  | room v g n ih => exact ih
  | @door U E v u x y g n hu hm ih =>
    have L : Leaf (adj E) (adj ((x, y) :: E)) u v := by
      refine ⟨fun a b => ?_, fun z h => ?_, fun z h => ?_, fun e => n (e ▸ hu)⟩
      · unfold adj
        simp only [List.mem_cons, Prod.mk.injEq]
        rcases minmax u v x y hm with ⟨h1, h2, _⟩ | ⟨h1, h2, _⟩
        · subst h1 h2
          constructor
          · rintro ((h | h) | (h | h))
            · exact .inr (.inl h)
            · exact .inl (.inl h)
            · exact .inr (.inr ⟨h.2, h.1⟩)
            · exact .inl (.inr h)
          · rintro ((h | h) | h | h)
            · exact .inl (.inr h)
            · exact .inr (.inr h)
            · exact .inl (.inl h)
            · exact .inr (.inl ⟨h.2, h.1⟩)
        · subst h1 h2
          constructor
          · rintro ((h | h) | (h | h))
            · exact .inr (.inr h)
            · exact .inl (.inl h)
            · exact .inr (.inl ⟨h.2, h.1⟩)
            · exact .inl (.inr h)
          · rintro ((h | h) | h | h)
            · exact .inl (.inr h)
            · exact .inr (.inr h)
            · exact .inr (.inl ⟨h.2, h.1⟩)
            · exact .inl (.inl h)
      · rcases h with h | h
        · exact n (g.ends _ _ h).1
        · exact n (g.ends _ _ h).2.1
      · rcases h with h | h
        · exact n (g.ends _ _ h).2.1
        · exact n (g.ends _ _ h).1
    exact L.uniq ih

/-- a door stands ahead of another -/
def Dlt (a b : Int × Int) : Prop := a.1 < b.1 ∨ (a.1 = b.1 ∧ a.2 < b.2)
/-- a forest of n rooms, as an ascending list of doors -/
def Forest (n : Int) (D : List (Int × Int)) : Prop := ∃ U E, Grown U E ∧ (∀ x, x ∈ U ↔ 0 ≤ x ∧ x < n) ∧ D.Perm E ∧ U.length ≤ 8 ∧ D.Pairwise Dlt

theorem adj_perm {D E : List (Int × Int)} (h : D.Perm E) : adj D = adj E := by
  funext a b
  unfold adj
  rw [h.mem_iff, h.mem_iff]
theorem Forest.uniq {n : Int} {D : List (Int × Int)} (f : Forest n D) : Uniq (adj D) := by
  obtain ⟨U, E, g, _, p, _⟩ := f
  rw [adj_perm p]
  exact g.uniq
theorem Forest.nodup {n : Int} {D : List (Int × Int)} (f : Forest n D) : D.Nodup := by
  obtain ⟨U, E, g, _, p, _⟩ := f
  exact p.nodup_iff.mpr g.nodup
theorem Forest.up {n : Int} {D : List (Int × Int)} (f : Forest n D) : D.Pairwise Dlt := by
  obtain ⟨U, E, _, _, _, _, u⟩ := f
  exact u
theorem Forest.len {n : Int} {D : List (Int × Int)} (f : Forest n D) : D.length ≤ 8 := by
  obtain ⟨U, E, g, _, p, l, _⟩ := f
  rw [p.length_eq]
  exact Nat.le_trans g.length l
theorem Forest.ends {n : Int} {D : List (Int × Int)} (f : Forest n D) {a b : Int} (h : (a, b) ∈ D) : 0 ≤ a ∧ a < b ∧ b < n := by
  obtain ⟨U, E, g, u, p, _⟩ := f
  have e := g.ends a b (p.mem_iff.mp h)
  exact ⟨((u a).mp e.1).1, e.2.2, ((u b).mp e.2.1).2⟩
theorem Forest.adj {n : Int} {D : List (Int × Int)} (f : Forest n D) {a b : Int} (h : adj D a b) : 0 ≤ a ∧ a < n ∧ 0 ≤ b ∧ b < n := by
  rcases h with h | h
  · have e := f.ends h; omega
  · have e := f.ends h; omega

/-- the adjacent rooms, ascending -/
def nb (n : Int) (D : List (Int × Int)) (r : Int) : List Int := ((List.range n.toNat).map fun (i : Nat) => (i : Int)).filter fun o => decide ((r, o) ∈ D) || decide ((o, r) ∈ D)
theorem mem_nb {n : Int} {D : List (Int × Int)} {r o : Int} : o ∈ nb n D r ↔ (0 ≤ o ∧ o < n) ∧ adj D r o := by
  unfold nb adj
  rw [List.mem_filter, List.mem_map]
  simp only [List.mem_range, Bool.or_eq_true, decide_eq_true_eq]
  constructor
  · rintro ⟨⟨i, hi, rfl⟩, h⟩
    exact ⟨⟨by omega, by omega⟩, h⟩
  · rintro ⟨⟨h0, h1⟩, h⟩
    exact ⟨⟨o.toNat, by omega, by omega⟩, h⟩
theorem Forest.mem_nb {n : Int} {D : List (Int × Int)} (f : Forest n D) {r o : Int} : o ∈ nb n D r ↔ Fw.adj D r o := by
  rw [Fw.mem_nb]
  exact ⟨fun h => h.2, fun h => ⟨⟨(f.adj h).2.2.1, (f.adj h).2.2.2⟩, h⟩⟩
theorem range_up (n : Nat) : ((List.range n).map fun (i : Nat) => (i : Int)).Pairwise (· < ·) := by
  rw [List.pairwise_map]
  exact List.pairwise_lt_range.imp fun h => by omega
theorem nb_up (n : Int) (D : List (Int × Int)) (r : Int) : (nb n D r).Pairwise (· < ·) := (range_up _).filter _
theorem nb_len (n : Int) (D : List (Int × Int)) (r : Int) : (nb n D r).length ≤ n.toNat := by
  unfold nb
  refine Nat.le_trans (List.length_filter_le _ _) ?_
  simp

/-- two ascending lists with the same members are one -/
theorem up_ext : ∀ {xs ys : List Int}, xs.Pairwise (· < ·) → ys.Pairwise (· < ·) → (∀ x, x ∈ xs ↔ x ∈ ys) → xs = ys
  | [], [], _, _, _ => rfl
  | [], y :: ys, _, _, h => absurd ((h y).mpr (List.mem_cons_self ..)) (by simp)
  | x :: xs, [], _, _, h => absurd ((h x).mp (List.mem_cons_self ..)) (by simp)
  | x :: xs, y :: ys, hx, hy, h => by
    obtain ⟨hx1, hx2⟩ := List.pairwise_cons.mp hx
    obtain ⟨hy1, hy2⟩ := List.pairwise_cons.mp hy
    have e : x = y := by
      have h1 := (h x).mp (List.mem_cons_self ..)
      have h2 := (h y).mpr (List.mem_cons_self ..)
      rw [List.mem_cons] at h1 h2
      rcases h1 with h1 | h1
      · exact h1
      · rcases h2 with h2 | h2
        · exact h2.symm
        · have := hy1 _ h1
          have := hx1 _ h2
          omega
    subst e
    rw [up_ext hx2 hy2 fun z => ?_]
    have hz := h z
    rw [List.mem_cons, List.mem_cons] at hz
    constructor
    · intro m
      rcases hz.mp (.inr m) with e | e
      · subst e; have := hx1 _ m; omega
      · exact e
    · intro m
      rcases hz.mpr (.inr m) with e | e
      · subst e; have := hy1 _ m; omega
      · exact e
theorem up_of {xs : List Int} (h : xs.Pairwise (· ≤ ·)) (n : xs.Nodup) : xs.Pairwise (· < ·) := by
  refine (h.and n).imp ?_
  intro a b ⟨h1, h2⟩
  omega

/-- the doors from r and to r, as the law lists them -/
def outs (D : List (Int × Int)) (r : Int) : List Int := (D.filter fun d => decide (d.1 = r)).map (·.2)
def ins (D : List (Int × Int)) (r : Int) : List Int := (D.filter fun d => decide (d.2 = r)).map (·.1)
theorem mem_outs {D : List (Int × Int)} {r o : Int} : o ∈ outs D r ↔ (r, o) ∈ D := by
  unfold outs
  simp only [List.mem_map, List.mem_filter, decide_eq_true_eq]
  constructor
  · rintro ⟨⟨a, b⟩, ⟨h, rfl⟩, rfl⟩; exact h
  · intro h; exact ⟨(r, o), ⟨h, rfl⟩, rfl⟩
theorem mem_ins {D : List (Int × Int)} {r o : Int} : o ∈ ins D r ↔ (o, r) ∈ D := by
  unfold ins
  simp only [List.mem_map, List.mem_filter, decide_eq_true_eq]
  constructor
  · rintro ⟨⟨a, b⟩, ⟨h, rfl⟩, rfl⟩; exact h
  · intro h; exact ⟨(o, r), ⟨h, rfl⟩, rfl⟩
theorem nodup_map_on {α β : Type} {f : α → β} : ∀ {xs : List α}, xs.Nodup → (∀ x y, x ∈ xs → y ∈ xs → f x = f y → x = y) → (xs.map f).Nodup
  | [], _, _ => List.nodup_nil
  | x :: xs, n, h => by
    obtain ⟨n1, n2⟩ := List.nodup_cons.mp n
    rw [List.map_cons]
    refine List.nodup_cons.mpr ⟨fun m => ?_, nodup_map_on n2 fun a b ha hb => h a b (List.mem_cons_of_mem _ ha) (List.mem_cons_of_mem _ hb)⟩
    obtain ⟨y, hy, e⟩ := List.mem_map.mp m
    have := h y x (List.mem_cons_of_mem _ hy) (List.mem_cons_self ..) e
    subst this
    exact n1 hy
theorem Forest.both_nodup {n : Int} {D : List (Int × Int)} (f : Forest n D) (r : Int) : (outs D r ++ ins D r).Nodup := by
  rw [List.nodup_append]
  refine ⟨?_, ?_, ?_⟩
  · refine nodup_map_on (f.nodup.filter _) ?_
    rintro ⟨a, b⟩ ⟨c, d⟩ h1 h2 e
    have e1 := of_decide_eq_true (List.mem_filter.mp h1).2
    have e2 := of_decide_eq_true (List.mem_filter.mp h2).2
    simp only at e e1 e2
    rw [e, e1, e2]
  · refine nodup_map_on (f.nodup.filter _) ?_
    rintro ⟨a, b⟩ ⟨c, d⟩ h1 h2 e
    have e1 := of_decide_eq_true (List.mem_filter.mp h1).2
    have e2 := of_decide_eq_true (List.mem_filter.mp h2).2
    simp only at e e1 e2
    rw [e, e1, e2]
  · intro a ha b hb e
    subst e
    have h1 := f.ends (mem_outs.mp ha)
    have h2 := f.ends (mem_ins.mp hb)
    omega
theorem Forest.sorted_nb {n : Int} {D : List (Int × Int)} (f : Forest n D) {r : Int} {ys : List Int} (p : ys.Perm (outs D r ++ ins D r)) (s : ys.Pairwise (· ≤ ·)) : ys = nb n D r := by
  refine up_ext (up_of s (p.nodup_iff.mpr (f.both_nodup r))) (nb_up n D r) fun x => ?_
  rw [p.mem_iff, List.mem_append, mem_outs, mem_ins, f.mem_nb]
  exact Iff.rfl

/-- the doors to r and from r, one list behind the other, as the program lists them -/
theorem Forest.nb_eq {n : Int} {D : List (Int × Int)} (f : Forest n D) (r : Int) : ins D r ++ outs D r = nb n D r := by
  refine up_ext ?_ (nb_up n D r) fun x => ?_
  · rw [List.pairwise_append]
    refine ⟨?_, ?_, fun a ha b hb => ?_⟩
    · unfold ins
      rw [List.pairwise_map]
      refine (f.up.filter _).imp_of_mem fun {x y} hx hy h => ?_
      have e1 : x.2 = r := of_decide_eq_true (List.mem_filter.mp hx).2
      have e2 : y.2 = r := of_decide_eq_true (List.mem_filter.mp hy).2
      unfold Dlt at h
      omega
    · unfold outs
      rw [List.pairwise_map]
      refine (f.up.filter _).imp_of_mem fun {x y} hx hy h => ?_
      have e1 : x.1 = r := of_decide_eq_true (List.mem_filter.mp hx).2
      have e2 : y.1 = r := of_decide_eq_true (List.mem_filter.mp hy).2
      unfold Dlt at h
      omega
    · have h1 := f.ends (mem_ins.mp ha)
      have h2 := f.ends (mem_outs.mp hb)
      omega
  · rw [List.mem_append, mem_outs, mem_ins, f.mem_nb]
    exact or_comm
/-- how many rooms below n are not in S: it falls when one more is -/
def left (n : Nat) (S : Int → Bool) : Nat := (List.range n).countP fun (i : Nat) => !S (i : Int)
theorem countP_lt {α : Type} {p q : α → Bool} : ∀ {l : List α} {x : α}, (∀ y ∈ l, q y = true → p y = true) → x ∈ l → p x = true → q x = false → l.countP q < l.countP p
  | [], _, _, m, _, _ => by cases m
  | y :: l, x, h, m, hp, hq => by
    have hm : l.countP q ≤ l.countP p := List.countP_mono_left fun z hz => h z (List.mem_cons_of_mem _ hz)
    rw [List.countP_cons, List.countP_cons]
    rw [List.mem_cons] at m
    by_cases e : x = y
    · subst e
      rw [if_neg (by rw [hq]; exact Bool.false_ne_true), if_pos hp]
      omega
    · have ih := countP_lt (fun z hz => h z (List.mem_cons_of_mem _ hz)) (m.resolve_left e) hp hq
      have hy := h y (List.mem_cons_self ..)
      by_cases c : q y = true
      · rw [if_pos c, if_pos (hy c)]; omega
      · rw [if_neg c]; omega
theorem left_lt {n : Nat} {S S' : Int → Bool} {o : Int} (h : ∀ x, S x = true → S' x = true) (h0 : 0 ≤ o) (h1 : o < n) (hs : S o = false) (hs' : S' o = true) : left n S' < left n S := by
  refine countP_lt (x := o.toNat) (fun y _ hy => ?_) (List.mem_range.mpr (by omega)) ?_ ?_
  · cases e : S (y : Int) with
    | false => rfl
    | true => rw [h _ e] at hy; cases hy
  · rw [show ((o.toNat : Nat) : Int) = o by omega, hs]; rfl
  · rw [show ((o.toNat : Nat) : Int) = o by omega, hs']; rfl
theorem left_le (n : Nat) (S : Int → Bool) : left n S ≤ n := by
  refine Nat.le_trans List.countP_le_length ?_
  simp
end Fw
namespace Fw
open PySem PySem.Spec PyProof.Rows L2
def top (i : Nat) : Stmt := PySem.Challenge.pw_fromwithin_k80_errors_constructed.main.body.getD i (.Pass ⟨0, 0, 0, 0⟩)
abbrev iUnknownPerson : Stmt := inClass (top 2) 0
abbrev iInvalidRoom : Stmt := inClass (top 3) 0
abbrev iNotAdjacent : Stmt := inClass (top 4) 0
abbrev iEmptyRoom : Stmt := inClass (top 5) 0
abbrev iInvalidMoves : Stmt := inClass (top 6) 0
abbrev iOtherRegion : Stmt := inClass (top 7) 0
abbrev iTightRegion : Stmt := inClass (top 8) 0
abbrev iBlocked : Stmt := inClass (top 9) 0
abbrev iInvalidName : Stmt := inClass (top 10) 0
abbrev iDuplicateName : Stmt := inClass (top 11) 0
abbrev iLimitReached : Stmt := inClass (top 12) 0
abbrev iAlreadyAdjacent : Stmt := inClass (top 13) 0
abbrev iWouldFormCycle : Stmt := inClass (top 14) 0
abbrev iNothingToUndo : Stmt := inClass (top 15) 0
abbrev iHistoryFull : Stmt := inClass (top 16) 0
abbrev iSessionBusy : Stmt := inClass (top 17) 0
abbrev iInvalidActions : Stmt := inClass (top 18) 0
abbrev iBatchFailed : Stmt := inClass (top 19) 0
abbrev iInvalidMoment : Stmt := inClass (top 20) 0
abbrev iInvalidHouse : Stmt := inClass (top 21) 0
abbrev iInvalidPlacement : Stmt := inClass (top 22) 0
abbrev iInvalidText : Stmt := inClass (top 23) 0
abbrev sStream : Stmt := top 25
abbrev sDraw : Stmt := top 26
abbrev sRand : Stmt := top 27
abbrev sCount : Stmt := top 28
abbrev sHolds : Stmt := top 29
abbrev sLaw : Stmt := top 30
end Fw
namespace Fw
open PySem PySem.Spec PyProof.Rows L2
abbrev vi (ns : List Int) : List V := ns.map V.int

theorem same_upd {H : Hp} {p : Addr} {o : HO} (h : H p = none) : Same H (upd H p o) := fun b x e => by
  rw [upd_ne (ne_of_none e h)]
  exact e

/-- the stream of draws: s the list of three, A the great cells, B all cells; c bounds the count -/
structure StreamAt (H : Hp) (s A B : Addr) (c : Nat) : Prop where
  ex : ∃ (big cells : List Int) (cnt : Int), H s = some (.lst [.ref A, .ref B, .int cnt]) ∧ H A = some (.lst (vi big)) ∧ H B = some (.lst (vi cells)) ∧
    (∀ x ∈ big, 0 ≤ x) ∧ (∀ x ∈ cells, 0 ≤ x) ∧ 0 < cells.length ∧ cells.length ≤ 100 ∧ big.length ≤ 100 ∧ 0 ≤ cnt ∧ cnt ≤ c
  nAB : A ≠ B
  nsA : s ≠ A
  nsB : s ≠ B
/-- all but the stream's own lists stands as before -/
def Fr (s A : Addr) (H H' : Hp) : Prop := ∀ b o, b ≠ s → b ≠ A → H b = some o → H' b = some o
theorem Fr.trans {s A : Addr} {H H1 H2 : Hp} (a : Fr s A H H1) (b : Fr s A H1 H2) : Fr s A H H2 := fun c o h1 h2 e => b c o h1 h2 (a c o h1 h2 e)
theorem Fr.of {s A : Addr} {H H1 : Hp} (a : Same H H1) : Fr s A H H1 := fun c o _ _ e => a c o e

theorem same_put {H H1 : Hp} {p : Addr} {o : HO} (s : Same H H1) (h : H p = none) : Same H (upd H1 p o) := fun b x e => by
  rw [upd_ne (ne_of_none e h)]
  exact s _ _ e
theorem get_vi {ns : List Int} {i : Nat} {x : V} (h : (vi ns)[i]? = some x) : ∃ v, ns[i]? = some v ∧ x = .int v := by
  rw [List.getElem?_map] at h
  cases e : ns[i]? with
  | none => rw [e] at h; cases h
  | some v => rw [e] at h; exact ⟨v, rfl, (Option.some.inj h).symm⟩
theorem vi_app (a b : List Int) : vi (a ++ b) = vi a ++ vi b := List.map_append
def absI (i : Int) : Int := if i < 0 then -i else i
theorem absI_pos (i : Int) : 0 ≤ absI i := by unfold absI; split <;> omega
/-- the builtins' names are not taken -/
structure Nm (mg : Str → Option Value) : Prop where
  abs : mg "abs" = none
  len : mg "len" = none
  list : mg "list" = none
  range : mg "range" = none
  min : mg "min" = none
  max : mg "max" = none
  tuple : mg "tuple" = none
  sorted : mg "sorted" = none
  isinstance : mg "isinstance" = none
  all : mg "all" = none
  zip : mg "zip" = none
  bool : mg "bool" = none
  int : mg "int" = none
  str : mg "str" = none
  repr : mg "repr" = none

/-! ### data -/
theorem dp_ints {K : PySem.W.Frag} {H : Hp} : ∀ ns : List Int, DpAll K H (vi ns) (ns.map PyData.int)
  | [] => .nil
  | n :: ns => .cons (.int n) (dp_ints ns)
theorem lay_ints : ∀ ns : List Int, PyData.canLayAll0 (ns.map PyData.int) = true
  | [] => by simp [PyData.canLayAll0]
  | n :: ns => by
    rw [List.map_cons, PyData.canLayAll0, lay_ints ns, PyData.canLay0]
    rfl
theorem deep_ints : ∀ ns : List Int, PyData.depthAll (ns.map PyData.int) = 0
  | [] => by simp [PyData.depthAll]
  | n :: ns => by
    rw [List.map_cons, PyData.depthAll, deep_ints ns, PyData.depth]
    rfl
theorem shaped_list (ns : List Int) : SeqAt.shaped (.list (ns.map PyData.int)) = true := by
  unfold SeqAt.shaped
  rw [PyData.canLay0, lay_ints, PyData.depth, deep_ints]
  decide
theorem shaped_tup (ns : List Int) : SeqAt.shaped (.tuple (ns.map PyData.int)) = true := by
  unfold SeqAt.shaped
  rw [PyData.canLay0, lay_ints, PyData.depth, deep_ints]
  decide
theorem eqv_nil (ns : List Int) : PyData.eqv (.list (ns.map PyData.int)) (.list []) = ns.isEmpty := by
  rw [PyData.eqv]
  cases ns with
  | nil => rw [List.map_nil, PyData.eqvAll]; rfl
  | cons n ns => rw [List.map_cons, PyData.eqvAll]; rfl
theorem ix0 (n : Nat) : ixN (n + 1) 0 = some 0 := by
  unfold ixN
  rw [if_pos (by omega), if_pos (by omega)]
  rfl
theorem atI0 {α : Type} {x : α} {xs : List α} : atI (x :: xs) 0 = some x := atI_nat (j := 0) rfl
theorem atI1 {α : Type} {x y : α} {xs : List α} : atI (x :: y :: xs) 1 = some y := atI_nat (j := 1) rfl
theorem atI2 {α : Type} {x y z : α} {xs : List α} : atI (x :: y :: z :: xs) 2 = some z := atI_nat (j := 2) rfl

section
variable {P : Program} {w : World} {K : PySem.W.Frag} {mg : Str → Option Value} {base : Heap}

def spStream (K : PySem.W.Frag) : Sp := fun vs H Q _ => ∃ (a : Addr) (ns : List Int), vs = [.ref a] ∧ SqL K H a (ns.map V.int) ∧ ns.length ≤ 63 ∧
  ∀ H' s A B, Same H H' → H s = none → H A = none → StreamAt H' s A B 0 → Q (.ref s) H'

theorem scStream : FnScope ["_law_script", "_law_cells", "_law_cell"] ["_law_script"] (defScope sStream) := ⟨rfl, rfl, rfl, by decide +kernel, rfl, by decide +kernel, by decide +kernel⟩
theorem ok_stream {f : Addr} {fd : FuncData} {k : Nat} (F : Fun K "_law_stream" "_law_stream" sStream f fd) (T : Nm mg) : FnOk P w K mg base CX0 (k + 1) f fd ["_law_script"] (spStream K) := by
  refine F.ok scStream (fun vs H Q E h => ?_) (fun cdv A outer s H vs Q E hr h => ?_)
  · obtain ⟨a, ns, rfl, _⟩ := h
    rfl
  · obtain ⟨a, ns, rfl, hS, hlen, q⟩ := h
    refine ⟨_, pss_cons (ps_setLc (i := 1) (own := [("_law_cell", 2)]) (g := gName 2) (by rfl) scStream.nd rfl rfl (sw_true rfl rfl rfl (by decide +kernel)) (pi_list (pv 0))
        (blkOk_by (own := [("_law_cell", 2)]) (N := ["_law_script", "_law_cells", "_law_cell"]) (sc := defScope sStream) (by decide +kernel))
        (fun _ _ _ _ _ => pg_name (i := 2) scStream.nd rfl (Or.inl rfl)) (fun _ _ _ _ _ => pts_nil)
        (fun _ _ _ _ _ => pe_callB call_abs (by rfl) T.abs (by decide +kernel) (pa_cons (pv 2) pa_nil)))
      (pss_one (ps_ret (pe_lst (pa_cons
        (pe_lc (own := [("_law_cell", 2)]) (g := gName 2) (by rfl) scStream.nd (pi_list (pv 1))
          (blkOk_by (own := [("_law_cell", 2)]) (N := ["_law_script", "_law_cells", "_law_cell"]) (sc := defScope sStream) (by decide +kernel))
          (fun _ _ _ _ _ => pg_name (i := 2) scStream.nd rfl (Or.inl rfl)) (fun _ _ _ _ _ => pts_one (pt_cmpR op_ge (pv 2) (pe_op op_pow pe_int pe_int) (nomark _)))
          (fun _ _ _ _ _ => pv 2))
        (pa_cons (pe_op op_cat (pv 1) (pe_lst (pa_cons (pe_op op_add (pe_callB call_len_seq (by rfl) T.len PySem.boot_len (pa_cons (pv 1) pa_nil)) pe_int) pa_nil)))
        (pa_cons pe_int pa_nil)))))), ?_⟩
    refine ⟨.ref a, rfl, a, rfl, ⟨_, hS⟩, fun D hD => lc_list (K := K) (a := a) (xs := vi ns) (fun i H1 => Same H H1 ∧ H1 D = some (.lst (vi ((ns.map absI).take i))))
      ⟨same_upd hD, upd_same⟩ (fun i H1 _ h => h.1.seq hS) ?_ ?_⟩
    · rintro i x H1 hx ⟨s1, e1⟩
      obtain ⟨v, ev, rfl⟩ := get_vi hx
      refine ⟨rfl, ?_⟩
      unfold tYes
      refine iteT ?_
      refine ⟨_, rfl, v, rfl, _, e1, ?_, ?_, ?_⟩
      · rw [List.length_map, List.length_take, List.length_map]
        exact small1000 (by omega)
      · exact same_put s1 hD
      · rw [upd_same, List.take_add_one, List.getElem?_map, ev, vi_app]
        rfl
    · rintro H1 ⟨s1, e1⟩
      rw [List.length_map, ← List.length_map (f := absI), List.take_length] at e1
      refine ⟨_, rfl, D, rfl, ⟨_, SqL.of e1⟩, fun G hG => lc_list (K := K) (a := D) (xs := vi (ns.map absI)) (fun i H2 => Same H1 H2 ∧ H2 G = some (.lst (vi (((ns.map absI).take i).filter fun x => decide (10 ^ 18 ≤ x)))))
        ⟨same_upd hG, upd_same⟩ (fun i H2 _ h => h.1.seq (SqL.of e1)) ?_ ?_⟩
      · rintro i x H2 hx ⟨s2, e2⟩
        obtain ⟨v, ev, rfl⟩ := get_vi hx
        refine ⟨rfl, _, rfl, _, _, rfl, rfl, ⟨by decide, by decide, by decide⟩, _, _, rfl, rfl, _, rfl, ?_⟩
        have et : ((ns.map absI).take (i + 1)).filter (fun x => decide (10 ^ 18 ≤ x)) = ((ns.map absI).take i).filter (fun x => decide (10 ^ 18 ≤ x)) ++ (if 10 ^ 18 ≤ v then [v] else []) := by
          rw [List.take_add_one, ev, List.filter_append]
          congr 1
          by_cases c : (10 : Int) ^ 18 ≤ v
          · rw [if_pos c]
            show List.filter _ [v] = [v]
            rw [List.filter_cons_of_pos (by simpa using c)]
            rfl
          · rw [if_neg c]
            show List.filter _ [v] = []
            rw [List.filter_cons_of_neg (by simpa using c)]
            rfl
        refine ite2 (fun c => ?_) (fun c => ?_)
        · have c : (10 : Int) ^ 18 ≤ v := of_decide_eq_true c
          refine ⟨_, rfl, _, e2, ?_, same_put s2 hG, ?_⟩
          · rw [List.length_map]
            refine small1000 (Nat.le_trans (List.length_filter_le _ _) ?_)
            rw [List.length_take, List.length_map]
            omega
          · rw [upd_same, et, if_pos c, vi_app]
            rfl
        · have c : ¬ (10 : Int) ^ 18 ≤ v := fun e => c (decide_eq_true e)
          refine ⟨s2, ?_⟩
          rw [et, if_neg c, List.append_nil]
          exact e2
      · rintro H2 ⟨s2, e2⟩
        rw [List.length_map, List.take_length] at e2
        have e1' := s2 _ _ e1
        refine ⟨_, rfl, _, rfl, D, _, rfl, .inl (SqL.of e1'), _, _, rfl, rfl, by show 1 ≤ sizeLine; decide, fun O hO => ?_⟩
        have e1'' := same_upd (o := .lst [.int (((vi (ns.map absI)).length : Nat) + 3)]) hO _ _ e1'
        refine ⟨D, O, _, _, rfl, rfl, e1'', upd_same, ?_, fun B hB => ?_⟩
        · simp only [List.length_map, List.length_append, List.length_cons, List.length_nil]
          exact Nat.le_of_lt (small1000 (by omega))
        refine ⟨by show 3 ≤ sizeLine; decide, fun S hS' => ?_⟩
        have nGS : S ≠ G := fun e => by
          rw [e] at hS'
          exact absurd hS' (by rw [same_upd hB _ _ (same_upd hO _ _ e2)]; exact nofun)
        have nBS : S ≠ B := fun e => by
          rw [e, upd_same] at hS'
          cases hS'
        have nGB : G ≠ B := fun e => by
          rw [← e] at hB
          exact absurd hB (by rw [same_upd hO _ _ e2]; exact nofun)
        have sA : Same H (upd (upd H2 O (.lst [.int (((vi (ns.map absI)).length : Nat) + 3)])) B (.lst (vi (ns.map absI) ++ [.int (((vi (ns.map absI)).length : Nat) + 3)]))) := (s1.trans s2).trans ((same_upd hO).trans (same_upd hB))
        refine q _ S G B (sA.trans (same_upd hS')) (sA.free hS') (s1.free hG) ⟨⟨(ns.map absI).filter (fun x => decide (10 ^ 18 ≤ x)), ns.map absI ++ [((ns.length : Nat) : Int) + 3], 0, upd_same, ?_, ?_, ?_, ?_, ?_, ?_, ?_, Int.le_refl _, Int.le_refl _⟩, nGB, nGS, nBS⟩
        · rw [upd_ne nGS.symm, upd_ne nGB, same_upd hO _ _ e2]
        · rw [upd_ne nBS.symm, upd_same, vi_app]
          show some (HO.lst (vi (ns.map absI) ++ [V.int (((vi (ns.map absI)).length : Nat) + 3)])) = _
          rw [List.length_map, List.length_map]
          rfl
        · intro x hx
          obtain ⟨y, _, rfl⟩ := List.mem_map.mp (List.mem_filter.mp hx).1
          exact absI_pos y
        · intro x hx
          rcases List.mem_append.mp hx with hx | hx
          · obtain ⟨y, _, rfl⟩ := List.mem_map.mp hx
            exact absI_pos y
          · rw [List.mem_singleton.mp hx]
            omega
        · simp
        · simp only [List.length_map, List.length_append, List.length_cons, List.length_nil]
          omega
        · refine Nat.le_trans (List.length_filter_le _ _) ?_
          rw [List.length_map]
          omega

def spDraw : Sp := fun vs H Q _ => ∃ (s A B : Addr) (c : Nat) (m : Int), vs = [.ref s, .int m] ∧ StreamAt H s A B c ∧ c < 2 ^ 40 ∧ 0 < m ∧ m < 2 ^ 20 ∧
  ∀ H' r, StreamAt H' s A B (c + 1) → Fr s A H H' → 0 ≤ r → r < m → Q (.int r) H'

theorem scDraw : FnScope ["_law_stream_here", "_law_many", "_law_rest", "_law_turn", "_law_cell", "_law_mixed"] ["_law_stream_here", "_law_many"] (defScope sDraw) := ⟨rfl, rfl, rfl, by decide +kernel, rfl, by decide +kernel, by decide +kernel⟩
theorem ok_draw {f : Addr} {fd : FuncData} {k : Nat} (F : Fun K "_law_draw" "_law_draw" sDraw f fd) (T : Nm mg) : FnOk P w K mg base CX0 (k + 1) f fd ["_law_stream_here", "_law_many"] spDraw := by
  refine F.ok scDraw (fun vs H Q E h => ?_) (fun cdv A outer s H vs Q E hr h => ?_)
  · obtain ⟨s, A, B, c, m, rfl, _⟩ := h
    rfl
  · obtain ⟨s, A, B, c, m, rfl, hS, hc, hm0, hm1, q⟩ := h
    refine ⟨_, pss_cons (ps_while PassesOwn.never (pt_cmpR (op_neD hr.units) (pe_ix ix_list (pv 0) pe_int (fun _ _ => rfl)) (pe_lst pa_nil) (nomark _))
        (pss_cons (ps_set (i := 2) scDraw.nd rfl (.inl rfl) (pe_ix ix_list (pe_ix ix_list (pv 0) pe_int (fun _ _ => rfl)) pe_int (fun _ _ => rfl)))
        (pss_cons (ps_if (pt_cmpR op_gt (pv 2) pe_int (nomark _))
          (pss_cons (ps_asg (pe_op op_fdivN (pv 2) (pv 1)) (pg_sub (pe_ix ix_list (pv 0) pe_int (fun _ _ => rfl)) pe_int set_list))
          (pss_one (ps_ret (pe_op op_modN (pv 2) (pv 1))))) pss_nil)
        (pss_one (ps_expr (pe_bm PySem.F.plainAttrs_list PySem.F.slot_list_pop PySem.F.type_list_pop mt_popAt (pe_ix ix_list (pv 0) pe_int (fun _ _ => rfl)) (pa_cons pe_int pa_nil)))))))
      (pss_cons (ps_set (i := 3) scDraw.nd rfl (.inl rfl) (pe_op op_add (pe_ix ix_list (pv 0) pe_int (fun _ _ => rfl)) pe_int))
      (pss_cons (ps_asg (pv 3) (pg_sub (pv 0) pe_int set_list))
      (pss_cons (ps_set (i := 4) scDraw.nd rfl (.inl rfl) (pe_op op_modN (pe_ix ix_list (pe_ix ix_list (pv 0) pe_int (fun _ _ => rfl)) (pe_op op_modN (pv 3) (pe_callB call_len_seq (by rfl) T.len PySem.boot_len (pa_cons (pe_ix ix_list (pv 0) pe_int (fun _ _ => rfl)) pa_nil))) (fun _ _ => rfl)) pe_int))
      (pss_cons (ps_set (i := 5) scDraw.nd rfl (.inl rfl) (pe_op op_add (pe_op op_add (pe_op op_mul (pv 4) (pe_op op_add pe_int (pe_op op_mul pe_int (pv 3)))) (pe_op op_mul (pe_op op_mul pe_int (pv 3)) (pv 3))) pe_int))
      (pss_cons (ps_set (i := 5) scDraw.nd rfl (.inl rfl) (pe_op op_modN (pv 5) pe_int))
      (pss_one (ps_ret (pe_op op_modN (pe_op op_fdivN (pe_op op_modN (pe_op op_mul (pv 5) (pv 5)) pe_int) pe_int) (pv 1))))))))), ?_⟩
    have fm : ∀ x y : Int, 0 < y → 0 ≤ x.fmod y ∧ x.fmod y < y := fun x y hy => by
      rw [Int.fmod_eq_emod_of_nonneg x (Int.le_of_lt hy)]
      exact ⟨Int.emod_nonneg x (by omega), Int.emod_lt_of_pos x hy⟩
    refine ⟨fun n σ H' => ∃ y2, σ = [some (.ref s), some (.int m), y2, none, none, none] ∧ StreamAt H' s A B c ∧ Fr s A H H' ∧ ∃ big : List Int, H' A = some (.lst (vi big)) ∧ n = big.length, ?_, ?_⟩
    · obtain ⟨big, cells, cnt, _, h2, _⟩ := hS.ex
      exact ⟨_, none, rfl, hS, fun _ _ _ _ e => e, big, h2, rfl⟩
    rintro n σ H1 ⟨y2, rfl, hS1, fr1, big', hb', rfl⟩
    obtain ⟨big, cells, cnt, h1, h2, h3, p1, p2, l0, l1, l2, c0, c1⟩ := hS1.ex
    have eb : vi big' = vi big := by
      rw [h2] at hb'
      injection hb' with hb'
      injection hb' with hb'
      exact hb'.symm
    have el : big'.length = big.length := by
      have := congrArg List.length eb
      simpa using this
    rw [el]
    refine ⟨_, rfl, s, _, _, _, rfl, rfl, SqL.of h1, atI0, Nat.zero_le _, fun e he => ?_⟩
    have n1 : s ≠ e := ne_of_none h1 he
    have n2 : A ≠ e := ne_of_none h2 he
    have n3 : B ≠ e := ne_of_none h3 he
    have h1' : (upd H1 e (.lst [])) s = _ := (upd_ne n1).trans h1
    have h2' : (upd H1 e (.lst [])) A = _ := (upd_ne n2).trans h2
    have h3' : (upd H1 e (.lst [])) B = _ := (upd_ne n3).trans h3
    have sm : Same H1 (upd H1 e (.lst [])) := same_upd he
    refine ⟨.list (big.map .int), .list [], .lst (SqL.of h2') (dp_ints big), .lst (SqL.of upd_same) .nil, shaped_list big, shaped_list [], _, rfl, ?_⟩
    rw [eqv_nil]
    cases big with
    | nil =>
      refine iteF ?_
      -- turn = s[2] + 1; s[2] = turn
      refine ⟨_, rfl, s, _, _, _, rfl, rfl, SqL.of h1', atI2, _, _, rfl, rfl, ?_⟩
      refine ⟨_, rfl, _, rfl, s, _, _, 2, rfl, rfl, h1', rfl, ?_⟩
      have h3s : (upd (upd H1 e (.lst [])) s (.lst ([V.ref A, V.ref B, V.int cnt].set 2 (V.int (cnt + 1))))) B = _ := (upd_ne hS1.nsB.symm).trans h3'
      have h2s : (upd (upd H1 e (.lst [])) s (.lst ([V.ref A, V.ref B, V.int cnt].set 2 (V.int (cnt + 1))))) A = _ := (upd_ne hS1.nsA.symm).trans h2'
      have hS2 : StreamAt (upd (upd H1 e (.lst [])) s (.lst ([V.ref A, V.ref B, V.int cnt].set 2 (V.int (cnt + 1))))) s A B (c + 1) :=
        ⟨⟨[], cells, cnt + 1, upd_same, h2s, h3s, p1, p2, l0, l1, l2, by omega, by omega⟩, hS1.nAB, hS1.nsA, hS1.nsB⟩
      have fr2 : Fr s A H (upd (upd H1 e (.lst [])) s (.lst ([V.ref A, V.ref B, V.int cnt].set 2 (V.int (cnt + 1))))) := fun b o z1 z2 z3 => by
        rw [upd_ne z1]
        exact sm _ _ (fr1 b o z1 z2 z3)
      have h1s : (upd (upd H1 e (.lst [])) s (.lst ([V.ref A, V.ref B, V.int cnt].set 2 (V.int (cnt + 1))))) s = some (.lst [V.ref A, V.ref B, V.int (cnt + 1)]) := upd_same
      have hl : (0 : Int) < (cells.length : Nat) := by omega
      obtain ⟨g0, g1⟩ := fm (cnt + 1) ((cells.length : Nat) : Int) hl
      have hj : ((cnt + 1).fmod ((cells.length : Nat) : Int)).toNat < cells.length := by omega
      have hat : atI (vi cells) ((cnt + 1).fmod (((vi cells).length : Nat) : Int)) = some (V.int cells[((cnt + 1).fmod ((cells.length : Nat) : Int)).toNat]) := by
        rw [List.length_map]
        have := atI_nat (xs := vi cells) (j := ((cnt + 1).fmod ((cells.length : Nat) : Int)).toNat) (v := V.int cells[((cnt + 1).fmod ((cells.length : Nat) : Int)).toNat]) (by rw [List.getElem?_map, List.getElem?_eq_getElem hj]; rfl)
        rw [show ((((cnt + 1).fmod ((cells.length : Nat) : Int)).toNat : Nat) : Int) = (cnt + 1).fmod ((cells.length : Nat) : Int) by omega] at this
        exact this
      refine ⟨_, rfl, s, _, _, _, rfl, rfl, SqL.of h1s, atI1, _, rfl, _, rfl, s, _, _, _, rfl, rfl, SqL.of h1s, atI1, B, _, rfl, .inl (SqL.of h3s), _, _, rfl, rfl, by rw [List.length_map]; omega, B, _, _, _, rfl, rfl, SqL.of h3s, hat, _, _, rfl, rfl, (by show (2147483647 : Int) ≠ 0; decide), ?_⟩
      generalize cells[((cnt + 1).fmod ((cells.length : Nat) : Int)).toNat] = x
      obtain ⟨x0, x1⟩ := fm x 2147483647 (by decide)
      refine ⟨_, rfl, _, rfl, _, _, rfl, rfl, .inl ⟨by decide, by decide⟩, _, _, rfl, rfl, _, _, rfl, rfl, .inl ⟨by omega, by omega⟩, ?_⟩
      refine ⟨_, rfl, _, _, rfl, rfl, .inl ⟨by decide, by decide⟩, _, rfl, _, _, rfl, rfl, .inr ⟨by omega, by omega⟩, _, _, rfl, rfl, _, _, rfl, rfl, ?_⟩
      refine ⟨_, rfl, _, _, rfl, rfl, (by show (2147483629 : Int) ≠ 0; decide), ?_⟩
      refine ⟨_, rfl, _, rfl, _, _, rfl, rfl, .inl ?_, _, _, rfl, rfl, (by show (2147483587 : Int) ≠ 0; decide), _, _, rfl, rfl, ⟨by decide, by decide⟩, _, rfl, _, _, rfl, rfl, by omega, ?_⟩
      · generalize (x.fmod 2147483647 * _ + _ + _ : Int) = y
        obtain ⟨y0, y1⟩ := fm y 2147483629 (by decide)
        exact ⟨by omega, by omega⟩
      · exact q _ _ hS2 fr2 (fm _ m hm0).1 (fm _ m hm0).2
    | cons x r =>
      refine iteT ⟨_, fun _ _ h => h, ?_⟩
      refine ⟨_, rfl, s, _, _, _, rfl, rfl, SqL.of h1', atI0, A, _, _, _, rfl, rfl, SqL.of h2', atI0, ?_⟩
      refine ⟨_, rfl, _, _, rfl, rfl, _, rfl, ?_⟩
      have hx : 0 ≤ x := p1 x (List.mem_cons_self ..)
      have hr' : ∀ y ∈ r, 0 ≤ y := fun y hy => p1 y (List.mem_cons_of_mem _ hy)
      refine ite2 (fun cx => ?_) (fun cx => ?_)
      · refine ⟨_, rfl, _, rfl, _, _, rfl, rfl, ⟨by omega, by omega⟩, ?_⟩
        refine ⟨_, rfl, s, _, _, _, rfl, rfl, SqL.of h1', atI0, A, _, _, 0, rfl, rfl, h2', ix0 _, ?_⟩
        refine ⟨_, rfl, _, rfl, _, _, rfl, rfl, by omega, ?_⟩
        refine q _ _ ⟨⟨x.fdiv m :: r, cells, cnt, (upd_ne hS1.nsA).trans h1', upd_same, (upd_ne hS1.nAB.symm).trans h3', ?_, p2, l0, l1, l2, c0, by omega⟩, hS1.nAB, hS1.nsA, hS1.nsB⟩ ?_ (fm x m hm0).1 (fm x m hm0).2
        · intro y hy
          rcases List.mem_cons.mp hy with rfl | hy
          · rw [Int.fdiv_eq_ediv_of_nonneg x (Int.le_of_lt hm0)]
            exact Int.ediv_nonneg hx (Int.le_of_lt hm0)
          · exact hr' y hy
        · intro b o z1 z2 z3
          rw [upd_ne z2]
          exact sm _ _ (fr1 b o z1 z2 z3)
      · refine ⟨_, rfl, s, _, _, _, rfl, rfl, SqL.of h1', atI0, .inl ⟨rfl, _, SqL.of h2'⟩, A, _, _, 0, _, rfl, rfl, h2', by decide, by decide, (ixN_seq (ix0 _)).1, rfl, ?_⟩
        refine ⟨r.length, by simp, _, rfl, ⟨⟨r, cells, cnt, (upd_ne hS1.nsA).trans h1', upd_same, (upd_ne hS1.nAB.symm).trans h3', hr', p2, l0, l1, by simp at l2; omega, c0, c1⟩, hS1.nAB, hS1.nsA, hS1.nsB⟩, ?_, r, upd_same, rfl⟩
        intro b o z1 z2 z3
        rw [upd_ne z2]
        exact sm _ _ (fr1 b o z1 z2 z3)
end
end Fw
namespace Fw
open PySem PySem.Spec PyProof.Rows L2

structure Def (K : PySem.W.Frag) (mg : Str → Option Value) (x : Str) (st : Stmt) (f : Addr) (fd : FuncData) (ps : List Str) : Prop where
  F : Fun K x x st f fd
  b : Binds K fd ps []
  g : mg x = some (.ref f)

section
variable {s A B : Addr} {H H1 H2 : Hp} {c : Nat}
theorem StreamAt.ne (hS : StreamAt H s A B c) {L : Addr} (h : H L = none) : s ≠ L ∧ A ≠ L ∧ B ≠ L := by
  obtain ⟨big, cells, cnt, h1, h2, h3, _⟩ := hS.ex
  exact ⟨ne_of_none h1 h, ne_of_none h2 h, ne_of_none h3 h⟩
theorem StreamAt.put (hS : StreamAt H s A B c) {L : Addr} {o : HO} (n : s ≠ L ∧ A ≠ L ∧ B ≠ L) : StreamAt (upd H L o) s A B c := by
  obtain ⟨big, cells, cnt, h1, h2, h3, r⟩ := hS.ex
  exact ⟨⟨big, cells, cnt, (upd_ne n.1).trans h1, (upd_ne n.2.1).trans h2, (upd_ne n.2.2).trans h3, r⟩, hS.nAB, hS.nsA, hS.nsB⟩
theorem StreamAt.mono (hS : StreamAt H s A B c) {c' : Nat} (h : c ≤ c') : StreamAt H s A B c' := by
  obtain ⟨big, cells, cnt, h1, h2, h3, p1, p2, l0, l1, l2, c0, c1⟩ := hS.ex
  exact ⟨⟨big, cells, cnt, h1, h2, h3, p1, p2, l0, l1, l2, c0, by omega⟩, hS.nAB, hS.nsA, hS.nsB⟩
theorem StreamAt.same (hS : StreamAt H s A B c) (e : Same H H1) : StreamAt H1 s A B c := by
  obtain ⟨big, cells, cnt, h1, h2, h3, r⟩ := hS.ex
  exact ⟨⟨big, cells, cnt, e _ _ h1, e _ _ h2, e _ _ h3, r⟩, hS.nAB, hS.nsA, hS.nsB⟩
theorem StreamAt.tup (hS : StreamAt H s A B c) {t : Addr} {xs : List V} (h : H t = some (.tup xs)) : t ≠ s ∧ t ≠ A ∧ t ≠ B := by
  obtain ⟨big, cells, cnt, h1, h2, h3, _⟩ := hS.ex
  exact ⟨ne_of h h1 (by intro q; cases q), ne_of h h2 (by intro q; cases q), ne_of h h3 (by intro q; cases q)⟩
theorem Fr.refl : Fr s A H H := fun _ _ _ _ e => e
theorem Fr.free (f : Fr s A H H1) (hS : StreamAt H1 s A B c) {L : Addr} (h : H1 L = none) : H L = none := by
  obtain ⟨n1, n2, _⟩ := hS.ne h
  cases e : H L with
  | none => rfl
  | some o =>
    rw [f L o n1.symm n2.symm e] at h
    cases h
theorem Fr.put (f : Fr s A H H1) {L : Addr} {o : HO} (h : H L = none) : Fr s A H (upd H1 L o) := fun b u z1 z2 e => by
  rw [upd_ne (ne_of_none e h)]
  exact f b u z1 z2 e
theorem Fr.tup (f : Fr s A H H1) (hS : StreamAt H s A B c) {t : Addr} {xs : List V} (h : H t = some (.tup xs)) : H1 t = some (.tup xs) :=
  f t _ (hS.tup h).1 (hS.tup h).2.1 h
end

end Fw
namespace Fw
open PySem PySem.Spec PyProof.Rows L2

/-! ### repr, where no repr is under way -/
def rRepr (K : PySem.W.Frag) : List V → Hp → VK → Prop := fun vs H Q => ∃ (a : Addr) (d : PyData), vs = [.ref a] ∧ Dp K H (.ref a) d ∧ d.showable = true ∧ d.hasDict = false ∧ d.depth ≤ 60 ∧ d.shown.length ≤ sizeLine ∧ Q (.str d.shown) H
theorem call_repr {X : Cx} (hg : X.A.guards = some []) (hu : X.A.units + 65 < cLine) : CallR X (.builtin "repr") (rRepr X.K) := by
  intro pins s σ H vs us Q I r h
  obtain ⟨a, d, rfl, hd, hs, hn, hp, hz, q⟩ := h
  obtain ⟨u, rfl, ru⟩ := vals1 r
  obtain rfl : u = Value.ref a := ru
  obtain ⟨as, rd⟩ := Dp.reads I d _ _ hd rfl
  refine repr_of_reads' rd hs (fun z => ?_) hg (by omega) (fun _ _ e => e) (fun h' t tk hk => ?_) hz
  · rw [hn] at z
    cases z
  · exact ⟨.str _, H, I.kept hk, ⟨_, rfl⟩, q⟩

/-! ### a def that is run where no repr is under way -/
structure FnG (P : Program) (w : World) (K : PySem.W.Frag) (mg : Str → Option Value) (base : Heap) (k : Nat) (f : Addr) (fd : FuncData) (ps : List Str) (sp : Sp) : Prop where
  len : ∀ vs H Q E, sp vs H Q E → vs.length = ps.length
  go : ∀ (A : Around) (out : List Env) (st : Shared) (H : Hp) (as : Args) (us : List Value) (vs : List V) (Q : VK), A.guards = some [] → Room k A → Env0 P w K mg base A out st H → BindsTo st fd as (ps.zip us) → Vals vs us → sp vs H Q E0 →
    codeAny (model P w) A (.call (.ref f) as) (CR CX0 out P w H st Q E0) st

section
variable {P : Program} {w : World} {K : PySem.W.Frag} {mg : Str → Option Value} {base : Heap}
theorem Fun.okG {x : Str} {st : Stmt} {f : Addr} {fd : FuncData} {N ps : List Str} {k : Nat} {sp : Sp} (F : Fun K x x st f fd) (S : FnScope N ps (defScope st)) (len : ∀ vs H Q E, sp vs H Q E → vs.length = ps.length)
    (bd : ∀ (c : Value) (A : Around) (out : List Env) (z : Shared) (H : Hp) (vs : List V) (Q : VK), (A.deeper (envOfC x (defScope st) z.heap.objs.size f c)).guards = some [] → Room k (A.deeper (envOfC x (defScope st) z.heap.objs.size f c)) → sp vs H Q E0 →
      ∃ t, PSs (cxOf CX0 P w K mg base N x (defScope st) f c A out z H E0).nox (defBody st) t ∧ t { nx := fun _ H' => Q .non H', rt := Q } (L2.start N vs) H) : FnG P w K mg base (k + 1) f fd ps sp := by
  obtain ⟨oc, od, kV, doc, pm, an, c, ct, osl, rfl, lk, hc⟩ := F.ex
  refine ⟨len, fun A out z H as us vs Q gd room en bi rel hs => ?_⟩
  have kin : K.In z.heap := fun b o e => (en.bs b o (en.mod.kin b o e)).1
  refine codeAny_call_function room.depth (kin _ _ lk) rfl S.co S.gen rfl (PySem.W.codeRec_of kin hc) (bi _ _ _ _ ?_)
  have kinds : ∀ y ∈ ps.zip us, (defScope st).names.lookup y.1 = some .local ∨ ((defScope st).names.lookup y.1 = some .cell ∧ ((cellsFrom (z.heap.objs.size + 1) (defScope st).names []).lookup y.1).isSome = true) := by
    rintro ⟨n, v⟩ hy
    exact (S.par n (List.of_mem_zip hy).1).imp id fun q => ⟨q, PySem.W.cellsFrom_some _ _ _ (.inl q)⟩
  refine wpAny_newFunctionEnv_cells S.kind kinds fun env ee z1 ic => ?_
  subst ee
  refine ⟨(en.mod.nolimit.keeps fun b o e => (en.bs b o e).1).keeps ic.toInCall.keep, codeAny_func ?_⟩
  obtain ⟨t, d, rd⟩ := bd c A out z H vs Q gd (room.deeper _) hs
  have inv := inv_start (CX := CX0) (E := E0) S room.hd en (len _ _ _ _ hs) rel ic
  refine wpAny_mono (d.nox.run [] z1 _ H _ inv rd) (fun fl z2 e => ?_) fun _ _ e => e
  match fl, e with
  | .ret u, ⟨v, σ', H', J, rv, q⟩ => exact ⟨v, H', J.os, J.bare, J.base, J.hok, rv, q⟩
  | .next, ⟨σ', H', J, q⟩ => exact ⟨.non, H', J.os, J.bare, J.base, J.hok, rfl, q⟩
  | .brk, ⟨_, _, _, q⟩ => exact q.elim
  | .cont, ⟨_, _, _, q⟩ => exact q.elim

/-- a call of such a def -/
theorem pe_callG {X : Cx} {k : Nat} {f : Addr} {fd : FuncData} {ps : List Str} {sp : Sp} {x : Str} {p pos : Pos} {e : Expr} {es : List Expr} {t : TA} (F : FnG X.prog X.w X.K X.mg X.base k f fd ps sp) (gd : X.A.guards = some []) (hr : Room k X.A)
    (hg : Gl X x) (hm : X.mg x = some (.ref f)) (hk : PySem.W.keepIn X.K (.ref f) = true) (hb : Binds X.K fd ps []) (ha : PA X (e :: es) t) (hdb : (x == ("__debug__" : Str)) = false := by decide)
    (h1 : starEach (e :: es) X.env = (false, eval e X.env) :: starEach es X.env := by rfl) (h2 : (backTo pos (starEach es X.env)).any (·.1) = false := by rfl) : PE X (.Call (.Name x p) (e :: es) [] pos) (tCall sp [] E0 t) := by
  constructor
  intro pins z σ H Q I h
  refine wpAny_Call_Name_kw (ld_glob I hg hm (PySem.W.callWith_K (h₀ := X.base) I.ok.mod.kin hk (thn (ha.run pos pins z σ H _ I h) ?_) h1 h2) hdb)
  rintro us z1 ⟨vs, H1, I1, r, q⟩
  refine ⟨I1.kIn, wpAny_call (codeAny_mono (F.go X.A X.stack z1 H1 ⟨us, []⟩ (us ++ []) (vs ++ []) Q gd hr I1.env0 (hb z1 us I1.kIn ?_) (r.append .nil) q) fun a z2 hq => ?_)⟩
  · rw [← (r.append .nil).length]
    exact F.len _ _ _ _ q
  · match a, hq with
    | .error _, hq => exact hq.elim
    | .ok (.ret u), hq => exact I1.after hq
    | .ok .next, hq => exact hq.elim
    | .ok .brk, hq => exact hq.elim
    | .ok .cont, hq => exact hq.elim
end
end Fw
namespace Fw
open PySem PySem.Spec PyProof.Rows L2

/-- the state at the law's own call: only the script is tracked -/
theorem top_state {P : Program} {w : World} {K : PySem.W.Frag} {mg mb : Str → Option Value} {a : Addr} {z : Shared} {vs : List Value} {ns : List Int} (kin : K.In z.heap) (gl : z.heap.Ns mainGlobals mg) (bl : z.heap.Ns builtinsNs mb)
    (bb : ∀ x : Str, x ≠ "__name__" → mb x = bootBuiltins x) (lim : z.heap.NoLimit) (ge : z.gens = #[]) (obj : z.heap.get? a = some { cls := .type "list", data := .seq vs.toArray }) (hi : IntsAre vs ns) (hl : ns.length ≤ sizeLine) :
    ∃ (H : Hp) (base : Heap), SqL K H a (vi ns) ∧ K.In base ∧ base.Ns mainGlobals mg ∧ Env0 P w K mg base callerA [] z H ∧ ∀ (H' : Hp) (z' : Shared), Un (frs []) [] H H' z.heap z'.heap → HOk P w H' z'.heap → OldK z.heap z'.heap := by
  have rel : Vals (vi ns) vs := vals_ints hi
  -- what is tracked: nothing, or the script alone
  have pick : ∃ H : Hp, SqL K H a (vi ns) ∧ HOk P w H z.heap ∧ (∀ b, H b = none ∨ (b = a ∧ K.lookup a = none ∧ ∃ xs, H b = some (.frz { cls := .type "list", data := .seq vs.toArray } (.lst xs)))) := by
    cases e : K.lookup a with
    | some o =>
      have e2 : o = { cls := .type "list", data := .seq vs.toArray } := by
        have := kin a o e
        rw [obj] at this
        exact (Option.some.inj this).symm
      subst e2
      refine ⟨fun _ => none, .inr ⟨_, vs.toArray, _, e, rfl, rfl, rfl, ?_, rel⟩, fun b u q => ?_, fun b => .inl rfl⟩
      · rw [List.size_toArray, hi.length]
        exact hl
      · cases (show (none : Option HO) = some u from q)
    | none =>
      refine ⟨upd (fun _ => none) a (.frz { cls := .type "list", data := .seq vs.toArray } (.lst (vi ns))), .inl (.inr ⟨_, upd_same⟩), fun b u q => ?_, fun b => ?_⟩
      · by_cases eb : b = a
        · rw [eb, upd_same] at q
          cases q
          rw [eb]
          exact ⟨obj, by rw [List.length_map]; exact hl, vs, _, rel, obj⟩
        · rw [upd_ne eb] at q
          cases q
      · by_cases eb : b = a
        · exact .inr ⟨eb, rfl, _, by rw [eb]; exact upd_same⟩
        · exact .inl (upd_ne eb)
  obtain ⟨H, hS, hok, only⟩ := pick
  have low : ∀ {b : Addr} {o : Obj}, z.heap.get? b = some o → (b = a → K.lookup a ≠ none) → (hidT z.heap H).get? b = some o := fun {b o} e q => hidT_get e (by
    rcases only b with n | ⟨eb, n, _⟩
    · exact n
    · exact absurd n (q eb))
  have dic : ∀ {b : Addr} {m : Str → Option Value}, z.heap.Ns b m → (hidT z.heap H).Ns b m := fun {b m} h => by
    obtain ⟨o, es, ep, e, d, r⟩ := h
    refine ⟨o, es, ep, hidT_get e ?_, d, r⟩
    rcases only b with n | ⟨eb, _, _⟩
    · exact n
    · rw [eb, obj] at e
      cases e
      cases (show Data.seq vs.toArray _ = Data.dict es ep from d)
  have kb : K.In (hidT z.heap H) := fun b o e => low (kin b o e) fun eb n => by
    rw [eb, n] at e
    cases e
  refine ⟨H, hidT z.heap H, hS, kb, dic gl, ?_, fun H' z' un ok' => OldK.of_keep fun b o e => ?_⟩
  · refine { frames := rfl, mod := ⟨kb, dic gl, ⟨mb, dic bl, bb⟩, ?_⟩, bs := fun b o e => of_hidT e, bsz := Nat.le_of_eq (hidT_size _ _), funs := trivial, frf := fun b hb => ?_, hok := hok, bare := .of_eq ge }
    · obtain ⟨mc, h1, h2⟩ := lim
      exact ⟨mc, dic h1, h2⟩
    · cases (show b ∈ ([] : List Addr) from hb)
  · rcases only b with n | ⟨eb, _, xs, fz⟩
    · refine un.keep b o e n (fun hb => ?_) (fun hb => ?_)
      · cases (show b ∈ ([] : List Addr) from hb)
      · cases hb
    · have f2 := (ok' b _ (un.frzs b _ _ fz)).1
      rw [eb, obj] at e
      cases e
      exact f2

/-- the law's def takes the script alone -/
abbrev Takes1 (fd : FuncData) : Prop := ∀ (z : Shared) (v : Value), BindsTo z fd ⟨[v], []⟩ [("_law_script", v)]
/-- the law's def, at fa, keeps sp over whatever holds the written part -/
def LawAt (P : Program) (w : World) (K : PySem.W.Frag) (mg : Str → Option Value) (k : Nat) (fa : Addr) (sp : Sp) : Prop :=
  ∃ fd, Takes1 fd ∧ ∀ b : Heap, K.In b → b.Ns mainGlobals mg → FnG P w K mg b k fa fd ["_law_script"] sp
/-- a promise that says True of every script -/
def Tells (sp : PySem.W.Frag → Sp) : Prop := ∀ K H a ns, ns.length ≤ 63 → SqL K H a (vi ns) → sp K [.ref a] H (fun v _ => v = .bl true) E0
/-- how a call that keeps such a promise ends -/
structure Told (P : Program) (w : World) (H : Hp) (z : Shared) (r : Result) (z' : Shared) : Prop where
  res : r = .ok (.ret (.bool true))
  os : z'.os = z.os
  bare : AllBare z'.gens
  st : ∃ H', Un (frs []) [] H H' z.heap z'.heap ∧ HOk P w H' z'.heap
theorem told {P : Program} {w : World} {H : Hp} {z z' : Shared} {r : Result} (e : CR CX0 [] P w H z (fun v _ => v = .bl true) E0 r z') : Told P w H z r z' := by
  rcases r with _ | f
  · exact False.elim e
  cases f
  all_goals first | exact False.elim e | skip
  rename_i u
  obtain ⟨v, H', o1, o2, un, ok, rv, qv⟩ := e
  have qv : v = .bl true := qv
  rw [qv] at rv
  exact ⟨by rw [show u = Value.bool true from rv], o1, o2, H', un, ok⟩
/-- the end of a law whose def wants that no repr is under way -/
theorem walkG {l : PySem.W.OpenLaw} {k : Nat} {q : Program} {ls : List Str} {XP : (Str → Option Value) → Heap → Prop} {Y : World → Heap → Prop} {d : DefRec} {K : Params → PySem.W.Frag} {sp : PySem.W.Frag → Sp} (t : Tells sp) (m : l.most = some 63) (nd : d.params.defaults = []) (room : Room k callerA)
    (inK : ∀ w h, Y w h → (K w.params).In h) (L : ∀ w mg fa h, (K w.params).In h → h.Ns mainGlobals mg → mg d.name = some (.ref fa) → LawAt l.prog w (K w.params) mg k fa (sp (K w.params))) :
    PySem.W.WalkO q ls XP Y l.row.toRowW d [] (fun f vs => PySem.call f vs) := by
  apply Att.attach_call m nd
  intro w _ z mg _ fa _ _ _ _ a vs ns G y _ _ _ here obj hi few gens
  obtain ⟨fd, one, keeps⟩ := L w mg fa _ (inK w _ y) G.T.g here
  obtain ⟨H, b, hS, kb, gb, en, old⟩ := top_state (P := l.prog) (w := w) (inK w _ y) G.T.g G.T.b G.T.builtins G.T.nolimit gens obj hi (Nat.le_trans few (by decide))
  have c := (keeps b kb gb).go callerA [] z H ⟨[.ref a], []⟩ [.ref a] [.ref a] (fun v _ => v = .bl true) rfl room en (one z (.ref a)) (.cons rfl .nil) (t _ H a ns few hS)
  exact codeAny_mono c fun r z' e => by
    have e := told e
    obtain ⟨H', un, ok⟩ := e.st
    exact ⟨e.res, old H' z' un ok, e.os, e.bare⟩
end Fw
set_option maxHeartbeats 2000000
namespace Fw
open PySem PySem.Spec PyProof.Rows L2
/-- what the written part says of one of the error classes -/
structure EC (K : PySem.W.Frag) (C : Addr) : Prop where
  o : OexC K C
  x : XfC K C
  cl : (PySem.W.clsIn K C).isSome = true
  ofc : PySem.W.findIn K (.ref C) "__class__" = some (some (.builtin "object.__class__"))
  sp : PySem.W.specialIn K (.builtin "object.__class__") "__get__" = some (some (.builtin "getset_descriptor.__get__"))
  tk : PySem.W.takesIn K (.builtin "object.__class__") = some true
  mo : PySem.W.mroIn K C (.type "object") = some true
/-- C(e, ..) as a value: the exception stays tracked -/
def tMkV (C : Addr) (sp : Sp) (ta : TA) : TE := fun σ H Q => ta σ H fun vs H1 => vs.length ≤ 1000 ∧ ∀ a, H1 a = none → sp (.ref a :: vs) (upd H1 a (exo a C none)) (fun v H2 => v = .non ∧ Q (.ref a) H2) E0
section
variable {X : Cx} {e : Expr} {es : List Expr} {ta : TA} {p pos : Pos}
theorem run_oex {C fI : Addr} {k : Nat} {fd : FuncData} {ps : List Str} {sp : Sp} {pins : List (Addr × Obj)} {σ : L2.St} {H1 : Hp} {z : Shared} {us : List Value} {vs : List V} {Q : VK} (T : OexC X.K C) (iC : PySem.W.findIn X.K (.ref C) "__init__" = some (some (.ref fI))) (tI : PySem.W.typeIn X.K (.ref fI) = some (.type "function"))
    (F1 : FnOk X.prog X.w X.K X.mg X.base CX0 k fI fd ps sp) (hr : Room (k + 1) X.A) (hb : Binds X.K fd ps []) (I1 : Inv X pins σ H1 z) (r1 : Vals vs us) (hz : vs.length ≤ 1000)
    (qi : ∀ a, H1 a = none → sp (.ref a :: vs) (upd H1 a (exo a C none)) (fun v H2 => v = .non ∧ Q (.ref a) H2) E0) : wpAny (model X.prog X.w) X.A (call (.ref C) us) (EP X pins σ Q) X.xe z := by
  obtain ⟨_, _, _, _, bm, _, _, _, _, _, _, _, _, _, _, hC, hbm⟩ := T.cls
  obtain ⟨hp, g, dr, tk, os⟩ := z
  have le : hp.objs.size ≤ hp.objs.size + 1 := Nat.le_succ _
  have hq := qi (hp.objs.size + 1) (I1.hok.fresh le)
  have at2 : ((hp.push (PySem.W.kdv_tup us)).push (PySem.HandSPX.excO C hp.objs.size)).get? (hp.objs.size + 1) = some (PySem.HandSPX.excO C hp.objs.size) := by heap_get
  have Jn : Inv X pins σ (upd H1 (hp.objs.size + 1) (exo (hp.objs.size + 1) C none)) ⟨(hp.push (PySem.W.kdv_tup us)).push (PySem.HandSPX.excO C hp.objs.size), g, dr, tk, os⟩ :=
    I1.laid (t' := tk) (fun b o e => Heap.get?_push_of_some _ (Heap.get?_push_of_some _ e)) le (exo_ok at2)
  have rs : Vals (V.ref (hp.objs.size + 1) :: vs) (Value.ref (hp.objs.size + 1) :: us) := .cons rfl r1
  have ln : (Value.ref (hp.objs.size + 1) :: us ++ []).length = ps.length := by
    rw [List.append_nil, ← rs.length]
    exact F1.len _ _ _ _ hq
  have few : us.length ≤ sizeLine := by
    rw [← r1.length, sizeLine_eq]
    omega
  have bi := hb _ (Value.ref (hp.objs.size + 1) :: us) Jn.kIn ln
  rw [List.append_nil] at bi
  refine wpAny_call (PySem.HandSPX.call_own F.excBase_ValueError (fun Y => PySem.HandSPX.refsVE_contains Y bm hbm) (I1.kIn _ _ hC) (PySem.W.looks_findIn I1.kIn iC) (fun self => PySem.W.bind_fn I1.kIn self tI) few
    (codeAny_mono (F1.run _ X.stack _ _ ⟨Value.ref (hp.objs.size + 1) :: us, []⟩ (Value.ref (hp.objs.size + 1) :: us) _ _ E0 (hr.make C us []) (Jn.env0.make C us []) bi rs hq) ?_))
  intro r z' e
  match r, e with
  | .error _, e => exact e.elim
  | .ok .next, e => exact e.elim
  | .ok .brk, e => exact e.elim
  | .ok .cont, e => exact e.elim
  | .ok (.ret u), e =>
    obtain ⟨v, H2, J, rv, ev, qv⟩ := Jn.after e
    subst ev
    exact ⟨rv, .ref (hp.objs.size + 1), H2, J, rfl, qv⟩
theorem pe_oex {x : Str} {C fI : Addr} {k : Nat} {fd : FuncData} {ps : List Str} {sp : Sp} (T : OexC X.K C) (iC : PySem.W.findIn X.K (.ref C) "__init__" = some (some (.ref fI))) (tI : PySem.W.typeIn X.K (.ref fI) = some (.type "function"))
    (F1 : FnOk X.prog X.w X.K X.mg X.base CX0 k fI fd ps sp) (hr : Room (k + 1) X.A) (hb : Binds X.K fd ps []) (hg : Gl X x) (hm : X.mg x = some (.ref C)) (ha : PA X (e :: es) ta)
    (hdb : (x == ("__debug__" : Str)) = false := by decide) (h1 : starEach (e :: es) X.env = (false, eval e X.env) :: starEach es X.env := by rfl) (h2 : (backTo pos (starEach es X.env)).any (·.1) = false := by rfl) :
    PE X (.Call (.Name x p) (e :: es) [] pos) (tMkV C sp ta) := by
  constructor
  intro pins z σ H Q I h
  refine wpAny_Call_Name_kw (ld_glob I hg hm (PySem.W.callWith_K (h₀ := X.base) I.ok.mod.kin T.kC (thn (ha.run pos pins z σ H _ I h) ?_) h1 h2) hdb)
  rintro us z1 ⟨vs, H1, I1, r1, hz, q1⟩
  exact ⟨I1.kIn, run_oex T iC tI F1 hr hb I1 r1 hz q1⟩
theorem pe_oex0 {x : Str} {C fI : Addr} {k : Nat} {fd : FuncData} {ps : List Str} {sp : Sp} (T : OexC X.K C) (iC : PySem.W.findIn X.K (.ref C) "__init__" = some (some (.ref fI))) (tI : PySem.W.typeIn X.K (.ref fI) = some (.type "function"))
    (F1 : FnOk X.prog X.w X.K X.mg X.base CX0 k fI fd ps sp) (hr : Room (k + 1) X.A) (hb : Binds X.K fd ps []) (hg : Gl X x) (hm : X.mg x = some (.ref C)) (hdb : (x == ("__debug__" : Str)) = false := by decide) : PE X (.Call (.Name x p) [] [] pos) (tMkV C sp tNil) := by
  constructor
  intro pins z σ H Q I h
  obtain ⟨hz, q1⟩ := h
  exact wpAny_Call_Name_kw (ld_glob I hg hm (PySem.W.callWith_K0 I.kIn T.kC (run_oex T iC tI F1 hr hb I .nil hz q1)) hdb)
/-- e.f of such an exception -/
def tEf (K : PySem.W.Frag) (f : Str) (te : TE) : TE := fun σ H Q => te σ H fun x H1 => ∃ (a C dx : Addr) (fs : List (Str × V)) (v : V), x = .ref a ∧ XfC K C ∧ PySem.W.findIn K (.ref C) f = some none ∧ H1 a = some (exo a C (some dx)) ∧ H1 dx = some (exd dx fs) ∧ fs.lookup f = some v ∧ Q v H1
theorem pe_ef {te : TE} {f : Str} (he : PE X e te) (hb : attributeBase e f X.env (eval e X.env) = eval e X.env := by rfl) : PE X (.Attribute e f pos) (tEf X.K f te) := by
  constructor
  intro pins z σ H Q I h
  refine attr_of hb (thn (he.run pins z σ H _ I h) ?_)
  rintro u z1 ⟨x, H1, I1, rx, a, C, dx, fs, v, rfl, T, no, ea, ed, l, q⟩
  obtain rfl : u = Value.ref a := rx
  obtain ⟨t1, ho⟩ := exo_at I1.hok ea
  obtain ⟨mA, ns, hr⟩ := exd_at I1.hok ed
  obtain ⟨od, hod, hl⟩ := lookIn_ns ns
  obtain ⟨u, hu, ru⟩ := RelO.some_of (v := v) (o := mA f) (by rw [← l]; exact hr f)
  have J : PySem.W.InstAt z1.heap a _ C (some od) := ⟨ho, rfl, rfl, hod⟩
  exact HandSPX.exc_get I1.kIn J T.ga T.gg T.exC (PySem.W.findObj_own T.hdC no rfl (by rw [hl, hu])) (handed_of ru) ⟨v, H1, I1.tok _, ru, q⟩
/-- isinstance(e, c) of such an exception -/
def rIsX (K : PySem.W.Frag) : List V → Hp → VK → Prop := fun xs H Q => ∃ (a D : Addr) (c : V) (cv : Value) (d : Option Addr) (b : Bool), xs = [.ref a, c] ∧ ClsV c cv ∧ EC K D ∧ H a = some (exo a D d) ∧ (∀ dx, d = some dx → ∃ fs, H dx = some (exd dx fs)) ∧ PySem.W.kitOne K (.ref D) cv = some b ∧ Q (.bl b) H
theorem call_isX : CallR X (.builtin "isinstance") (rIsX X.K) := by
  intro pn sh σ H xs us Q J rr hx
  obtain ⟨a, D, c, cv, d, b, rfl, k, T, ea, hd, e, q⟩ := hx
  obtain ⟨ua, ub, rfl, ra, rb⟩ := vals2 rr
  have e2 := k.eq rb
  subst e2
  cases (show ua = Value.ref a from ra)
  obtain ⟨t1, ho⟩ := exo_at J.hok ea
  have M : ∃ od, PySem.W.InstAt sh.heap a { cls := .ref D, dict := d, data := .fields #[.ref t1, .none, .none, .none, .bool false, .none] } D od := by
    cases d with
    | none => exact ⟨none, ho, rfl, rfl, trivial⟩
    | some dx =>
      obtain ⟨fs, ed⟩ := hd dx rfl
      obtain ⟨mA, ns, _⟩ := exd_at J.hok ed
      obtain ⟨od, hod, _⟩ := lookIn_ns ns
      exact ⟨some od, ho, rfl, rfl, hod⟩
  obtain ⟨od, M⟩ := M
  exact PySem.W.kia_one (PySem.W.kitx_exc T.cl T.x.ga T.x.gg T.x.exC T.ofc T.sp T.tk T.mo) J.kIn M e (fun z => nomatch z) fun tk => ⟨.bl b, H, J.tok tk, rfl, q⟩
/-- l.count(True), l a list of bools -/
def rCntB (K : PySem.W.Frag) : V → List V → Hp → VK → Prop := fun x xs H Q => ∃ (p : Addr) (bs : List Bool), x = .ref p ∧ xs = [.bl true] ∧ SqL K H p (bs.map V.bl) ∧ Q (.int ((bs.count true : Nat) : Int)) H
def isT : Value → Bool
  | .bool b => b
  | _ => false
theorem mt_countB : MtR X "list.count" (rCntB X.K) := by
  intro pn s σ H x xs v us Q I rx rys hx
  obtain ⟨p, bs, rfl, rfl, hs, q⟩ := hx
  cases rx
  obtain ⟨ut, rfl, rt⟩ := rys.one
  cases (show ut = Value.bool true from rt)
  obtain ⟨its, rv, ⟨⟨oc, dd, od, sl⟩, n, ho, hc, _, hd⟩, _⟩ := I.list hs
  simp only at hc hd
  subst hc hd
  have all : ∀ {bs : List Bool} {us : List Value}, Vals (bs.map V.bl) us → (∀ y ∈ us, ∃ b, y = Value.bool b) ∧ us.countP isT = bs.count true := by
    intro bs
    induction bs with
    | nil => intro us r; cases r; exact ⟨fun y hy => (by cases hy), rfl⟩
    | cons b bs ih =>
      intro us r
      cases r with
      | cons r rr =>
        obtain ⟨h1, h2⟩ := ih rr
        have e := (show _ = Value.bool b from r)
        subst e
        refine ⟨fun y hy => ?_, ?_⟩
        · rcases List.mem_cons.mp hy with e | e
          · exact ⟨b, e⟩
          · exact h1 y e
        · rw [List.countP_cons, List.count_cons, h2]
          cases b <;> rfl
  obtain ⟨h1, h2⟩ := all rv
  refine call_meets PySem.F.slot_list_count ⟨_, ho, rfl⟩ PySem.F.entry_list_count (PySem.F.args_list_count_2 _ _) (SeqAt.list_countAt p its.toArray n dd sl (.bool true) isT) ⟨ho, fun y hy => ?_, ?_⟩
  · obtain ⟨b, rfl⟩ := h1 y (by simpa using hy)
    have := SeqAt.EqAt.bool_bool (A := X.A.in1) (s := s) b true
    rw [show (b == true) = isT (.bool b) by cases b <;> rfl] at this
    exact this
  · refine ⟨.int ((bs.count true : Nat) : Int), H, I.tok _, ⟨s.toks, ?_⟩, q⟩
    show Value.int ((its.toArray.toList.countP isT : Nat) : Int) s.toks = _
    rw [← h2]
end
end Fw
set_option maxHeartbeats 2000000
namespace Fw
open PySem PySem.Spec PyProof.Rows L2
/-- the classes above an error class, without itself -/
abbrev above (E : Addr) : List Value := [.ref E, .type "ValueError", .type "Exception", .type "BaseException", .type "object"]
/-- an error class by its place, with its __init__ -/
structure CF (K : PySem.W.Frag) (mg : Str → Option Value) (x : Str) (q : Str) (st : Stmt) (ps : List Str) (E C : Addr) (f : Addr) (fd : FuncData) : Prop where
  e : EC K C
  g : mg x = some (.ref C)
  mro : ∃ cd, PySem.W.clsIn K C = some cd ∧ cd.mro = .ref C :: above E
  i : PySem.W.findIn K (.ref C) "__init__" = some (some (.ref f))
  t : PySem.W.typeIn K (.ref f) = some (.type "function")
  F : Fun K "__init__" q st f fd
  b : Binds K fd ps []
theorem cf_mk {K : PySem.W.Frag} {h : Heap} {mg : Str → Option Value} {x q : Str} {st : Stmt} {ps : List Str} {E C f : Addr}
    {nm qn : Str} {N : Addr} {bs : List Value} {sn : List Str} {sub : List Value} {ab : Bool} {col : Option Bool} {dd : Option Addr} {m0 m1 m2 m3 m5 : Option Value}
    {od an : Option Addr} {sl : Array (Option Value)} {oc kV dc pm cd ct : Value} (X : K.In h) (G : h.Ns mainGlobals mg)
    (hb : ∀ fd, Fun K "__init__" q st f fd → Binds K fd ps [])
    (aC : PySem.W.nsIn K mainGlobals x = some (some (.ref C)))
    (xL : K.lookup C = some (excClassObj nm qn C N bs (above E) true sn sub ab col dd m0 m1 m2 m3 m5 "ValueError.__new__"))
    (sa : PySem.W.findIn K (.ref C) "__setattr__" = some (some (.builtin "object.__setattr__"))) (ga : PySem.W.findIn K (.ref C) "__getattribute__" = some (some (.builtin "BaseException.__getattribute__"))) (gg : PySem.W.findIn K (.ref C) "__getattr__" = some none)
    (a1 : PySem.W.findIn K (.ref C) "__init__" = some (some (.ref f))) (t1 : PySem.W.typeIn K (.ref f) = some (.type "function"))
    (l1 : K.lookup f = some ⟨oc, od, .func (PySem.W.fnOf "__init__" q (defArgs st) (defBody st) (defScope st) .none kV dc pm an cd ct), sl⟩) (c1 : PySem.W.codeIn K cd q = true) (k1 : PySem.W.keepIn K (.ref f) = true)
    (kC : PySem.W.keepIn K (.ref C) = true) (tC : PySem.W.typeIn K (.ref C) = some (.type "type")) (hC : PySem.W.hasDictIn K C = true)
    (ca : PySem.W.findIn K (.ref C) "__class__" = some (some (.builtin "object.__class__")))
    (sp : PySem.W.specialIn K (.builtin "object.__class__") "__get__" = some (some (.builtin "getset_descriptor.__get__"))) (tk : PySem.W.takesIn K (.builtin "object.__class__") = some true) :
    ∃ fd, CF K mg x q st ps E C f fd := by
  have cl : PySem.W.clsIn K C = some { name := nm, bases := bs, mro := .ref C :: above E, ns := N, qualname := qn, hasDict := true, slotNames := sn, subclasses := sub, abstract := ab, collection := col, hasDel := false } := by
    unfold PySem.W.clsIn
    rw [xL]
  have mr : ∀ v, PySem.W.mroIn K C v = some ((Value.ref C :: above E).contains v) := fun v => by
    unfold PySem.W.mroIn
    rw [cl]
    rfl
  have exC : PySem.W.subIn K (.ref C) (.type "BaseException") = some true := (mr _).trans rfl
  have F1 := fun_mk (st := st) l1 c1 k1
  refine ⟨_, ⟨⟨⟨nm, qn, N, bs, _, sn, sub, ab, col, dd, m0, m1, m2, m3, m5, xL, rfl⟩, sa, exC, tC, kC⟩, ⟨ga, gg, exC, hC⟩, by rw [cl]; rfl, ca, sp, tk, (mr _).trans rfl⟩, PySem.W.mg_of X G aC, ⟨_, cl, rfl⟩, a1, t1, F1, hb _ F1⟩
end Fw
set_option maxHeartbeats 2000000
namespace Fw
open PySem PySem.Spec PyProof.Rows L2
/-- a value of the law: data without dicts, or {} -/
def Vd (K : PySem.W.Frag) (H : Hp) (v : V) (d : PyData) : Prop := (Dp K H v d ∧ d.hasDict = false) ∨ (∃ a, v = .ref a ∧ H a = some (.dK []) ∧ d = .dict [])
def rReprX (K : PySem.W.Frag) : List V → Hp → VK → Prop := fun vs H Q => ∃ (a : Addr) (v : V) (n : Nat) (d : PyData), vs = [.ref a] ∧ a ≠ sysModules ∧ H a = some (.lst (List.replicate n v)) ∧ Vd K H v d ∧ (PyData.list (List.replicate n d)).showable = true ∧
  (PyData.list (List.replicate n d)).depth ≤ 60 ∧ (PyData.list (List.replicate n d)).shown.length ≤ sizeLine ∧ Q (.str (PyData.list (List.replicate n d)).shown) H
section
variable {X : Cx}
theorem vd_reads {pins : List (Addr × Obj)} {σ : L2.St} {H : Hp} {s : Shared} (I : Inv X pins σ H s) {v : V} {u : Value} {d : PyData} (h : Vd X.K H v d) (r : RelV v u) : ∃ as, Reads s.heap u d as ∧ (d.hasDict = true → sysModules ∉ as) := by
  rcases h with ⟨h, n⟩ | ⟨a, rfl, e, rfl⟩
  · obtain ⟨as, rd⟩ := Dp.reads I d v u h r
    exact ⟨as, rd, fun z => by rw [n] at z; cases z⟩
  · cases r
    obtain ⟨_, y, vs, kv, o, es, ep, ho, hx, hd, _, hp, _⟩ := (show ObjOk X.prog X.w H s.heap a (.dK []) from I.hok a _ e)
    cases kv
    have e0 : es.toList = [] := by
      generalize es.toList = l at hp
      cases hp
      rfl
    refine ⟨_, Reads.dict (kvs := []) ho hx.1 hd (by rw [e0]; exact .nil) (by rw [e0]; exact .nil), fun _ z => ?_⟩
    have z' : sysModules ∈ [a] := z
    rw [List.mem_singleton.mp z'] at y
    simp at y
theorem vd_all {pins : List (Addr × Obj)} {σ : L2.St} {H : Hp} {s : Shared} (I : Inv X pins σ H s) {v : V} {d : PyData} (h : Vd X.K H v d) : ∀ (n : Nat) (us : List Value), Vals (List.replicate n v) us → ∃ as, ReadsAll s.heap us (List.replicate n d) as ∧ (d.hasDict = true → sysModules ∉ as) := by
  intro n
  induction n with
  | zero => intro us r; cases r; exact ⟨_, .nil, fun _ z => by cases z⟩
  | succ n ih =>
    intro us r
    rw [List.replicate_succ] at r
    cases r with
    | cons r1 r2 =>
      obtain ⟨as, q1, n1⟩ := vd_reads I h r1
      obtain ⟨bs, q2, n2⟩ := ih _ r2
      rw [List.replicate_succ]
      exact ⟨_, .cons q1 q2, fun z m => (List.mem_append.mp m).elim (n1 z) (n2 z)⟩
theorem hd_rep {d : PyData} : ∀ n : Nat, (PyData.list (List.replicate n d)).hasDict = true → d.hasDict = true := by
  intro n
  have key : ∀ n : Nat, PyData.hasDictAll (List.replicate n d) = true → d.hasDict = true := by
    intro n
    induction n with
    | zero => intro h; cases h
    | succ n ih =>
      intro h
      rw [List.replicate_succ] at h
      simp only [PyData.hasDictAll, Bool.or_eq_true] at h
      exact h.elim id ih
  intro h
  exact key n (by simpa only [PyData.hasDict] using h)
theorem call_reprX (hg : X.A.guards = some []) (hu : X.A.units + 65 < cLine) : CallR X (.builtin "repr") (rReprX X.K) := by
  intro pins s σ H vs us Q I r h
  obtain ⟨a, v, n, d, rfl, na, ea, hv, hs, hp, hz, q⟩ := h
  obtain ⟨u, rfl, ru⟩ := vals1 r
  obtain rfl : u = Value.ref a := ru
  obtain ⟨its, rv, ⟨o, m, ho, hc, _, hd⟩, _⟩ := I.list (SqL.of ea)
  obtain ⟨as, ra, nn⟩ := vd_all I hv n its rv
  refine repr_of_reads' (Reads.list ho hc hd ra) hs (fun z m => ?_) hg (by omega) (fun _ _ e => e) (fun h' t tk hk => ?_) hz
  · rcases List.mem_cons.mp m with e | e
    · exact na e.symm
    · exact nn (hd_rep n z) e
  · exact ⟨.str _, H, I.kept hk, ⟨_, rfl⟩, q⟩
/-- list + list, list * int: the new list is not sys.modules -/
def rCatN : R2 := fun x y H Q => ∃ l b xs zs, x = .ref l ∧ y = .ref b ∧ H l = some (.lst xs) ∧ H b = some (.lst zs) ∧ xs.length + zs.length ≤ sizeLine ∧ ∀ p, H p = none → p ≠ sysModules → Q (.ref p) (upd H p (.lst (xs ++ zs)))
theorem op_catN : OpR X (binaryOp .Add) rCatN := by
  intro pn sh σ H x y v u Q J rx ry hh
  obtain ⟨la, lb, xa, xb, rfl, rfl, ha, hb, hz, q⟩ := hh
  cases rx
  cases ry
  obtain ⟨za, ia, na, ra, ka, ea⟩ := J.lstM ha
  obtain ⟨zb, ib, nb, rb, kb, eb⟩ := J.lstM hb
  have both : ia.toArray ++ ib.toArray = (ia ++ ib).toArray := by simp
  refine PySem.P.add_list ea eb ?_ (by simp only [List.size_toArray]; omega)
  rw [both]
  refine ⟨.ref _, _, J.lnew (t' := sh.toks) (ra.append rb) (by simp only [List.length_append]; omega), rfl, q _ J.fresh fun e => ?_⟩
  exact Nat.ne_of_lt J.big e.symm
/-- [v] * 16 -/
def rRepN : R2 := fun x y H Q => ∃ l v, x = .ref l ∧ y = .int 16 ∧ H l = some (.lst [v]) ∧ ∀ p, H p = none → p ≠ sysModules → Q (.ref p) (upd H p (.lst (List.replicate 16 v)))
theorem op_repN : OpR X (binaryOp .Mult) rRepN := by
  intro pn s σ H x y v u Q I rx ry hh
  obtain ⟨l, v0, rfl, rfl, ha, q⟩ := hh
  cases rx
  obtain ⟨t, rfl⟩ := ry
  obtain ⟨_, ia, n, r, _, e⟩ := I.lstM ha
  obtain ⟨a, rfl, ra⟩ := r.one
  have tooL : ¬ [a].toArray.size * (16 : Int).toNat > (2 ^ 63 - 1) / 8 := by
    show ¬ 1 * 16 > _
    decide
  have notL : ¬ Builtin.List.listTooLong ([a].toArray.size * (16 : Int).toNat) = true := by
    show ¬ Builtin.List.listTooLong 16 = true
    decide
  refine wpAny_binaryOp_repeat_ref (T := "list") (U := "int") (by decide) ⟨_, e, rfl⟩ (fun s' => typeIs_int s' 16 t) noFill_list_mul F.fills_int_mul F.slot_int_rmul repeat_list F.slot_int_index.lookup
    (call_meets F.slot_int_rmul (typeIs_int s 16 t) F.entry_int_rmul (F.args_int_rmul_2 _ _) (int___rmul___int_list 16 t l _ n)
      ⟨e, rfl, ⟨_, e, rfl⟩, call_meets F.slot_list_mul ⟨_, e, rfl⟩ F.entry_list_mul (F.args_list_mul_2 _ _) (AutoListH.list___mul___list_int_3 l _ n 16 t (by decide) tooL (notL) ) ⟨e, ?_⟩⟩)
  have rr : Vals (List.replicate 16 v0) (List.replicate 16 a) := by
    simp only [List.replicate]
    repeat (first | exact .nil | refine .cons ra ?_)
  have hnew : List.foldl (fun x1 x2 => x1 ++ x2) #[] (List.replicate (if [a].toArray.isEmpty = true then 0 else (16 : Int).toNat) [a].toArray) = (List.replicate 16 a).toArray := by
    rw [if_neg (by simp)]
    have f0 := foldl_rep [a] 16 []
    rw [List.nil_append, lm_rep_flat_one] at f0
    exact f0
  rw [hnew]
  exact ⟨.ref _, _, I.lnew (t' := s.toks) rr (by rw [List.length_replicate]; decide), rfl, q _ I.fresh fun e => Nat.ne_of_lt I.big e.symm⟩
end
end Fw
set_option maxHeartbeats 2000000
namespace Fw
open PySem PySem.Spec PyProof.Rows L2
/-- what the __init__ of an error with a field, without a field, does -/
def spIni (f : Str) (C : Addr) : Sp := fun vs H Q _ => ∃ (a : Addr) (v : V), vs = [.ref a, v] ∧ H a = some (exo a C none) ∧ ∀ dx, H dx = none → dx ≠ a → Q .non (upd (upd H dx (exd dx [(f, v)])) a (exo a C (some dx)))
def spBare : Sp := fun vs H Q _ => ∃ (a : Addr), vs = [.ref a] ∧ Q .non H
section
variable {P : Program} {w : World} {K : PySem.W.Frag} {mg : Str → Option Value} {base : Heap}
theorem in_UnknownPerson {C f : Addr} {fd : FuncData} (F : Fun K "__init__" "UnknownPerson.__init__" iUnknownPerson f fd) (oc : OexC K C) (no : PySem.W.findIn K (.ref C) "name" = some none) : FnOk P w K mg base CX0 1 f fd ["self", "name"] (spIni "name" C) := by
  refine Fun.ok F (N := ["self", "name"]) ⟨rfl, rfl, rfl, by decide +kernel, rfl, by decide +kernel, by decide +kernel⟩ (fun vs H Q E h => ?_) (fun cdv A outer s H vs Q E hr h => ?_)
  · obtain ⟨a, v, rfl, _⟩ := h
    rfl
  · obtain ⟨a, v, rfl, ea, q⟩ := h
    exact ⟨_, pss_one (ps_ost (pv 0) (pv 1)), _, rfl, _, rfl, a, C, rfl, oc, no, .inl ⟨ea, q⟩⟩
theorem in_InvalidRoom {C f : Addr} {fd : FuncData} (F : Fun K "__init__" "InvalidRoom.__init__" iInvalidRoom f fd) (oc : OexC K C) (no : PySem.W.findIn K (.ref C) "room" = some none) : FnOk P w K mg base CX0 1 f fd ["self", "room"] (spIni "room" C) := by
  refine Fun.ok F (N := ["self", "room"]) ⟨rfl, rfl, rfl, by decide +kernel, rfl, by decide +kernel, by decide +kernel⟩ (fun vs H Q E h => ?_) (fun cdv A outer s H vs Q E hr h => ?_)
  · obtain ⟨a, v, rfl, _⟩ := h
    rfl
  · obtain ⟨a, v, rfl, ea, q⟩ := h
    exact ⟨_, pss_one (ps_ost (pv 0) (pv 1)), _, rfl, _, rfl, a, C, rfl, oc, no, .inl ⟨ea, q⟩⟩
theorem in_NotAdjacent {C f : Addr} {fd : FuncData} (F : Fun K "__init__" "NotAdjacent.__init__" iNotAdjacent f fd) (oc : OexC K C) (no : PySem.W.findIn K (.ref C) "room" = some none) : FnOk P w K mg base CX0 1 f fd ["self", "room"] (spIni "room" C) := by
  refine Fun.ok F (N := ["self", "room"]) ⟨rfl, rfl, rfl, by decide +kernel, rfl, by decide +kernel, by decide +kernel⟩ (fun vs H Q E h => ?_) (fun cdv A outer s H vs Q E hr h => ?_)
  · obtain ⟨a, v, rfl, _⟩ := h
    rfl
  · obtain ⟨a, v, rfl, ea, q⟩ := h
    exact ⟨_, pss_one (ps_ost (pv 0) (pv 1)), _, rfl, _, rfl, a, C, rfl, oc, no, .inl ⟨ea, q⟩⟩
theorem in_EmptyRoom {C f : Addr} {fd : FuncData} (F : Fun K "__init__" "EmptyRoom.__init__" iEmptyRoom f fd) (oc : OexC K C) (no : PySem.W.findIn K (.ref C) "room" = some none) : FnOk P w K mg base CX0 1 f fd ["self", "room"] (spIni "room" C) := by
  refine Fun.ok F (N := ["self", "room"]) ⟨rfl, rfl, rfl, by decide +kernel, rfl, by decide +kernel, by decide +kernel⟩ (fun vs H Q E h => ?_) (fun cdv A outer s H vs Q E hr h => ?_)
  · obtain ⟨a, v, rfl, _⟩ := h
    rfl
  · obtain ⟨a, v, rfl, ea, q⟩ := h
    exact ⟨_, pss_one (ps_ost (pv 0) (pv 1)), _, rfl, _, rfl, a, C, rfl, oc, no, .inl ⟨ea, q⟩⟩
theorem in_InvalidMoves {C f : Addr} {fd : FuncData} (F : Fun K "__init__" "InvalidMoves.__init__" iInvalidMoves f fd) (oc : OexC K C) (no : PySem.W.findIn K (.ref C) "position" = some none) : FnOk P w K mg base CX0 1 f fd ["self", "position"] (spIni "position" C) := by
  refine Fun.ok F (N := ["self", "position"]) ⟨rfl, rfl, rfl, by decide +kernel, rfl, by decide +kernel, by decide +kernel⟩ (fun vs H Q E h => ?_) (fun cdv A outer s H vs Q E hr h => ?_)
  · obtain ⟨a, v, rfl, _⟩ := h
    rfl
  · obtain ⟨a, v, rfl, ea, q⟩ := h
    exact ⟨_, pss_one (ps_ost (pv 0) (pv 1)), _, rfl, _, rfl, a, C, rfl, oc, no, .inl ⟨ea, q⟩⟩
theorem in_OtherRegion {C f : Addr} {fd : FuncData} (F : Fun K "__init__" "OtherRegion.__init__" iOtherRegion f fd) (oc : OexC K C) (no : PySem.W.findIn K (.ref C) "room" = some none) : FnOk P w K mg base CX0 1 f fd ["self", "room"] (spIni "room" C) := by
  refine Fun.ok F (N := ["self", "room"]) ⟨rfl, rfl, rfl, by decide +kernel, rfl, by decide +kernel, by decide +kernel⟩ (fun vs H Q E h => ?_) (fun cdv A outer s H vs Q E hr h => ?_)
  · obtain ⟨a, v, rfl, _⟩ := h
    rfl
  · obtain ⟨a, v, rfl, ea, q⟩ := h
    exact ⟨_, pss_one (ps_ost (pv 0) (pv 1)), _, rfl, _, rfl, a, C, rfl, oc, no, .inl ⟨ea, q⟩⟩
theorem in_TightRegion {C f : Addr} {fd : FuncData} (F : Fun K "__init__" "TightRegion.__init__" iTightRegion f fd) (oc : OexC K C) (no : PySem.W.findIn K (.ref C) "room" = some none) : FnOk P w K mg base CX0 1 f fd ["self", "room"] (spIni "room" C) := by
  refine Fun.ok F (N := ["self", "room"]) ⟨rfl, rfl, rfl, by decide +kernel, rfl, by decide +kernel, by decide +kernel⟩ (fun vs H Q E h => ?_) (fun cdv A outer s H vs Q E hr h => ?_)
  · obtain ⟨a, v, rfl, _⟩ := h
    rfl
  · obtain ⟨a, v, rfl, ea, q⟩ := h
    exact ⟨_, pss_one (ps_ost (pv 0) (pv 1)), _, rfl, _, rfl, a, C, rfl, oc, no, .inl ⟨ea, q⟩⟩
theorem in_Blocked {C f : Addr} {fd : FuncData} (F : Fun K "__init__" "Blocked.__init__" iBlocked f fd) (oc : OexC K C) (no : PySem.W.findIn K (.ref C) "block" = some none) : FnOk P w K mg base CX0 1 f fd ["self", "block"] (spIni "block" C) := by
  refine Fun.ok F (N := ["self", "block"]) ⟨rfl, rfl, rfl, by decide +kernel, rfl, by decide +kernel, by decide +kernel⟩ (fun vs H Q E h => ?_) (fun cdv A outer s H vs Q E hr h => ?_)
  · obtain ⟨a, v, rfl, _⟩ := h
    rfl
  · obtain ⟨a, v, rfl, ea, q⟩ := h
    exact ⟨_, pss_one (ps_ost (pv 0) (pv 1)), _, rfl, _, rfl, a, C, rfl, oc, no, .inl ⟨ea, q⟩⟩
theorem in_InvalidName {C f : Addr} {fd : FuncData} (F : Fun K "__init__" "InvalidName.__init__" iInvalidName f fd) (oc : OexC K C) (no : PySem.W.findIn K (.ref C) "name" = some none) : FnOk P w K mg base CX0 1 f fd ["self", "name"] (spIni "name" C) := by
  refine Fun.ok F (N := ["self", "name"]) ⟨rfl, rfl, rfl, by decide +kernel, rfl, by decide +kernel, by decide +kernel⟩ (fun vs H Q E h => ?_) (fun cdv A outer s H vs Q E hr h => ?_)
  · obtain ⟨a, v, rfl, _⟩ := h
    rfl
  · obtain ⟨a, v, rfl, ea, q⟩ := h
    exact ⟨_, pss_one (ps_ost (pv 0) (pv 1)), _, rfl, _, rfl, a, C, rfl, oc, no, .inl ⟨ea, q⟩⟩
theorem in_DuplicateName {C f : Addr} {fd : FuncData} (F : Fun K "__init__" "DuplicateName.__init__" iDuplicateName f fd) (oc : OexC K C) (no : PySem.W.findIn K (.ref C) "name" = some none) : FnOk P w K mg base CX0 1 f fd ["self", "name"] (spIni "name" C) := by
  refine Fun.ok F (N := ["self", "name"]) ⟨rfl, rfl, rfl, by decide +kernel, rfl, by decide +kernel, by decide +kernel⟩ (fun vs H Q E h => ?_) (fun cdv A outer s H vs Q E hr h => ?_)
  · obtain ⟨a, v, rfl, _⟩ := h
    rfl
  · obtain ⟨a, v, rfl, ea, q⟩ := h
    exact ⟨_, pss_one (ps_ost (pv 0) (pv 1)), _, rfl, _, rfl, a, C, rfl, oc, no, .inl ⟨ea, q⟩⟩
theorem in_LimitReached {C f : Addr} {fd : FuncData} (F : Fun K "__init__" "LimitReached.__init__" iLimitReached f fd) (oc : OexC K C) (no : PySem.W.findIn K (.ref C) "limit" = some none) : FnOk P w K mg base CX0 1 f fd ["self", "limit"] (spIni "limit" C) := by
  refine Fun.ok F (N := ["self", "limit"]) ⟨rfl, rfl, rfl, by decide +kernel, rfl, by decide +kernel, by decide +kernel⟩ (fun vs H Q E h => ?_) (fun cdv A outer s H vs Q E hr h => ?_)
  · obtain ⟨a, v, rfl, _⟩ := h
    rfl
  · obtain ⟨a, v, rfl, ea, q⟩ := h
    exact ⟨_, pss_one (ps_ost (pv 0) (pv 1)), _, rfl, _, rfl, a, C, rfl, oc, no, .inl ⟨ea, q⟩⟩
theorem in_AlreadyAdjacent {C f : Addr} {fd : FuncData} (F : Fun K "__init__" "AlreadyAdjacent.__init__" iAlreadyAdjacent f fd) (oc : OexC K C) (no : PySem.W.findIn K (.ref C) "room" = some none) : FnOk P w K mg base CX0 1 f fd ["self", "room"] (spIni "room" C) := by
  refine Fun.ok F (N := ["self", "room"]) ⟨rfl, rfl, rfl, by decide +kernel, rfl, by decide +kernel, by decide +kernel⟩ (fun vs H Q E h => ?_) (fun cdv A outer s H vs Q E hr h => ?_)
  · obtain ⟨a, v, rfl, _⟩ := h
    rfl
  · obtain ⟨a, v, rfl, ea, q⟩ := h
    exact ⟨_, pss_one (ps_ost (pv 0) (pv 1)), _, rfl, _, rfl, a, C, rfl, oc, no, .inl ⟨ea, q⟩⟩
theorem in_WouldFormCycle {C f : Addr} {fd : FuncData} (F : Fun K "__init__" "WouldFormCycle.__init__" iWouldFormCycle f fd) (oc : OexC K C) (no : PySem.W.findIn K (.ref C) "room" = some none) : FnOk P w K mg base CX0 1 f fd ["self", "room"] (spIni "room" C) := by
  refine Fun.ok F (N := ["self", "room"]) ⟨rfl, rfl, rfl, by decide +kernel, rfl, by decide +kernel, by decide +kernel⟩ (fun vs H Q E h => ?_) (fun cdv A outer s H vs Q E hr h => ?_)
  · obtain ⟨a, v, rfl, _⟩ := h
    rfl
  · obtain ⟨a, v, rfl, ea, q⟩ := h
    exact ⟨_, pss_one (ps_ost (pv 0) (pv 1)), _, rfl, _, rfl, a, C, rfl, oc, no, .inl ⟨ea, q⟩⟩
theorem in_NothingToUndo {f : Addr} {fd : FuncData} (F : Fun K "__init__" "NothingToUndo.__init__" iNothingToUndo f fd) : FnOk P w K mg base CX0 1 f fd ["self"] spBare := by
  refine Fun.ok F (N := ["self"]) ⟨rfl, rfl, rfl, by decide +kernel, rfl, by decide +kernel, by decide +kernel⟩ (fun vs H Q E h => ?_) (fun cdv A outer s H vs Q E hr h => ?_)
  · obtain ⟨a, rfl, _⟩ := h
    rfl
  · obtain ⟨a, rfl, q⟩ := h
    exact ⟨_, pss_one ps_pass, q⟩
theorem in_HistoryFull {f : Addr} {fd : FuncData} (F : Fun K "__init__" "HistoryFull.__init__" iHistoryFull f fd) : FnOk P w K mg base CX0 1 f fd ["self"] spBare := by
  refine Fun.ok F (N := ["self"]) ⟨rfl, rfl, rfl, by decide +kernel, rfl, by decide +kernel, by decide +kernel⟩ (fun vs H Q E h => ?_) (fun cdv A outer s H vs Q E hr h => ?_)
  · obtain ⟨a, rfl, _⟩ := h
    rfl
  · obtain ⟨a, rfl, q⟩ := h
    exact ⟨_, pss_one ps_pass, q⟩
theorem in_SessionBusy {f : Addr} {fd : FuncData} (F : Fun K "__init__" "SessionBusy.__init__" iSessionBusy f fd) : FnOk P w K mg base CX0 1 f fd ["self"] spBare := by
  refine Fun.ok F (N := ["self"]) ⟨rfl, rfl, rfl, by decide +kernel, rfl, by decide +kernel, by decide +kernel⟩ (fun vs H Q E h => ?_) (fun cdv A outer s H vs Q E hr h => ?_)
  · obtain ⟨a, rfl, _⟩ := h
    rfl
  · obtain ⟨a, rfl, q⟩ := h
    exact ⟨_, pss_one ps_pass, q⟩
theorem in_InvalidActions {f : Addr} {fd : FuncData} (F : Fun K "__init__" "InvalidActions.__init__" iInvalidActions f fd) : FnOk P w K mg base CX0 1 f fd ["self"] spBare := by
  refine Fun.ok F (N := ["self"]) ⟨rfl, rfl, rfl, by decide +kernel, rfl, by decide +kernel, by decide +kernel⟩ (fun vs H Q E h => ?_) (fun cdv A outer s H vs Q E hr h => ?_)
  · obtain ⟨a, rfl, _⟩ := h
    rfl
  · obtain ⟨a, rfl, q⟩ := h
    exact ⟨_, pss_one ps_pass, q⟩
theorem in_BatchFailed {C f : Addr} {fd : FuncData} (F : Fun K "__init__" "BatchFailed.__init__" iBatchFailed f fd) (oc : OexC K C) (no : PySem.W.findIn K (.ref C) "position" = some none) : FnOk P w K mg base CX0 1 f fd ["self", "position"] (spIni "position" C) := by
  refine Fun.ok F (N := ["self", "position"]) ⟨rfl, rfl, rfl, by decide +kernel, rfl, by decide +kernel, by decide +kernel⟩ (fun vs H Q E h => ?_) (fun cdv A outer s H vs Q E hr h => ?_)
  · obtain ⟨a, v, rfl, _⟩ := h
    rfl
  · obtain ⟨a, v, rfl, ea, q⟩ := h
    exact ⟨_, pss_one (ps_ost (pv 0) (pv 1)), _, rfl, _, rfl, a, C, rfl, oc, no, .inl ⟨ea, q⟩⟩
theorem in_InvalidMoment {C f : Addr} {fd : FuncData} (F : Fun K "__init__" "InvalidMoment.__init__" iInvalidMoment f fd) (oc : OexC K C) (no : PySem.W.findIn K (.ref C) "position" = some none) : FnOk P w K mg base CX0 1 f fd ["self", "position"] (spIni "position" C) := by
  refine Fun.ok F (N := ["self", "position"]) ⟨rfl, rfl, rfl, by decide +kernel, rfl, by decide +kernel, by decide +kernel⟩ (fun vs H Q E h => ?_) (fun cdv A outer s H vs Q E hr h => ?_)
  · obtain ⟨a, v, rfl, _⟩ := h
    rfl
  · obtain ⟨a, v, rfl, ea, q⟩ := h
    exact ⟨_, pss_one (ps_ost (pv 0) (pv 1)), _, rfl, _, rfl, a, C, rfl, oc, no, .inl ⟨ea, q⟩⟩
theorem in_InvalidHouse {f : Addr} {fd : FuncData} (F : Fun K "__init__" "InvalidHouse.__init__" iInvalidHouse f fd) : FnOk P w K mg base CX0 1 f fd ["self"] spBare := by
  refine Fun.ok F (N := ["self"]) ⟨rfl, rfl, rfl, by decide +kernel, rfl, by decide +kernel, by decide +kernel⟩ (fun vs H Q E h => ?_) (fun cdv A outer s H vs Q E hr h => ?_)
  · obtain ⟨a, rfl, _⟩ := h
    rfl
  · obtain ⟨a, rfl, q⟩ := h
    exact ⟨_, pss_one ps_pass, q⟩
theorem in_InvalidPlacement {f : Addr} {fd : FuncData} (F : Fun K "__init__" "InvalidPlacement.__init__" iInvalidPlacement f fd) : FnOk P w K mg base CX0 1 f fd ["self"] spBare := by
  refine Fun.ok F (N := ["self"]) ⟨rfl, rfl, rfl, by decide +kernel, rfl, by decide +kernel, by decide +kernel⟩ (fun vs H Q E h => ?_) (fun cdv A outer s H vs Q E hr h => ?_)
  · obtain ⟨a, rfl, _⟩ := h
    rfl
  · obtain ⟨a, rfl, q⟩ := h
    exact ⟨_, pss_one ps_pass, q⟩
theorem in_InvalidText {C f : Addr} {fd : FuncData} (F : Fun K "__init__" "InvalidText.__init__" iInvalidText f fd) (oc : OexC K C) (no : PySem.W.findIn K (.ref C) "position" = some none) : FnOk P w K mg base CX0 1 f fd ["self", "position"] (spIni "position" C) := by
  refine Fun.ok F (N := ["self", "position"]) ⟨rfl, rfl, rfl, by decide +kernel, rfl, by decide +kernel, by decide +kernel⟩ (fun vs H Q E h => ?_) (fun cdv A outer s H vs Q E hr h => ?_)
  · obtain ⟨a, v, rfl, _⟩ := h
    rfl
  · obtain ⟨a, v, rfl, ea, q⟩ := h
    exact ⟨_, pss_one (ps_ost (pv 0) (pv 1)), _, rfl, _, rfl, a, C, rfl, oc, no, .inl ⟨ea, q⟩⟩
end
/-- all that the written part says of the errors -/
structure Er (K : PySem.W.Frag) (mg : Str → Option Value) (E C1 C2 C3 C4 C5 C6 C7 C8 C9 C10 C11 C12 C13 C14 C15 C16 C17 C18 C19 C20 C21 C22 g1 g2 g3 g4 g5 g6 g7 g8 g9 g10 g11 g12 g13 g14 g15 g16 g17 g18 g19 g20 g21 g22 : Addr) (h1 h2 h3 h4 h5 h6 h7 h8 h9 h10 h11 h12 h13 h14 h15 h16 h17 h18 h19 h20 h21 h22 : FuncData) : Prop where
  gE : mg "HouseError" = some (.ref E)
  iE : PySem.W.isClsIn K E = true
  tE : PySem.W.typeIn K (.ref E) = some (.type "type")
  nd : [E, C1, C2, C3, C4, C5, C6, C7, C8, C9, C10, C11, C12, C13, C14, C15, C16, C17, C18, C19, C20, C21, C22].Nodup
  ve : mg "ValueError" = none
  cUnknownPerson : CF K mg "UnknownPerson" "UnknownPerson.__init__" iUnknownPerson ["self", "name"] E C1 g1 h1
  nUnknownPerson : PySem.W.findIn K (.ref C1) "name" = some none
  cInvalidRoom : CF K mg "InvalidRoom" "InvalidRoom.__init__" iInvalidRoom ["self", "room"] E C2 g2 h2
  nInvalidRoom : PySem.W.findIn K (.ref C2) "room" = some none
  cNotAdjacent : CF K mg "NotAdjacent" "NotAdjacent.__init__" iNotAdjacent ["self", "room"] E C3 g3 h3
  nNotAdjacent : PySem.W.findIn K (.ref C3) "room" = some none
  cEmptyRoom : CF K mg "EmptyRoom" "EmptyRoom.__init__" iEmptyRoom ["self", "room"] E C4 g4 h4
  nEmptyRoom : PySem.W.findIn K (.ref C4) "room" = some none
  cInvalidMoves : CF K mg "InvalidMoves" "InvalidMoves.__init__" iInvalidMoves ["self", "position"] E C5 g5 h5
  nInvalidMoves : PySem.W.findIn K (.ref C5) "position" = some none
  cOtherRegion : CF K mg "OtherRegion" "OtherRegion.__init__" iOtherRegion ["self", "room"] E C6 g6 h6
  nOtherRegion : PySem.W.findIn K (.ref C6) "room" = some none
  cTightRegion : CF K mg "TightRegion" "TightRegion.__init__" iTightRegion ["self", "room"] E C7 g7 h7
  nTightRegion : PySem.W.findIn K (.ref C7) "room" = some none
  cBlocked : CF K mg "Blocked" "Blocked.__init__" iBlocked ["self", "block"] E C8 g8 h8
  nBlocked : PySem.W.findIn K (.ref C8) "block" = some none
  cInvalidName : CF K mg "InvalidName" "InvalidName.__init__" iInvalidName ["self", "name"] E C9 g9 h9
  nInvalidName : PySem.W.findIn K (.ref C9) "name" = some none
  cDuplicateName : CF K mg "DuplicateName" "DuplicateName.__init__" iDuplicateName ["self", "name"] E C10 g10 h10
  nDuplicateName : PySem.W.findIn K (.ref C10) "name" = some none
  cLimitReached : CF K mg "LimitReached" "LimitReached.__init__" iLimitReached ["self", "limit"] E C11 g11 h11
  nLimitReached : PySem.W.findIn K (.ref C11) "limit" = some none
  cAlreadyAdjacent : CF K mg "AlreadyAdjacent" "AlreadyAdjacent.__init__" iAlreadyAdjacent ["self", "room"] E C12 g12 h12
  nAlreadyAdjacent : PySem.W.findIn K (.ref C12) "room" = some none
  cWouldFormCycle : CF K mg "WouldFormCycle" "WouldFormCycle.__init__" iWouldFormCycle ["self", "room"] E C13 g13 h13
  nWouldFormCycle : PySem.W.findIn K (.ref C13) "room" = some none
  cNothingToUndo : CF K mg "NothingToUndo" "NothingToUndo.__init__" iNothingToUndo ["self"] E C14 g14 h14
  cHistoryFull : CF K mg "HistoryFull" "HistoryFull.__init__" iHistoryFull ["self"] E C15 g15 h15
  cSessionBusy : CF K mg "SessionBusy" "SessionBusy.__init__" iSessionBusy ["self"] E C16 g16 h16
  cInvalidActions : CF K mg "InvalidActions" "InvalidActions.__init__" iInvalidActions ["self"] E C17 g17 h17
  cBatchFailed : CF K mg "BatchFailed" "BatchFailed.__init__" iBatchFailed ["self", "position"] E C18 g18 h18
  nBatchFailed : PySem.W.findIn K (.ref C18) "position" = some none
  cInvalidMoment : CF K mg "InvalidMoment" "InvalidMoment.__init__" iInvalidMoment ["self", "position"] E C19 g19 h19
  nInvalidMoment : PySem.W.findIn K (.ref C19) "position" = some none
  cInvalidHouse : CF K mg "InvalidHouse" "InvalidHouse.__init__" iInvalidHouse ["self"] E C20 g20 h20
  cInvalidPlacement : CF K mg "InvalidPlacement" "InvalidPlacement.__init__" iInvalidPlacement ["self"] E C21 g21 h21
  cInvalidText : CF K mg "InvalidText" "InvalidText.__init__" iInvalidText ["self", "position"] E C22 g22 h22
  nInvalidText : PySem.W.findIn K (.ref C22) "position" = some none
/-- isinstance among the errors -/
theorem kit_ref {K : PySem.W.Frag} {D E C : Addr} (hm : ∃ cd, PySem.W.clsIn K D = some cd ∧ cd.mro = .ref D :: above E) (hC : (PySem.W.clsIn K C).isSome = true) (tC : PySem.W.typeIn K (.ref C) = some (.type "type")) :
    PySem.W.kitOne K (.ref D) (.ref C) = some (decide (C = D ∨ C = E)) := by
  obtain ⟨cd, h1, h2⟩ := hm
  unfold PySem.W.kitOne
  by_cases e : D = C
  · rw [if_pos (by rw [e]; exact beq_self_eq_true _)]
    simp [e]
  · rw [if_neg (by simpa using e)]
    unfold PySem.W.kitCls
    simp only [hC, tC]
    rw [if_pos (by rfl)]
    show PySem.W.mroIn K D (.ref C) = _
    unfold PySem.W.mroIn
    rw [h1]
    show (if cd.mro.isEmpty then none else some (cd.mro.contains (.ref C))) = _
    rw [h2]
    show some ((Value.ref D :: above E).contains (.ref C)) = _
    have e' : C ≠ D := fun z => e z.symm
    by_cases e2 : C = E <;> simp [e', e2]
theorem kit_ve {K : PySem.W.Frag} {D E : Addr} (hm : ∃ cd, PySem.W.clsIn K D = some cd ∧ cd.mro = .ref D :: above E) : PySem.W.kitOne K (.ref D) (.type "ValueError") = some true := by
  obtain ⟨cd, h1, h2⟩ := hm
  unfold PySem.W.kitOne
  rw [if_neg (by simp)]
  unfold PySem.W.kitCls
  simp only []
  rw [if_pos (by decide +kernel)]
  show PySem.W.mroIn K D (.type "ValueError") = _
  unfold PySem.W.mroIn
  rw [h1]
  show (if cd.mro.isEmpty then none else some (cd.mro.contains _)) = _
  rw [h2]
  show some ((Value.ref D :: above E).contains _) = _
  simp
end Fw
set_option maxHeartbeats 2000000
namespace Fw
open PySem PySem.Spec PyProof.Rows L2
structure Kd (K : PySem.W.Frag) (E D : Addr) : Prop where
  e : EC K D
  m : ∃ cd, PySem.W.clsIn K D = some cd ∧ cd.mro = .ref D :: above E
/-- an error at x, of the class at D, with the fields fs (none: without a dict) -/
def ExAt (H : Hp) (x : V) (D : Addr) (fs : Option (List (Str × V))) : Prop := ∃ (a : Addr) (d : Option Addr), x = .ref a ∧ H a = some (exo a D d) ∧ match fs with
  | none => d = none
  | some l => ∃ dx, d = some dx ∧ H dx = some (exd dx l)
theorem ExAt.same {H H1 : Hp} {x : V} {D : Addr} {fs : Option (List (Str × V))} (h : ExAt H x D fs) (s : Same H H1) : ExAt H1 x D fs := by
  obtain ⟨a, d, e, ea, q⟩ := h
  refine ⟨a, d, e, s _ _ ea, ?_⟩
  cases fs with
  | none => exact q
  | some l =>
    obtain ⟨dx, e1, e2⟩ := q
    exact ⟨dx, e1, s _ _ e2⟩
theorem isx {K : PySem.W.Frag} {E D C a : Addr} {d : Option Addr} {σ : L2.St} {i : Nat} {H : Hp} {Q : VK} (e : σ[i]? = some (some (.ref a))) (ea : H a = some (exo a D d)) (kd : Kd K E D) (hd : ∀ dx, d = some dx → ∃ fs, H dx = some (exd dx fs)) (hC : (PySem.W.clsIn K C).isSome = true) (ty : PySem.W.typeIn K (.ref C) = some (.type "type"))
    (q : Q (.bl (decide (C = D ∨ C = E))) H) : tCB (rIsX K) (tCons (tVar i) (tCons (tC (.ref C)) tNil)) σ H Q :=
  ⟨_, e, a, D, .ref C, .ref C, d, _, rfl, .own C, kd.e, ea, hd, kit_ref kd.m hC ty, q⟩
theorem count_one {E D : Addr} {Cs : List Addr} (nd : (E :: Cs).Nodup) (h : D ∈ Cs) : (Cs.map fun C => decide (C = D ∨ C = E)).count true = 1 := by
  obtain ⟨nE, n2⟩ := List.nodup_cons.mp nd
  have : ∀ C ∈ Cs, decide (C = D ∨ C = E) = (C == D) := fun C hC => by
    have : C ≠ E := fun z => nE (z ▸ hC)
    exact Bool.eq_iff_iff.mpr (by simp [this])
  rw [List.map_congr_left this, List.count_eq_countP, List.countP_map]
  have e : ((fun b => b == true) ∘ fun C => C == D) = fun C : Addr => C == D := by
    funext C
    simp
  rw [e]
  have := n2.count (a := D)
  rw [if_pos h] at this
  exact this
theorem le_sz {n : Nat} (h : n ≤ 100) : n ≤ sizeLine := Nat.le_trans h (by decide)
def spCount (K : PySem.W.Frag) (E : Addr) (Cs : List Addr) : Sp := fun vs H Q _ => ∃ (x : V) (D : Addr) (fs : Option (List (Str × V))), vs = [x] ∧ D ∈ Cs ∧ Kd K E D ∧ ExAt H x D fs ∧ ∀ H', Same H H' → Q (.int 1) H'
abbrev nCount : List Str := ["_law_e", "_law_bits"]
theorem scCount : FnScope nCount ["_law_e"] (defScope sCount) := ⟨rfl, rfl, rfl, by decide +kernel, rfl, by decide +kernel, by decide +kernel⟩
section
variable {P : Program} {w : World} {K : PySem.W.Frag} {mg : Str → Option Value} {base : Heap}
theorem ok_count {f : Addr} {fd : FuncData} {E C1 C2 C3 C4 C5 C6 C7 C8 C9 C10 C11 C12 C13 C14 C15 C16 C17 C18 C19 C20 C21 C22 g1 g2 g3 g4 g5 g6 g7 g8 g9 g10 g11 g12 g13 g14 g15 g16 g17 g18 g19 g20 g21 g22 : Addr} {h1 h2 h3 h4 h5 h6 h7 h8 h9 h10 h11 h12 h13 h14 h15 h16 h17 h18 h19 h20 h21 h22 : FuncData} (F : Fun K "_law_class_count" "_law_class_count" sCount f fd) (T : Nm mg) (R : Er K mg E C1 C2 C3 C4 C5 C6 C7 C8 C9 C10 C11 C12 C13 C14 C15 C16 C17 C18 C19 C20 C21 C22 g1 g2 g3 g4 g5 g6 g7 g8 g9 g10 g11 g12 g13 g14 g15 g16 g17 g18 g19 g20 g21 g22 h1 h2 h3 h4 h5 h6 h7 h8 h9 h10 h11 h12 h13 h14 h15 h16 h17 h18 h19 h20 h21 h22) : FnOk P w K mg base CX0 1 f fd ["_law_e"] (spCount K E [C1, C2, C3, C4, C5, C6, C7, C8, C9, C10, C11, C12, C13, C14, C15, C16, C17, C18, C19, C20, C21, C22]) := by
  refine Fun.ok F scCount (fun vs H Q E h => ?_) (fun cdv A outer s H vs Q _ hr h => ?_)
  · obtain ⟨x, D, fs, rfl, _⟩ := h
    rfl
  · obtain ⟨x, D, fs, rfl, hD, kd, ⟨a, d, rfl, ea, hfs⟩, q⟩ := h
    have hd : ∀ dx, d = some dx → ∃ fs, H dx = some (exd dx fs) := fun dx e => by
      cases fs with
      | none =>
        have z : d = none := hfs
        rw [z] at e
        cases e
      | some l =>
        obtain ⟨dy, e1, e2⟩ := hfs
        rw [e1] at e
        cases e
        exact ⟨l, e2⟩
    refine ⟨_, (pss_cons (ps_set (i := 1) scCount.nd rfl (.inl rfl) (pe_lst (pa_cons (pe_callB call_isX (by rfl) T.isinstance boot_isinstance (pa_cons (pv 0) (pa_cons (pe_glob (v := .ref C1) (by rfl) R.cUnknownPerson.g rfl) pa_nil))) (pa_cons (pe_callB call_isX (by rfl) T.isinstance boot_isinstance (pa_cons (pv 0) (pa_cons (pe_glob (v := .ref C2) (by rfl) R.cInvalidRoom.g rfl) pa_nil))) (pa_cons (pe_callB call_isX (by rfl) T.isinstance boot_isinstance (pa_cons (pv 0) (pa_cons (pe_glob (v := .ref C3) (by rfl) R.cNotAdjacent.g rfl) pa_nil))) (pa_cons (pe_callB call_isX (by rfl) T.isinstance boot_isinstance (pa_cons (pv 0) (pa_cons (pe_glob (v := .ref C4) (by rfl) R.cEmptyRoom.g rfl) pa_nil))) pa_nil))))))
      (pss_cons (ps_set (i := 1) scCount.nd rfl (.inl rfl) (pe_op op_cat (pv 1) (pe_lst (pa_cons (pe_callB call_isX (by rfl) T.isinstance boot_isinstance (pa_cons (pv 0) (pa_cons (pe_glob (v := .ref C5) (by rfl) R.cInvalidMoves.g rfl) pa_nil))) (pa_cons (pe_callB call_isX (by rfl) T.isinstance boot_isinstance (pa_cons (pv 0) (pa_cons (pe_glob (v := .ref C6) (by rfl) R.cOtherRegion.g rfl) pa_nil))) (pa_cons (pe_callB call_isX (by rfl) T.isinstance boot_isinstance (pa_cons (pv 0) (pa_cons (pe_glob (v := .ref C7) (by rfl) R.cTightRegion.g rfl) pa_nil))) (pa_cons (pe_callB call_isX (by rfl) T.isinstance boot_isinstance (pa_cons (pv 0) (pa_cons (pe_glob (v := .ref C8) (by rfl) R.cBlocked.g rfl) pa_nil))) pa_nil)))))))
      (pss_cons (ps_set (i := 1) scCount.nd rfl (.inl rfl) (pe_op op_cat (pv 1) (pe_lst (pa_cons (pe_callB call_isX (by rfl) T.isinstance boot_isinstance (pa_cons (pv 0) (pa_cons (pe_glob (v := .ref C9) (by rfl) R.cInvalidName.g rfl) pa_nil))) (pa_cons (pe_callB call_isX (by rfl) T.isinstance boot_isinstance (pa_cons (pv 0) (pa_cons (pe_glob (v := .ref C10) (by rfl) R.cDuplicateName.g rfl) pa_nil))) (pa_cons (pe_callB call_isX (by rfl) T.isinstance boot_isinstance (pa_cons (pv 0) (pa_cons (pe_glob (v := .ref C11) (by rfl) R.cLimitReached.g rfl) pa_nil))) (pa_cons (pe_callB call_isX (by rfl) T.isinstance boot_isinstance (pa_cons (pv 0) (pa_cons (pe_glob (v := .ref C12) (by rfl) R.cAlreadyAdjacent.g rfl) pa_nil))) pa_nil)))))))
      (pss_cons (ps_set (i := 1) scCount.nd rfl (.inl rfl) (pe_op op_cat (pv 1) (pe_lst (pa_cons (pe_callB call_isX (by rfl) T.isinstance boot_isinstance (pa_cons (pv 0) (pa_cons (pe_glob (v := .ref C13) (by rfl) R.cWouldFormCycle.g rfl) pa_nil))) (pa_cons (pe_callB call_isX (by rfl) T.isinstance boot_isinstance (pa_cons (pv 0) (pa_cons (pe_glob (v := .ref C14) (by rfl) R.cNothingToUndo.g rfl) pa_nil))) (pa_cons (pe_callB call_isX (by rfl) T.isinstance boot_isinstance (pa_cons (pv 0) (pa_cons (pe_glob (v := .ref C15) (by rfl) R.cHistoryFull.g rfl) pa_nil))) (pa_cons (pe_callB call_isX (by rfl) T.isinstance boot_isinstance (pa_cons (pv 0) (pa_cons (pe_glob (v := .ref C16) (by rfl) R.cSessionBusy.g rfl) pa_nil))) pa_nil)))))))
      (pss_cons (ps_set (i := 1) scCount.nd rfl (.inl rfl) (pe_op op_cat (pv 1) (pe_lst (pa_cons (pe_callB call_isX (by rfl) T.isinstance boot_isinstance (pa_cons (pv 0) (pa_cons (pe_glob (v := .ref C17) (by rfl) R.cInvalidActions.g rfl) pa_nil))) (pa_cons (pe_callB call_isX (by rfl) T.isinstance boot_isinstance (pa_cons (pv 0) (pa_cons (pe_glob (v := .ref C18) (by rfl) R.cBatchFailed.g rfl) pa_nil))) (pa_cons (pe_callB call_isX (by rfl) T.isinstance boot_isinstance (pa_cons (pv 0) (pa_cons (pe_glob (v := .ref C19) (by rfl) R.cInvalidMoment.g rfl) pa_nil))) (pa_cons (pe_callB call_isX (by rfl) T.isinstance boot_isinstance (pa_cons (pv 0) (pa_cons (pe_glob (v := .ref C20) (by rfl) R.cInvalidHouse.g rfl) pa_nil))) pa_nil)))))))
      (pss_one (ps_ret (pe_bm PySem.F.plainAttrs_list PySem.F.slot_list_count PySem.F.type_list_count mt_countB (pe_op op_cat (pv 1) (pe_lst (pa_cons (pe_callB call_isX (by rfl) T.isinstance boot_isinstance (pa_cons (pv 0) (pa_cons (pe_glob (v := .ref C21) (by rfl) R.cInvalidPlacement.g rfl) pa_nil))) (pa_cons (pe_callB call_isX (by rfl) T.isinstance boot_isinstance (pa_cons (pv 0) (pa_cons (pe_glob (v := .ref C22) (by rfl) R.cInvalidText.g rfl) pa_nil))) pa_nil)))) (pa_cons pe_bl pa_nil))))))))), ?_⟩

    have hdS : ∀ {H'}, Same H H' → ∀ dx, d = some dx → ∃ fs, H' dx = some (exd dx fs) := fun s dx e => (hd dx e).elim fun fs z => ⟨fs, s _ _ z⟩
    refine isx rfl ea kd hd R.cUnknownPerson.e.cl R.cUnknownPerson.e.o.tyC <| isx rfl ea kd hd R.cInvalidRoom.e.cl R.cInvalidRoom.e.o.tyC <| isx rfl ea kd hd R.cNotAdjacent.e.cl R.cNotAdjacent.e.o.tyC <| isx rfl ea kd hd R.cEmptyRoom.e.cl R.cEmptyRoom.e.o.tyC <| ⟨le_sz (by simp), fun p1 n1 => ?_⟩
    refine ⟨_, rfl, isx rfl ((same_upd n1) _ _ ea) kd (hdS (same_upd n1)) R.cInvalidMoves.e.cl R.cInvalidMoves.e.o.tyC <| isx rfl ((same_upd n1) _ _ ea) kd (hdS (same_upd n1)) R.cOtherRegion.e.cl R.cOtherRegion.e.o.tyC <| isx rfl ((same_upd n1) _ _ ea) kd (hdS (same_upd n1)) R.cTightRegion.e.cl R.cTightRegion.e.o.tyC <| isx rfl ((same_upd n1) _ _ ea) kd (hdS (same_upd n1)) R.cBlocked.e.cl R.cBlocked.e.o.tyC <| ⟨le_sz (by simp), fun q2 m2 => ⟨p1, q2, _, _, rfl, rfl, same_upd m2 _ _ upd_same, upd_same, le_sz (by simp), fun p2 n2 => ?_⟩⟩⟩
    refine ⟨_, rfl, isx rfl ((Same.trans (Same.trans (same_upd n1) (same_upd m2)) (same_upd n2)) _ _ ea) kd (hdS (Same.trans (Same.trans (same_upd n1) (same_upd m2)) (same_upd n2))) R.cInvalidName.e.cl R.cInvalidName.e.o.tyC <| isx rfl ((Same.trans (Same.trans (same_upd n1) (same_upd m2)) (same_upd n2)) _ _ ea) kd (hdS (Same.trans (Same.trans (same_upd n1) (same_upd m2)) (same_upd n2))) R.cDuplicateName.e.cl R.cDuplicateName.e.o.tyC <| isx rfl ((Same.trans (Same.trans (same_upd n1) (same_upd m2)) (same_upd n2)) _ _ ea) kd (hdS (Same.trans (Same.trans (same_upd n1) (same_upd m2)) (same_upd n2))) R.cLimitReached.e.cl R.cLimitReached.e.o.tyC <| isx rfl ((Same.trans (Same.trans (same_upd n1) (same_upd m2)) (same_upd n2)) _ _ ea) kd (hdS (Same.trans (Same.trans (same_upd n1) (same_upd m2)) (same_upd n2))) R.cAlreadyAdjacent.e.cl R.cAlreadyAdjacent.e.o.tyC <| ⟨le_sz (by simp), fun q3 m3 => ⟨p2, q3, _, _, rfl, rfl, same_upd m3 _ _ upd_same, upd_same, le_sz (by simp), fun p3 n3 => ?_⟩⟩⟩
    refine ⟨_, rfl, isx rfl ((Same.trans (Same.trans (Same.trans (Same.trans (same_upd n1) (same_upd m2)) (same_upd n2)) (same_upd m3)) (same_upd n3)) _ _ ea) kd (hdS (Same.trans (Same.trans (Same.trans (Same.trans (same_upd n1) (same_upd m2)) (same_upd n2)) (same_upd m3)) (same_upd n3))) R.cWouldFormCycle.e.cl R.cWouldFormCycle.e.o.tyC <| isx rfl ((Same.trans (Same.trans (Same.trans (Same.trans (same_upd n1) (same_upd m2)) (same_upd n2)) (same_upd m3)) (same_upd n3)) _ _ ea) kd (hdS (Same.trans (Same.trans (Same.trans (Same.trans (same_upd n1) (same_upd m2)) (same_upd n2)) (same_upd m3)) (same_upd n3))) R.cNothingToUndo.e.cl R.cNothingToUndo.e.o.tyC <| isx rfl ((Same.trans (Same.trans (Same.trans (Same.trans (same_upd n1) (same_upd m2)) (same_upd n2)) (same_upd m3)) (same_upd n3)) _ _ ea) kd (hdS (Same.trans (Same.trans (Same.trans (Same.trans (same_upd n1) (same_upd m2)) (same_upd n2)) (same_upd m3)) (same_upd n3))) R.cHistoryFull.e.cl R.cHistoryFull.e.o.tyC <| isx rfl ((Same.trans (Same.trans (Same.trans (Same.trans (same_upd n1) (same_upd m2)) (same_upd n2)) (same_upd m3)) (same_upd n3)) _ _ ea) kd (hdS (Same.trans (Same.trans (Same.trans (Same.trans (same_upd n1) (same_upd m2)) (same_upd n2)) (same_upd m3)) (same_upd n3))) R.cSessionBusy.e.cl R.cSessionBusy.e.o.tyC <| ⟨le_sz (by simp), fun q4 m4 => ⟨p3, q4, _, _, rfl, rfl, same_upd m4 _ _ upd_same, upd_same, le_sz (by simp), fun p4 n4 => ?_⟩⟩⟩
    refine ⟨_, rfl, isx rfl ((Same.trans (Same.trans (Same.trans (Same.trans (Same.trans (Same.trans (same_upd n1) (same_upd m2)) (same_upd n2)) (same_upd m3)) (same_upd n3)) (same_upd m4)) (same_upd n4)) _ _ ea) kd (hdS (Same.trans (Same.trans (Same.trans (Same.trans (Same.trans (Same.trans (same_upd n1) (same_upd m2)) (same_upd n2)) (same_upd m3)) (same_upd n3)) (same_upd m4)) (same_upd n4))) R.cInvalidActions.e.cl R.cInvalidActions.e.o.tyC <| isx rfl ((Same.trans (Same.trans (Same.trans (Same.trans (Same.trans (Same.trans (same_upd n1) (same_upd m2)) (same_upd n2)) (same_upd m3)) (same_upd n3)) (same_upd m4)) (same_upd n4)) _ _ ea) kd (hdS (Same.trans (Same.trans (Same.trans (Same.trans (Same.trans (Same.trans (same_upd n1) (same_upd m2)) (same_upd n2)) (same_upd m3)) (same_upd n3)) (same_upd m4)) (same_upd n4))) R.cBatchFailed.e.cl R.cBatchFailed.e.o.tyC <| isx rfl ((Same.trans (Same.trans (Same.trans (Same.trans (Same.trans (Same.trans (same_upd n1) (same_upd m2)) (same_upd n2)) (same_upd m3)) (same_upd n3)) (same_upd m4)) (same_upd n4)) _ _ ea) kd (hdS (Same.trans (Same.trans (Same.trans (Same.trans (Same.trans (Same.trans (same_upd n1) (same_upd m2)) (same_upd n2)) (same_upd m3)) (same_upd n3)) (same_upd m4)) (same_upd n4))) R.cInvalidMoment.e.cl R.cInvalidMoment.e.o.tyC <| isx rfl ((Same.trans (Same.trans (Same.trans (Same.trans (Same.trans (Same.trans (same_upd n1) (same_upd m2)) (same_upd n2)) (same_upd m3)) (same_upd n3)) (same_upd m4)) (same_upd n4)) _ _ ea) kd (hdS (Same.trans (Same.trans (Same.trans (Same.trans (Same.trans (Same.trans (same_upd n1) (same_upd m2)) (same_upd n2)) (same_upd m3)) (same_upd n3)) (same_upd m4)) (same_upd n4))) R.cInvalidHouse.e.cl R.cInvalidHouse.e.o.tyC <| ⟨le_sz (by simp), fun q5 m5 => ⟨p4, q5, _, _, rfl, rfl, same_upd m5 _ _ upd_same, upd_same, le_sz (by simp), fun p5 n5 => ?_⟩⟩⟩
    refine ⟨_, rfl, isx rfl ((Same.trans (Same.trans (Same.trans (Same.trans (Same.trans (Same.trans (Same.trans (Same.trans (same_upd n1) (same_upd m2)) (same_upd n2)) (same_upd m3)) (same_upd n3)) (same_upd m4)) (same_upd n4)) (same_upd m5)) (same_upd n5)) _ _ ea) kd (hdS (Same.trans (Same.trans (Same.trans (Same.trans (Same.trans (Same.trans (Same.trans (Same.trans (same_upd n1) (same_upd m2)) (same_upd n2)) (same_upd m3)) (same_upd n3)) (same_upd m4)) (same_upd n4)) (same_upd m5)) (same_upd n5))) R.cInvalidPlacement.e.cl R.cInvalidPlacement.e.o.tyC <| isx rfl ((Same.trans (Same.trans (Same.trans (Same.trans (Same.trans (Same.trans (Same.trans (Same.trans (same_upd n1) (same_upd m2)) (same_upd n2)) (same_upd m3)) (same_upd n3)) (same_upd m4)) (same_upd n4)) (same_upd m5)) (same_upd n5)) _ _ ea) kd (hdS (Same.trans (Same.trans (Same.trans (Same.trans (Same.trans (Same.trans (Same.trans (Same.trans (same_upd n1) (same_upd m2)) (same_upd n2)) (same_upd m3)) (same_upd n3)) (same_upd m4)) (same_upd n4)) (same_upd m5)) (same_upd n5))) R.cInvalidText.e.cl R.cInvalidText.e.o.tyC <| ⟨le_sz (by simp), fun q6 m6 => ⟨p5, q6, _, _, rfl, rfl, same_upd m6 _ _ upd_same, upd_same, le_sz (by simp), fun p6 n6 => ?_⟩⟩⟩
    refine ⟨.inl ⟨rfl, _, SqL.of upd_same⟩, p6, ([C1, C2, C3, C4, C5, C6, C7, C8, C9, C10, C11, C12, C13, C14, C15, C16, C17, C18, C19, C20, C21, C22].map fun C => decide (C = D ∨ C = E)), rfl, rfl, SqL.of upd_same, ?_⟩
    rw [count_one R.nd hD]
    exact q _ (Same.trans (Same.trans (Same.trans (Same.trans (Same.trans (Same.trans (Same.trans (Same.trans (Same.trans (Same.trans (same_upd n1) (same_upd m2)) (same_upd n2)) (same_upd m3)) (same_upd n3)) (same_upd m4)) (same_upd n4)) (same_upd m5)) (same_upd n5)) (same_upd m6)) (same_upd n6))
end
end Fw
set_option maxHeartbeats 2000000
namespace Fw
open PySem PySem.Spec PyProof.Rows L2
inductive VdAll (K : PySem.W.Frag) (H : Hp) : List V → List PyData → Prop
  | nil : VdAll K H [] []
  | cons {v : V} {vs : List V} {d : PyData} {ds : List PyData} : Vd K H v d → VdAll K H vs ds → VdAll K H (v :: vs) (d :: ds)
theorem VdAll.pick {K : PySem.W.Frag} {H : Hp} : ∀ {vs : List V} {ds : List PyData}, VdAll K H vs ds → ∀ j, j < vs.length → ∃ v d, vs[j]? = some v ∧ d ∈ ds ∧ Vd K H v d
  | _, _, .nil, j, h => by cases h
  | _, _, .cons h1 h2, 0, _ => ⟨_, _, rfl, List.mem_cons_self, h1⟩
  | _, _, .cons h1 h2, j + 1, h => by
    obtain ⟨v, d, e, m, q⟩ := h2.pick j (Nat.lt_of_succ_lt_succ h)
    exact ⟨v, d, e, List.mem_cons_of_mem _ m, q⟩
def datas : List PyData := [.none, .bool true, .bool false, .int 0, .int 1, .int (-1), .int 9, .int (10 ^ (59 : Int).toNat), .str "", .str "a", .str "A", .str "a1", .str "abcdefghi", .tuple [], .list [], .dict [], .tuple [.int 0], .tuple [.int 1, .int 0], .list [.int 0, .int 1],
  .tuple [.int 0, .int 0], .tuple [.int 0, .int 1, .int 2], .tuple [.tuple [.int 0, .int 1]], .tuple [.str "a", .int 0], .str "a b", .tuple [.tuple [.str "a", .int 0]]]
theorem datas_ok : ∀ d ∈ datas, (PyData.list (List.replicate 16 d)).showable = true ∧ (PyData.list (List.replicate 16 d)).depth ≤ 60 ∧ (PyData.list (List.replicate 16 d)).shown.length ≤ sizeLine := by
  decide +kernel
def spRand (K : PySem.W.Frag) : Sp := fun vs H Q _ => ∃ (s A B : Addr) (c : Nat), vs = [.ref s] ∧ StreamAt H s A B c ∧ c < 2 ^ 40 ∧ ∀ H' v d, StreamAt H' s A B (c + 1) → d ∈ datas → Vd K H' v d → Q v H'
abbrev nRand : List Str := ["_law_stream_here", "_law_some"]
theorem scRand : FnScope nRand ["_law_stream_here"] (defScope sRand) := ⟨rfl, rfl, rfl, by decide +kernel, rfl, by decide +kernel, by decide +kernel⟩
section
variable {P : Program} {w : World} {K : PySem.W.Frag} {mg : Str → Option Value} {base : Heap}
theorem ok_rand {f f2 : Addr} {fd d2 : FuncData} (F : Fun K "_law_random_value" "_law_random_value" sRand f fd) (T : Nm mg) (D : Def K mg "_law_draw" sDraw f2 d2 ["_law_stream_here", "_law_many"]) : FnOk P w K mg base CX0 2 f fd ["_law_stream_here"] (spRand K) := by
  have GD : FnOk P w K mg base CX0 1 f2 d2 _ spDraw := ok_draw D.F T
  refine Fun.ok F scRand (fun vs H Q E h => ?_) (fun cdv A0 outer s0 H vs Q E hr h => ?_)
  · obtain ⟨s, A, B, c, rfl, _⟩ := h
    rfl
  · obtain ⟨s, A, B, c, rfl, hS, hc, q⟩ := h
    refine ⟨_, (pss_cons (ps_set (i := 1) scRand.nd rfl (.inl rfl) (pe_lst (pa_cons pe_non (pa_cons pe_bl (pa_cons pe_bl (pa_cons pe_int (pa_cons pe_int (pa_cons (pe_un un_neg pe_int) (pa_cons pe_int (pa_cons (pe_op op_pow pe_int pe_int) (pa_cons pe_str (pa_cons pe_str (pa_cons pe_str (pa_cons pe_str (pa_cons pe_str (pa_cons (pe_tup pa_nil) (pa_cons (pe_lst pa_nil) (pa_cons pe_dnewK (pa_cons (pe_tup (pa_cons pe_int pa_nil)) (pa_cons (pe_tup (pa_cons pe_int (pa_cons pe_int pa_nil))) (pa_cons (pe_lst (pa_cons pe_int (pa_cons pe_int pa_nil))) pa_nil)))))))))))))))))))))
      (pss_cons (ps_set (i := 1) scRand.nd rfl (.inl rfl) (pe_op op_cat (pv 1) (pe_lst (pa_cons (pe_tup (pa_cons pe_int (pa_cons pe_int pa_nil))) (pa_cons (pe_tup (pa_cons pe_int (pa_cons pe_int (pa_cons pe_int pa_nil)))) (pa_cons (pe_tup (pa_cons (pe_tup (pa_cons pe_int (pa_cons pe_int pa_nil))) pa_nil)) (pa_cons (pe_tup (pa_cons pe_str (pa_cons pe_int pa_nil))) (pa_cons pe_str (pa_cons (pe_tup (pa_cons (pe_tup (pa_cons pe_str (pa_cons pe_int pa_nil))) pa_nil)) pa_nil)))))))))
      (pss_one (ps_ret (pe_ix ix_list (pv 1) (pe_call GD hr (by rfl) D.g D.F.kp D.b .nil pass0 (pa_cons (pv 0) (pa_cons pe_int pa_nil))) (fun _ _ => rfl)))))), ?_⟩
    refine ⟨1, rfl, 10, 59, rfl, rfl, ⟨by decide, by decide, by decide⟩, le_sz (by simp), fun p1 n1 => ⟨le_sz (by simp), fun p2 n2 => fun p3 n3 => ⟨le_sz (by simp), fun p4 n4 => ⟨le_sz (by simp), fun p5 n5 => ⟨le_sz (by simp), fun p6 n6 => ⟨le_sz (by simp), fun p7 n7 => ?_⟩⟩⟩⟩⟩⟩
    refine ⟨_, rfl, le_sz (by simp), fun q1 m1 => ⟨le_sz (by simp), fun q2 m2 => ⟨le_sz (by simp), fun q3 m3 => ⟨le_sz (by simp), fun q4 m4 => ⟨le_sz (by simp), fun q5 m5 => ⟨le_sz (by simp), fun q6 m6 => ⟨le_sz (by simp), fun q7 m7 => ⟨le_sz (by simp), fun q8 m8 => ⟨p7, q8, _, _, rfl, rfl, (same_upd m8 _ _ (same_upd m7 _ _ (same_upd m6 _ _ (same_upd m5 _ _ (same_upd m4 _ _ (same_upd m3 _ _ (same_upd m2 _ _ (same_upd m1 _ _ upd_same)))))))), upd_same, le_sz (by simp), fun r1 k1 => ?_⟩⟩⟩⟩⟩⟩⟩⟩⟩
    let X1 : List V := [.non, .bl true, .bl false, .int 0, .int 1, .int (-1), .int 9, .int (10 ^ (59 : Int).toNat), .str "", .str "a", .str "A", .str "a1", .str "abcdefghi", .ref p1, .ref p2, .ref p3, .ref p4, .ref p5, .ref p6]
    let X2 : List V := [.ref q1, .ref q2, .ref q4, .ref q5, .str "a b", .ref q7]
    let H1 : Hp := upd H p1 (.tup [])
    have s1 : Same H H1 := same_upd n1
    have S1 : Same H H1 := s1
    have e1 : H1 p1 = some (.tup []) := upd_same
    let H2 : Hp := upd H1 p2 (.lst [])
    have s2 : Same H1 H2 := same_upd n2
    have S2 : Same H H2 := S1.trans s2
    have e2 : H2 p2 = some (.lst []) := upd_same
    let H3 : Hp := upd H2 p3 (.dK [])
    have s3 : Same H2 H3 := same_upd n3
    have S3 : Same H H3 := S2.trans s3
    have e3 : H3 p3 = some (.dK []) := upd_same
    let H4 : Hp := upd H3 p4 (.tup [.int 0])
    have s4 : Same H3 H4 := same_upd n4
    have S4 : Same H H4 := S3.trans s4
    have e4 : H4 p4 = some (.tup [.int 0]) := upd_same
    let H5 : Hp := upd H4 p5 (.tup [.int 1, .int 0])
    have s5 : Same H4 H5 := same_upd n5
    have S5 : Same H H5 := S4.trans s5
    have e5 : H5 p5 = some (.tup [.int 1, .int 0]) := upd_same
    let H6 : Hp := upd H5 p6 (.lst [.int 0, .int 1])
    have s6 : Same H5 H6 := same_upd n6
    have S6 : Same H H6 := S5.trans s6
    have e6 : H6 p6 = some (.lst [.int 0, .int 1]) := upd_same
    let H7 : Hp := upd H6 p7 (.lst X1)
    have s7 : Same H6 H7 := same_upd n7
    have S7 : Same H H7 := S6.trans s7
    have e7 : H7 p7 = some (.lst X1) := upd_same
    let H8 : Hp := upd H7 q1 (.tup [.int 0, .int 0])
    have s8 : Same H7 H8 := same_upd m1
    have S8 : Same H H8 := S7.trans s8
    have e8 : H8 q1 = some (.tup [.int 0, .int 0]) := upd_same
    let H9 : Hp := upd H8 q2 (.tup [.int 0, .int 1, .int 2])
    have s9 : Same H8 H9 := same_upd m2
    have S9 : Same H H9 := S8.trans s9
    have e9 : H9 q2 = some (.tup [.int 0, .int 1, .int 2]) := upd_same
    let H10 : Hp := upd H9 q3 (.tup [.int 0, .int 1])
    have s10 : Same H9 H10 := same_upd m3
    have S10 : Same H H10 := S9.trans s10
    have e10 : H10 q3 = some (.tup [.int 0, .int 1]) := upd_same
    let H11 : Hp := upd H10 q4 (.tup [.ref q3])
    have s11 : Same H10 H11 := same_upd m4
    have S11 : Same H H11 := S10.trans s11
    have e11 : H11 q4 = some (.tup [.ref q3]) := upd_same
    let H12 : Hp := upd H11 q5 (.tup [.str "a", .int 0])
    have s12 : Same H11 H12 := same_upd m5
    have S12 : Same H H12 := S11.trans s12
    have e12 : H12 q5 = some (.tup [.str "a", .int 0]) := upd_same
    let H13 : Hp := upd H12 q6 (.tup [.str "a", .int 0])
    have s13 : Same H12 H13 := same_upd m6
    have S13 : Same H H13 := S12.trans s13
    have e13 : H13 q6 = some (.tup [.str "a", .int 0]) := upd_same
    let H14 : Hp := upd H13 q7 (.tup [.ref q6])
    have s14 : Same H13 H14 := same_upd m7
    have S14 : Same H H14 := S13.trans s14
    have e14 : H14 q7 = some (.tup [.ref q6]) := upd_same
    let H15 : Hp := upd H14 q8 (.lst X2)
    have s15 : Same H14 H15 := same_upd m8
    have S15 : Same H H15 := S14.trans s15
    have e15 : H15 q8 = some (.lst X2) := upd_same
    let H16 : Hp := upd H15 r1 (.lst (X1 ++ X2))
    have s16 : Same H15 H16 := same_upd k1
    have S16 : Same H H16 := S15.trans s16
    have e16 : H16 r1 = some (.lst (X1 ++ X2)) := upd_same
    have E1 : H16 p1 = some (.tup []) := s16 _ _ (s15 _ _ (s14 _ _ (s13 _ _ (s12 _ _ (s11 _ _ (s10 _ _ (s9 _ _ (s8 _ _ (s7 _ _ (s6 _ _ (s5 _ _ (s4 _ _ (s3 _ _ (s2 _ _ e1))))))))))))))
    have E2 : H16 p2 = some (.lst []) := s16 _ _ (s15 _ _ (s14 _ _ (s13 _ _ (s12 _ _ (s11 _ _ (s10 _ _ (s9 _ _ (s8 _ _ (s7 _ _ (s6 _ _ (s5 _ _ (s4 _ _ (s3 _ _ e2)))))))))))))
    have E3 : H16 p3 = some (.dK []) := s16 _ _ (s15 _ _ (s14 _ _ (s13 _ _ (s12 _ _ (s11 _ _ (s10 _ _ (s9 _ _ (s8 _ _ (s7 _ _ (s6 _ _ (s5 _ _ (s4 _ _ e3))))))))))))
    have E4 : H16 p4 = some (.tup [.int 0]) := s16 _ _ (s15 _ _ (s14 _ _ (s13 _ _ (s12 _ _ (s11 _ _ (s10 _ _ (s9 _ _ (s8 _ _ (s7 _ _ (s6 _ _ (s5 _ _ e4)))))))))))
    have E5 : H16 p5 = some (.tup [.int 1, .int 0]) := s16 _ _ (s15 _ _ (s14 _ _ (s13 _ _ (s12 _ _ (s11 _ _ (s10 _ _ (s9 _ _ (s8 _ _ (s7 _ _ (s6 _ _ e5))))))))))
    have E6 : H16 p6 = some (.lst [.int 0, .int 1]) := s16 _ _ (s15 _ _ (s14 _ _ (s13 _ _ (s12 _ _ (s11 _ _ (s10 _ _ (s9 _ _ (s8 _ _ (s7 _ _ e6)))))))))
    have E7 : H16 p7 = some (.lst X1) := s16 _ _ (s15 _ _ (s14 _ _ (s13 _ _ (s12 _ _ (s11 _ _ (s10 _ _ (s9 _ _ (s8 _ _ e7))))))))
    have E8 : H16 q1 = some (.tup [.int 0, .int 0]) := s16 _ _ (s15 _ _ (s14 _ _ (s13 _ _ (s12 _ _ (s11 _ _ (s10 _ _ (s9 _ _ e8)))))))
    have E9 : H16 q2 = some (.tup [.int 0, .int 1, .int 2]) := s16 _ _ (s15 _ _ (s14 _ _ (s13 _ _ (s12 _ _ (s11 _ _ (s10 _ _ e9))))))
    have E10 : H16 q3 = some (.tup [.int 0, .int 1]) := s16 _ _ (s15 _ _ (s14 _ _ (s13 _ _ (s12 _ _ (s11 _ _ e10)))))
    have E11 : H16 q4 = some (.tup [.ref q3]) := s16 _ _ (s15 _ _ (s14 _ _ (s13 _ _ (s12 _ _ e11))))
    have E12 : H16 q5 = some (.tup [.str "a", .int 0]) := s16 _ _ (s15 _ _ (s14 _ _ (s13 _ _ e12)))
    have E13 : H16 q6 = some (.tup [.str "a", .int 0]) := s16 _ _ (s15 _ _ (s14 _ _ e13))
    have E14 : H16 q7 = some (.tup [.ref q6]) := s16 _ _ (s15 _ _ e14)
    have E15 : H16 q8 = some (.lst X2) := s16 _ _ e15
    have E16 : H16 r1 = some (.lst (X1 ++ X2)) := e16
    have hSN : StreamAt H16 s A B c := hS.same S16
    have z2 := (hS.same S1).ne n2
    have z6 := (hS.same S5).ne n6
    have z16 := (hS.same S15).ne k1
    have z3 := (hS.same S2).ne n3
    refine ⟨_, rfl, _, rfl, s, A, B, c, 25, rfl, hSN, hc, by decide, by decide, fun H' i hS2 fr g0 g1 => ?_⟩
    have fr' : Fr s A H16 H' := fr
    have tp : ∀ {p xs}, H16 p = some (.tup xs) → H' p = some (.tup xs) := fun e => fr'.tup hSN e
    have all : VdAll K H' (X1 ++ X2) datas := (.cons (.inl ⟨.non, rfl⟩) (.cons (.inl ⟨.bl _, rfl⟩) (.cons (.inl ⟨.bl _, rfl⟩) (.cons (.inl ⟨.int _, rfl⟩) (.cons (.inl ⟨.int _, rfl⟩) (.cons (.inl ⟨.int _, rfl⟩) (.cons (.inl ⟨.int _, rfl⟩) (.cons (.inl ⟨.int _, rfl⟩) (.cons (.inl ⟨.str _, rfl⟩) (.cons (.inl ⟨.str _, rfl⟩) (.cons (.inl ⟨.str _, rfl⟩) (.cons (.inl ⟨.str _, rfl⟩) (.cons (.inl ⟨.str _, rfl⟩) (.cons (.inl ⟨.tup (SqT.of (tp E1)) .nil, rfl⟩) (.cons (.inl ⟨.lst (SqL.of (fr' _ _ z2.1.symm z2.2.1.symm E2)) .nil, rfl⟩) (.cons (.inr ⟨p3, rfl, fr' _ _ z3.1.symm z3.2.1.symm E3, rfl⟩) (.cons (.inl ⟨.tup (SqT.of (tp E4)) (.cons (.int _) .nil), rfl⟩) (.cons (.inl ⟨.tup (SqT.of (tp E5)) (.cons (.int _) (.cons (.int _) .nil)), rfl⟩) (.cons (.inl ⟨.lst (SqL.of (fr' _ _ z6.1.symm z6.2.1.symm E6)) (.cons (.int _) (.cons (.int _) .nil)), rfl⟩) (.cons (.inl ⟨.tup (SqT.of (tp E8)) (.cons (.int _) (.cons (.int _) .nil)), rfl⟩) (.cons (.inl ⟨.tup (SqT.of (tp E9)) (.cons (.int _) (.cons (.int _) (.cons (.int _) .nil))), rfl⟩) (.cons (.inl ⟨.tup (SqT.of (tp E11)) (.cons (.tup (SqT.of (tp E10)) (.cons (.int _) (.cons (.int _) .nil))) .nil), rfl⟩) (.cons (.inl ⟨.tup (SqT.of (tp E12)) (.cons (.str _) (.cons (.int _) .nil)), rfl⟩) (.cons (.inl ⟨.str _, rfl⟩) (.cons (.inl ⟨.tup (SqT.of (tp E14)) (.cons (.tup (SqT.of (tp E13)) (.cons (.str _) (.cons (.int _) .nil))) .nil), rfl⟩) .nil)))))))))))))))))))))))))
    obtain ⟨v, d, ev, md, hv⟩ := all.pick i.toNat (by show i.toNat < 25; omega)
    have ai : atI (X1 ++ X2) i = some v := by
      have := atI_nat ev
      rwa [Int.toNat_of_nonneg g0] at this
    refine ⟨r1, _, i, v, rfl, rfl, SqL.of (fr' _ _ z16.1.symm z16.2.1.symm E16), ai, q H' v d hS2 md hv⟩
end
end Fw
set_option maxHeartbeats 2000000
namespace Fw
open PySem PySem.Spec PyProof.Rows L2
theorem rd_sm {H H1 : Hp} (s : Same H H1) {a : Addr} {o : HO} (h : Rd H a o) : Rd H1 a o := by
  rcases h with e | ⟨ob, e⟩
  · exact .inl (s _ _ e)
  · exact .inr ⟨ob, s _ _ e⟩
theorem sqL_sm {K : PySem.W.Frag} {H H1 : Hp} (s : Same H H1) {a : Addr} {xs : List V} (h : SqL K H a xs) : SqL K H1 a xs := by
  rcases h with e | e
  · exact .inl (rd_sm s e)
  · exact .inr e
theorem sqT_sm {K : PySem.W.Frag} {H H1 : Hp} (s : Same H H1) {a : Addr} {xs : List V} (h : SqT K H a xs) : SqT K H1 a xs := by
  rcases h with e | e
  · exact .inl (rd_sm s e)
  · exact .inr e
mutual
theorem dp_sm {K : PySem.W.Frag} {H H1 : Hp} (s : Same H H1) : ∀ {v : V} {d : PyData}, Dp K H v d → Dp K H1 v d
  | _, _, .non => .non
  | _, _, .bl b => .bl b
  | _, _, .int i => .int i
  | _, _, .str x => .str x
  | _, _, .lst h a => .lst (sqL_sm s h) (dpA_sm s a)
  | _, _, .tup h a => .tup (sqT_sm s h) (dpA_sm s a)
theorem dpA_sm {K : PySem.W.Frag} {H H1 : Hp} (s : Same H H1) : ∀ {v : List V} {d : List PyData}, DpAll K H v d → DpAll K H1 v d
  | _, _, .nil => .nil
  | _, _, .cons h a => .cons (dp_sm s h) (dpA_sm s a)
end
theorem vd_sm {K : PySem.W.Frag} {H H1 : Hp} (s : Same H H1) {v : V} {d : PyData} (h : Vd K H v d) : Vd K H1 v d := by
  rcases h with ⟨h, n⟩ | ⟨a, e1, e2, e3⟩
  · exact .inl ⟨dp_sm s h, n⟩
  · exact .inr ⟨a, e1, s _ _ e2, e3⟩
theorem same_put8 {H H8 : Hp} (s : Same H H8) {D : Addr} {o : HO} (hD : H D = none) : Same H (upd H8 D o) := fun b u e => by
  rw [upd_ne (ne_of_none e hD)]
  exact s b u e
/-- the errors in a list, by class and field -/
inductive Exs (H : Hp) (v : V) : List V → List (Addr × Option Str) → Prop
  | nil : Exs H v [] []
  | cons {x : V} {xs : List V} {C : Addr} {f : Option Str} {cs : List (Addr × Option Str)} : ExAt H x C (f.map fun f => [(f, v)]) → Exs H v xs cs → Exs H v (x :: xs) ((C, f) :: cs)
theorem Exs.sm {H H1 : Hp} {v : V} (s : Same H H1) : ∀ {xs : List V} {cs : List (Addr × Option Str)}, Exs H v xs cs → Exs H1 v xs cs
  | _, _, .nil => .nil
  | _, _, .cons h t => .cons (h.same s) (t.sm s)
theorem Exs.app {H : Hp} {v : V} : ∀ {xs ys : List V} {cs ds : List (Addr × Option Str)}, Exs H v xs cs → Exs H v ys ds → Exs H v (xs ++ ys) (cs ++ ds)
  | _, _, _, _, .nil, h => h
  | _, _, _, _, .cons a b, h => .cons a (b.app h)
theorem Exs.pick {H : Hp} {v : V} : ∀ {xs : List V} {cs : List (Addr × Option Str)}, Exs H v xs cs → ∀ {j : Nat} {x : V}, xs[j]? = some x → ∃ C f, (C, f) ∈ cs ∧ ExAt H x C (f.map fun f => [(f, v)])
  | _, _, .nil, j, x, h => by cases h
  | _, _, .cons a b, 0, x, h => by
    cases h
    exact ⟨_, _, List.mem_cons_self, a⟩
  | _, _, .cons a b, j + 1, x, h => by
    obtain ⟨C, f, m, q⟩ := b.pick (j := j) h
    exact ⟨C, f, List.mem_cons_of_mem _ m, q⟩
section
variable {K : PySem.W.Frag} {C : Addr} {f : Str} {σ : L2.St} {H : Hp} {Q : VK} {v : V} {i : Nat}
/-- C(v), C() -/
theorem mkF (e : σ[i]? = some (some v)) (q : ∀ x H1, Same H H1 → ExAt H1 x C (some [(f, v)]) → Q x H1) : tMkV C (spIni f C) (tCons (tVar i) tNil) σ H Q := by
  refine ⟨v, e, by simp, fun a na => ⟨a, v, rfl, upd_same, fun dx nd ne => ⟨rfl, q (.ref a) _ (fun b u z => ?_) ⟨a, some dx, rfl, upd_same, dx, rfl, (upd_ne ne).trans upd_same⟩⟩⟩⟩
  have n1 : b ≠ a := ne_of_none z na
  have z1 : upd H a (exo a C none) b = some u := (upd_ne n1).trans z
  rw [upd_ne n1, upd_ne (ne_of_none z1 nd)]
  exact z1
theorem mkB (q : ∀ x H1, Same H H1 → ExAt H1 x C none → Q x H1) : tMkV C spBare tNil σ H Q :=
  ⟨by simp, fun a na => ⟨a, rfl, rfl, q (.ref a) _ (same_upd na) ⟨a, none, rfl, upd_same, rfl⟩⟩⟩
/-- [e.f for e in l] -/
theorem lcF {L : Addr} {xs : List V} {cs : List (Addr × Option Str)} {j : Nat} (e : σ[i]? = some (some (.ref L))) (eL : H L = some (.lst xs)) (lx : xs.length ≤ 100) (ex : Exs H v xs cs) (hc : ∀ c ∈ cs, c.2 = some f ∧ XfC K c.1 ∧ PySem.W.findIn K (.ref c.1) f = some none)
    (hj : (wipe σ [j])[j]? = some none) (hw : ∀ x, wipe ((wipe σ [j]).set j (some x)) [j] = wipe σ [j]) (hg : ∀ x, ((wipe σ [j]).set j (some x))[j]? = some (some x))
    (q : ∀ D H1, Same H H1 → H1 D = some (.lst (List.replicate xs.length v)) → Q (.ref D) H1) : tLc (iList K (tVar i)) (gName j) tYes (tEf K f (tVar j)) [j] σ H Q := by
  refine ⟨_, e, L, rfl, ⟨_, SqL.of eL⟩, fun D hD => lc_list (K := K) (a := L) (xs := xs) (fun k H8 => Same H H8 ∧ H8 D = some (.lst (List.replicate k v))) ⟨same_upd hD, upd_same⟩ (fun k H8 _ hh => SqL.of (hh.1 _ _ eL)) ?_ ?_⟩
  · rintro k x H8 hx ⟨s8, eD⟩
    have hk : k < xs.length := (List.getElem?_eq_some_iff.mp hx).1
    obtain ⟨C, g, m, z⟩ := (ex.sm s8).pick hx
    obtain ⟨g1, xf, no⟩ := hc _ m
    cases (show g = some f from g1)
    obtain ⟨a, d, rfl, ea, dx, rfl, ed⟩ := z
    refine ⟨hw _, ?_⟩
    unfold tYes
    refine iteT ?_
    refine ⟨_, hg _, a, C, dx, _, v, rfl, xf, no, ea, ed, by simp [List.lookup], _, eD, ?_, same_put8 s8 hD, ?_⟩
    · rw [List.length_replicate]
      exact small1000 (by omega)
    · rw [upd_same, List.replicate_succ']
  · rintro H8 ⟨s8, eD⟩
    exact q D H8 s8 eD
end
end Fw
set_option maxHeartbeats 2000000
namespace Fw
open PySem PySem.Spec PyProof.Rows L2
theorem un65 {k : Nat} {A : Around} (r : Room k A) : A.units + 65 < cLine := by have := r.un; omega
theorem Exs.len {H : Hp} {v : V} : ∀ {xs : List V} {cs : List (Addr × Option Str)}, Exs H v xs cs → xs.length = cs.length
  | _, _, .nil => rfl
  | _, _, .cons a b => congrArg (· + 1) b.len
/-- a row of errors being made -/
def Mks (σ : L2.St) (v : V) (ta : TA) (cs : List (Addr × Option Str)) : Prop := ∀ (H : Hp) (Q : List V → Hp → Prop), (∀ xs H1, Same H H1 → Exs H1 v xs cs → Q xs H1) → ta σ H Q
section
variable {σ : L2.St} {v : V} {ta : TA} {cs : List (Addr × Option Str)} {C : Addr} {f : Str} {i : Nat} {H : Hp} {Q : VK} {K : PySem.W.Frag}
theorem Mks.nil : Mks σ v tNil [] := fun H Q q => q [] H (Same.refl _) .nil
theorem Mks.consF (e : σ[i]? = some (some v)) (h : Mks σ v ta cs) : Mks σ v (tCons (tMkV C (spIni f C) (tCons (tVar i) tNil)) ta) ((C, some f) :: cs) := fun H Q q =>
  mkF e fun x H1 s1 a1 => h H1 _ fun xs H2 s2 w => q _ H2 (s1.trans s2) (.cons (a1.same s2) w)
theorem Mks.consB (h : Mks σ v ta cs) : Mks σ v (tCons (tMkV C spBare tNil) ta) ((C, none) :: cs) := fun H Q q =>
  mkB fun x H1 s1 a1 => h H1 _ fun xs H2 s2 w => q _ H2 (s1.trans s2) (.cons (a1.same s2) w)
theorem lstE (h : Mks σ v ta cs) (hl : cs.length ≤ 100) (q : ∀ L H1 xs, Same H H1 → H1 L = some (.lst xs) → Exs H1 v xs cs → Q (.ref L) H1) : tLst ta σ H Q :=
  h H _ fun xs H1 s1 w => ⟨by rw [w.len]; exact le_sz hl, fun p n => q p _ xs (s1.trans (same_upd n)) upd_same (w.sm (same_upd n))⟩
theorem seqLst {t : TS} {D : Ends} (h : Mks σ v ta cs) (hl : cs.length ≤ 100) (q : ∀ L H1 xs, Same H H1 → H1 L = some (.lst xs) → Exs H1 v xs cs → t D (σ.set i (some (.ref L))) H1) : tSeq (tAsg (tLst ta) (gName i)) t D σ H :=
  lstE (H := H) (Q := fun v H1 => gName i v σ H1 fun σ2 H2 => t D σ2 H2) h hl q
theorem seqCat {a b c : TE} {t : TS} {D : Ends} (h : a σ H fun x H1 => b σ H1 fun y H2 => rCat x y H2 fun z H3 => c σ H3 fun u H4 => rCat z u H4 fun r H5 => t D (σ.set i (some r)) H5) : tSeq (tAsg (tOp rCat (tOp rCat a b) c) (gName i)) t D σ H := h
theorem catE {a b : Addr} {xs ys : List V} (ea : H a = some (.lst xs)) (eb : H b = some (.lst ys)) (hl : xs.length + ys.length ≤ 100) (q : ∀ p H1, Same H H1 → H1 p = some (.lst (xs ++ ys)) → Q (.ref p) H1) : rCat (.ref a) (.ref b) H Q :=
  ⟨a, b, xs, ys, rfl, rfl, ea, eb, le_sz hl, fun p n => q p _ (same_upd n) upd_same⟩
theorem catNE {a b : Addr} {xs ys : List V} (ea : H a = some (.lst xs)) (eb : H b = some (.lst ys)) (hl : xs.length + ys.length ≤ 100) (q : ∀ p H1, Same H H1 → H1 p = some (.lst (xs ++ ys)) → p ≠ sysModules → Q (.ref p) H1) : rCatN (.ref a) (.ref b) H Q :=
  ⟨a, b, xs, ys, rfl, rfl, ea, eb, le_sz hl, fun p n ns => q p _ (same_upd n) upd_same ns⟩
theorem efF (e : σ[i]? = some (some v)) (xf : XfC K C) (no : PySem.W.findIn K (.ref C) f = some none) (q : ∀ H1, Same H H1 → Q v H1) : tEf K f (tMkV C (spIni f C) (tCons (tVar i) tNil)) σ H Q :=
  mkF e fun x H1 s1 z => by
    obtain ⟨a, d, rfl, ea, dx, rfl, ed⟩ := z
    exact ⟨a, C, dx, _, v, rfl, xf, no, ea, ed, by simp [List.lookup], q H1 s1⟩
theorem isxT {E D : Addr} {c x : V} {cv : Value} {fs : Option (List (Str × V))} (k : ClsV c cv) (e : σ[i]? = some (some x)) (z : ExAt H x D fs) (kd : Kd K E D) (hk : PySem.W.kitOne K (.ref D) cv = some true) (q : Q (.bl true) H) : tCB (rIsX K) (tCons (tVar i) (tCons (tC c) tNil)) σ H Q := by
  obtain ⟨a, d, rfl, ea, hfs⟩ := z
  refine ⟨_, e, a, D, c, cv, d, true, rfl, k, kd.e, ea, fun dx ed => ?_, hk, q⟩
  cases fs with
  | none =>
    have z : d = none := hfs
    rw [z] at ed
    cases ed
  | some l =>
    obtain ⟨dy, e1, e2⟩ := hfs
    rw [e1] at ed
    cases ed
    exact ⟨l, e2⟩
end
def spHolds (K : PySem.W.Frag) : Sp := fun vs H Q _ => ∃ (v : V) (d : PyData), vs = [v] ∧ d ∈ datas ∧ Vd K H v d ∧ ∀ H', Same H H' → Q (.bl true) H'
abbrev nHolds : List Str := ["_law_value", "_law_named", "_law_rooms", "_law_others", "_law_bare", "_law_found", "_law_e"]
theorem scHolds : FnScope nHolds ["_law_value"] (defScope sHolds) := ⟨rfl, rfl, rfl, by decide +kernel, rfl, by decide +kernel, by decide +kernel⟩
section
variable {P : Program} {w : World} {K : PySem.W.Frag} {mg : Str → Option Value} {base : Heap}
theorem ok_holds {f f4 : Addr} {fd d4 : FuncData} {E C1 C2 C3 C4 C5 C6 C7 C8 C9 C10 C11 C12 C13 C14 C15 C16 C17 C18 C19 C20 C21 C22 g1 g2 g3 g4 g5 g6 g7 g8 g9 g10 g11 g12 g13 g14 g15 g16 g17 g18 g19 g20 g21 g22 : Addr} {h1 h2 h3 h4 h5 h6 h7 h8 h9 h10 h11 h12 h13 h14 h15 h16 h17 h18 h19 h20 h21 h22 : FuncData} (F : Fun K "_law_constructed_holds" "_law_constructed_holds" sHolds f fd) (T : Nm mg) (R : Er K mg E C1 C2 C3 C4 C5 C6 C7 C8 C9 C10 C11 C12 C13 C14 C15 C16 C17 C18 C19 C20 C21 C22 g1 g2 g3 g4 g5 g6 g7 g8 g9 g10 g11 g12 g13 g14 g15 g16 g17 g18 g19 g20 g21 g22 h1 h2 h3 h4 h5 h6 h7 h8 h9 h10 h11 h12 h13 h14 h15 h16 h17 h18 h19 h20 h21 h22) (DC : Def K mg "_law_class_count" sCount f4 d4 ["_law_e"]) :
    FnG P w K mg base 3 f fd ["_law_value"] (spHolds K) := by
  have GC : FnOk P w K mg base CX0 1 f4 d4 _ (spCount K E [C1, C2, C3, C4, C5, C6, C7, C8, C9, C10, C11, C12, C13, C14, C15, C16, C17, C18, C19, C20, C21, C22]) := ok_count DC.F T R
  have kds : ∀ c ∈ ([(C1, some "name"), (C9, some "name"), (C10, some "name"), (C2, some "room"), (C3, some "room"), (C4, some "room"), (C6, some "room"), (C7, some "room"), (C12, some "room"), (C13, some "room"), (C5, some "position"), (C18, some "position"), (C19, some "position"), (C22, some "position"), (C14, none), (C15, none), (C16, none), (C17, none), (C20, none), (C21, none), (C8, some "block"), (C11, some "limit")] : List (Addr × Option Str)), Kd K E c.1 ∧ c.1 ∈ [C1, C2, C3, C4, C5, C6, C7, C8, C9, C10, C11, C12, C13, C14, C15, C16, C17, C18, C19, C20, C21, C22] := (List.forall_mem_cons.mpr ⟨⟨⟨R.cUnknownPerson.e, R.cUnknownPerson.mro⟩, by simp⟩, (List.forall_mem_cons.mpr ⟨⟨⟨R.cInvalidName.e, R.cInvalidName.mro⟩, by simp⟩, (List.forall_mem_cons.mpr ⟨⟨⟨R.cDuplicateName.e, R.cDuplicateName.mro⟩, by simp⟩, (List.forall_mem_cons.mpr ⟨⟨⟨R.cInvalidRoom.e, R.cInvalidRoom.mro⟩, by simp⟩, (List.forall_mem_cons.mpr ⟨⟨⟨R.cNotAdjacent.e, R.cNotAdjacent.mro⟩, by simp⟩, (List.forall_mem_cons.mpr ⟨⟨⟨R.cEmptyRoom.e, R.cEmptyRoom.mro⟩, by simp⟩, (List.forall_mem_cons.mpr ⟨⟨⟨R.cOtherRegion.e, R.cOtherRegion.mro⟩, by simp⟩, (List.forall_mem_cons.mpr ⟨⟨⟨R.cTightRegion.e, R.cTightRegion.mro⟩, by simp⟩, (List.forall_mem_cons.mpr ⟨⟨⟨R.cAlreadyAdjacent.e, R.cAlreadyAdjacent.mro⟩, by simp⟩, (List.forall_mem_cons.mpr ⟨⟨⟨R.cWouldFormCycle.e, R.cWouldFormCycle.mro⟩, by simp⟩, (List.forall_mem_cons.mpr ⟨⟨⟨R.cInvalidMoves.e, R.cInvalidMoves.mro⟩, by simp⟩, (List.forall_mem_cons.mpr ⟨⟨⟨R.cBatchFailed.e, R.cBatchFailed.mro⟩, by simp⟩, (List.forall_mem_cons.mpr ⟨⟨⟨R.cInvalidMoment.e, R.cInvalidMoment.mro⟩, by simp⟩, (List.forall_mem_cons.mpr ⟨⟨⟨R.cInvalidText.e, R.cInvalidText.mro⟩, by simp⟩, (List.forall_mem_cons.mpr ⟨⟨⟨R.cNothingToUndo.e, R.cNothingToUndo.mro⟩, by simp⟩, (List.forall_mem_cons.mpr ⟨⟨⟨R.cHistoryFull.e, R.cHistoryFull.mro⟩, by simp⟩, (List.forall_mem_cons.mpr ⟨⟨⟨R.cSessionBusy.e, R.cSessionBusy.mro⟩, by simp⟩, (List.forall_mem_cons.mpr ⟨⟨⟨R.cInvalidActions.e, R.cInvalidActions.mro⟩, by simp⟩, (List.forall_mem_cons.mpr ⟨⟨⟨R.cInvalidHouse.e, R.cInvalidHouse.mro⟩, by simp⟩, (List.forall_mem_cons.mpr ⟨⟨⟨R.cInvalidPlacement.e, R.cInvalidPlacement.mro⟩, by simp⟩, (List.forall_mem_cons.mpr ⟨⟨⟨R.cBlocked.e, R.cBlocked.mro⟩, by simp⟩, (List.forall_mem_cons.mpr ⟨⟨⟨R.cLimitReached.e, R.cLimitReached.mro⟩, by simp⟩, (fun _ h => nomatch h)⟩)⟩)⟩)⟩)⟩)⟩)⟩)⟩)⟩)⟩)⟩)⟩)⟩)⟩)⟩)⟩)⟩)⟩)⟩)⟩)⟩)⟩)
  refine Fun.okG F scHolds (fun vs H Q E h => ?_) (fun cdv A outer s H vs Q gd hr h => ?_)
  · obtain ⟨v, d, rfl, _⟩ := h
    rfl
  · obtain ⟨v, d, rfl, md, hv, q⟩ := h
    obtain ⟨ok1, ok2, ok3⟩ := datas_ok d md
    have r1 : Room 1 _ := hr.mono (by decide)
    refine ⟨_, (pss_cons (ps_set (i := 1) scHolds.nd rfl (.inl rfl) (pe_lst (pa_cons (pe_oex R.cUnknownPerson.e.o R.cUnknownPerson.i R.cUnknownPerson.t (in_UnknownPerson R.cUnknownPerson.F R.cUnknownPerson.e.o R.nUnknownPerson) hr R.cUnknownPerson.b (by rfl) R.cUnknownPerson.g (pa_cons (pv 0) pa_nil)) (pa_cons (pe_oex R.cInvalidName.e.o R.cInvalidName.i R.cInvalidName.t (in_InvalidName R.cInvalidName.F R.cInvalidName.e.o R.nInvalidName) hr R.cInvalidName.b (by rfl) R.cInvalidName.g (pa_cons (pv 0) pa_nil)) (pa_cons (pe_oex R.cDuplicateName.e.o R.cDuplicateName.i R.cDuplicateName.t (in_DuplicateName R.cDuplicateName.F R.cDuplicateName.e.o R.nDuplicateName) hr R.cDuplicateName.b (by rfl) R.cDuplicateName.g (pa_cons (pv 0) pa_nil)) pa_nil)))))
      (pss_cons (ps_set (i := 2) scHolds.nd rfl (.inl rfl) (pe_lst (pa_cons (pe_oex R.cInvalidRoom.e.o R.cInvalidRoom.i R.cInvalidRoom.t (in_InvalidRoom R.cInvalidRoom.F R.cInvalidRoom.e.o R.nInvalidRoom) hr R.cInvalidRoom.b (by rfl) R.cInvalidRoom.g (pa_cons (pv 0) pa_nil)) (pa_cons (pe_oex R.cNotAdjacent.e.o R.cNotAdjacent.i R.cNotAdjacent.t (in_NotAdjacent R.cNotAdjacent.F R.cNotAdjacent.e.o R.nNotAdjacent) hr R.cNotAdjacent.b (by rfl) R.cNotAdjacent.g (pa_cons (pv 0) pa_nil)) (pa_cons (pe_oex R.cEmptyRoom.e.o R.cEmptyRoom.i R.cEmptyRoom.t (in_EmptyRoom R.cEmptyRoom.F R.cEmptyRoom.e.o R.nEmptyRoom) hr R.cEmptyRoom.b (by rfl) R.cEmptyRoom.g (pa_cons (pv 0) pa_nil)) (pa_cons (pe_oex R.cOtherRegion.e.o R.cOtherRegion.i R.cOtherRegion.t (in_OtherRegion R.cOtherRegion.F R.cOtherRegion.e.o R.nOtherRegion) hr R.cOtherRegion.b (by rfl) R.cOtherRegion.g (pa_cons (pv 0) pa_nil)) (pa_cons (pe_oex R.cTightRegion.e.o R.cTightRegion.i R.cTightRegion.t (in_TightRegion R.cTightRegion.F R.cTightRegion.e.o R.nTightRegion) hr R.cTightRegion.b (by rfl) R.cTightRegion.g (pa_cons (pv 0) pa_nil)) (pa_cons (pe_oex R.cAlreadyAdjacent.e.o R.cAlreadyAdjacent.i R.cAlreadyAdjacent.t (in_AlreadyAdjacent R.cAlreadyAdjacent.F R.cAlreadyAdjacent.e.o R.nAlreadyAdjacent) hr R.cAlreadyAdjacent.b (by rfl) R.cAlreadyAdjacent.g (pa_cons (pv 0) pa_nil)) (pa_cons (pe_oex R.cWouldFormCycle.e.o R.cWouldFormCycle.i R.cWouldFormCycle.t (in_WouldFormCycle R.cWouldFormCycle.F R.cWouldFormCycle.e.o R.nWouldFormCycle) hr R.cWouldFormCycle.b (by rfl) R.cWouldFormCycle.g (pa_cons (pv 0) pa_nil)) pa_nil)))))))))
      (pss_cons (ps_set (i := 3) scHolds.nd rfl (.inl rfl) (pe_lst (pa_cons (pe_oex R.cInvalidMoves.e.o R.cInvalidMoves.i R.cInvalidMoves.t (in_InvalidMoves R.cInvalidMoves.F R.cInvalidMoves.e.o R.nInvalidMoves) hr R.cInvalidMoves.b (by rfl) R.cInvalidMoves.g (pa_cons (pv 0) pa_nil)) (pa_cons (pe_oex R.cBatchFailed.e.o R.cBatchFailed.i R.cBatchFailed.t (in_BatchFailed R.cBatchFailed.F R.cBatchFailed.e.o R.nBatchFailed) hr R.cBatchFailed.b (by rfl) R.cBatchFailed.g (pa_cons (pv 0) pa_nil)) (pa_cons (pe_oex R.cInvalidMoment.e.o R.cInvalidMoment.i R.cInvalidMoment.t (in_InvalidMoment R.cInvalidMoment.F R.cInvalidMoment.e.o R.nInvalidMoment) hr R.cInvalidMoment.b (by rfl) R.cInvalidMoment.g (pa_cons (pv 0) pa_nil)) (pa_cons (pe_oex R.cInvalidText.e.o R.cInvalidText.i R.cInvalidText.t (in_InvalidText R.cInvalidText.F R.cInvalidText.e.o R.nInvalidText) hr R.cInvalidText.b (by rfl) R.cInvalidText.g (pa_cons (pv 0) pa_nil)) pa_nil))))))
      (pss_cons (ps_set (i := 4) scHolds.nd rfl (.inl rfl) (pe_lst (pa_cons (pe_oex0 R.cNothingToUndo.e.o R.cNothingToUndo.i R.cNothingToUndo.t (in_NothingToUndo R.cNothingToUndo.F) hr R.cNothingToUndo.b (by rfl) R.cNothingToUndo.g) (pa_cons (pe_oex0 R.cHistoryFull.e.o R.cHistoryFull.i R.cHistoryFull.t (in_HistoryFull R.cHistoryFull.F) hr R.cHistoryFull.b (by rfl) R.cHistoryFull.g) (pa_cons (pe_oex0 R.cSessionBusy.e.o R.cSessionBusy.i R.cSessionBusy.t (in_SessionBusy R.cSessionBusy.F) hr R.cSessionBusy.b (by rfl) R.cSessionBusy.g) (pa_cons (pe_oex0 R.cInvalidActions.e.o R.cInvalidActions.i R.cInvalidActions.t (in_InvalidActions R.cInvalidActions.F) hr R.cInvalidActions.b (by rfl) R.cInvalidActions.g) (pa_cons (pe_oex0 R.cInvalidHouse.e.o R.cInvalidHouse.i R.cInvalidHouse.t (in_InvalidHouse R.cInvalidHouse.F) hr R.cInvalidHouse.b (by rfl) R.cInvalidHouse.g) (pa_cons (pe_oex0 R.cInvalidPlacement.e.o R.cInvalidPlacement.i R.cInvalidPlacement.t (in_InvalidPlacement R.cInvalidPlacement.F) hr R.cInvalidPlacement.b (by rfl) R.cInvalidPlacement.g) pa_nil))))))))
      (pss_cons (ps_set (i := 5) scHolds.nd rfl (.inl rfl) (pe_op op_cat (pe_op op_cat (pe_lc (own := [("_law_e", 6)]) (g := gName 6) (te := tEf K "name" (tVar 6)) (by rfl) scHolds.nd (pi_list (pv 1)) (blkOk_by (own := [("_law_e", 6)]) (N := nHolds) (sc := defScope sHolds) (by decide +kernel)) (fun _ _ _ _ _ => pg_name (i := 6) scHolds.nd rfl (Or.inl rfl)) (fun _ _ _ _ _ => pts_nil) (fun _ _ _ _ _ => pe_ef (pv 6))) (pe_lc (own := [("_law_e", 6)]) (g := gName 6) (te := tEf K "room" (tVar 6)) (by rfl) scHolds.nd (pi_list (pv 2)) (blkOk_by (own := [("_law_e", 6)]) (N := nHolds) (sc := defScope sHolds) (by decide +kernel)) (fun _ _ _ _ _ => pg_name (i := 6) scHolds.nd rfl (Or.inl rfl)) (fun _ _ _ _ _ => pts_nil) (fun _ _ _ _ _ => pe_ef (pv 6)))) (pe_lc (own := [("_law_e", 6)]) (g := gName 6) (te := tEf K "position" (tVar 6)) (by rfl) scHolds.nd (pi_list (pv 3)) (blkOk_by (own := [("_law_e", 6)]) (N := nHolds) (sc := defScope sHolds) (by decide +kernel)) (fun _ _ _ _ _ => pg_name (i := 6) scHolds.nd rfl (Or.inl rfl)) (fun _ _ _ _ _ => pts_nil) (fun _ _ _ _ _ => pe_ef (pv 6)))))
      (pss_cons (ps_set (i := 5) scHolds.nd rfl (.inl rfl) (pe_op op_catN (pv 5) (pe_lst (pa_cons (pe_ef (pe_oex R.cBlocked.e.o R.cBlocked.i R.cBlocked.t (in_Blocked R.cBlocked.F R.cBlocked.e.o R.nBlocked) hr R.cBlocked.b (by rfl) R.cBlocked.g (pa_cons (pv 0) pa_nil))) (pa_cons (pe_ef (pe_oex R.cLimitReached.e.o R.cLimitReached.i R.cLimitReached.t (in_LimitReached R.cLimitReached.F R.cLimitReached.e.o R.nLimitReached) hr R.cLimitReached.b (by rfl) R.cLimitReached.g (pa_cons (pv 0) pa_nil))) pa_nil)))))
      (pss_cons (ps_for PassesOwn.never rfl (pi_list (pe_op op_cat (pe_op op_cat (pe_op op_cat (pe_op op_cat (pv 1) (pv 2)) (pv 3)) (pv 4)) (pe_lst (pa_cons (pe_oex R.cBlocked.e.o R.cBlocked.i R.cBlocked.t (in_Blocked R.cBlocked.F R.cBlocked.e.o R.nBlocked) hr R.cBlocked.b (by rfl) R.cBlocked.g (pa_cons (pv 0) pa_nil)) (pa_cons (pe_oex R.cLimitReached.e.o R.cLimitReached.i R.cLimitReached.t (in_LimitReached R.cLimitReached.F R.cLimitReached.e.o R.nLimitReached) hr R.cLimitReached.b (by rfl) R.cLimitReached.g (pa_cons (pv 0) pa_nil)) pa_nil))))) (pg_name (i := 6) scHolds.nd rfl (Or.inl rfl))
        (pss_one (ps_if (PW.pt (pw_or (pt_cmpR op_ne (pe_call GC r1 (by rfl) DC.g DC.F.kp DC.b .nil pass0 (pa_cons (pv 6) pa_nil)) pe_int (nomark _))
          (pw_or (pt_not (pt_val (pe_callB call_isX (by rfl) T.isinstance boot_isinstance (pa_cons (pv 6) (pa_cons (pe_glob (v := .ref E) (by rfl) R.gE rfl) pa_nil)))))
          (pw_or1 (pt_not (pt_val (pe_callB call_isX (by rfl) T.isinstance boot_isinstance (pa_cons (pv 6) (pa_cons (pe_bltn (v := .ty "ValueError") (by rfl) R.ve (by decide +kernel) rfl) pa_nil))))))))) pss_never pss_nil)))
      (pss_one (ps_ret (pe_cmpR op_eq (pe_callB (call_reprX gd (un65 hr)) (by rfl) T.repr (by decide +kernel) (pa_cons (pv 5) pa_nil)) (pe_callB (call_reprX gd (un65 hr)) (by rfl) T.repr (by decide +kernel) (pa_cons (pe_op op_repN (pe_lst (pa_cons (pv 0) pa_nil)) pe_int) pa_nil)) (nomark _))))))))))), ?_⟩
    refine seqLst (v := v) (cs := [(C1, some "name"), (C9, some "name"), (C10, some "name")]) ?_ (by simp) fun L1 H1 X1 s1 e1 w1 => ?_
    · exact (Mks.consF rfl (Mks.consF rfl (Mks.consF rfl Mks.nil)))
    refine seqLst (v := v) (cs := [(C2, some "room"), (C3, some "room"), (C4, some "room"), (C6, some "room"), (C7, some "room"), (C12, some "room"), (C13, some "room")]) ?_ (by simp) fun L2 H2 X2 s2 e2 w2 => ?_
    · exact (Mks.consF rfl (Mks.consF rfl (Mks.consF rfl (Mks.consF rfl (Mks.consF rfl (Mks.consF rfl (Mks.consF rfl Mks.nil)))))))
    refine seqLst (v := v) (cs := [(C5, some "position"), (C18, some "position"), (C19, some "position"), (C22, some "position")]) ?_ (by simp) fun L3 H3 X3 s3 e3 w3 => ?_
    · exact (Mks.consF rfl (Mks.consF rfl (Mks.consF rfl (Mks.consF rfl Mks.nil))))
    refine seqLst (v := v) (cs := [(C14, none), (C15, none), (C16, none), (C17, none), (C20, none), (C21, none)]) ?_ (by simp) fun L4 H4 X4 s4 e4 w4 => ?_
    · exact (Mks.consB (Mks.consB (Mks.consB (Mks.consB (Mks.consB (Mks.consB Mks.nil))))))
    have t3 := s4
    have t2 := s3.trans s4
    have t1 := s2.trans t2
    have l1 : X1.length = 3 := w1.len
    have l2 : X2.length = 7 := w2.len
    have l3 : X3.length = 4 := w3.len
    have l4 : X4.length = 6 := w4.len
    have e1 := t1 _ _ e1
    have e2 := t2 _ _ e2
    have e3 := t3 _ _ e3
    have w1 := w1.sm t1
    have w2 := w2.sm t2
    have w3 := w3.sm t3
    have S4 : Same H H4 := s1.trans t1
    -- the fields
    refine seqCat ?_
    refine lcF (v := v) rfl e1 (by omega) w1 (List.forall_mem_cons.mpr ⟨⟨rfl, R.cUnknownPerson.e.x, R.nUnknownPerson⟩, (List.forall_mem_cons.mpr ⟨⟨rfl, R.cInvalidName.e.x, R.nInvalidName⟩, (List.forall_mem_cons.mpr ⟨⟨rfl, R.cDuplicateName.e.x, R.nDuplicateName⟩, (fun _ h => nomatch h)⟩)⟩)⟩) rfl (fun _ => rfl) (fun _ => rfl) fun D1 H5 s5 d1 => ?_
    refine lcF (v := v) rfl (s5 _ _ e2) (by omega) (w2.sm s5) (List.forall_mem_cons.mpr ⟨⟨rfl, R.cInvalidRoom.e.x, R.nInvalidRoom⟩, (List.forall_mem_cons.mpr ⟨⟨rfl, R.cNotAdjacent.e.x, R.nNotAdjacent⟩, (List.forall_mem_cons.mpr ⟨⟨rfl, R.cEmptyRoom.e.x, R.nEmptyRoom⟩, (List.forall_mem_cons.mpr ⟨⟨rfl, R.cOtherRegion.e.x, R.nOtherRegion⟩, (List.forall_mem_cons.mpr ⟨⟨rfl, R.cTightRegion.e.x, R.nTightRegion⟩, (List.forall_mem_cons.mpr ⟨⟨rfl, R.cAlreadyAdjacent.e.x, R.nAlreadyAdjacent⟩, (List.forall_mem_cons.mpr ⟨⟨rfl, R.cWouldFormCycle.e.x, R.nWouldFormCycle⟩, (fun _ h => nomatch h)⟩)⟩)⟩)⟩)⟩)⟩)⟩) rfl (fun _ => rfl) (fun _ => rfl) fun D2 H6 s6 d2 => ?_
    refine catE (s6 _ _ d1) d2 (by rw [List.length_replicate, List.length_replicate]; omega) fun D3 H7 s7 d3 => ?_
    have s57 := (s5.trans s6).trans s7
    refine lcF (v := v) rfl (s57 _ _ e3) (by omega) (w3.sm s57) (List.forall_mem_cons.mpr ⟨⟨rfl, R.cInvalidMoves.e.x, R.nInvalidMoves⟩, (List.forall_mem_cons.mpr ⟨⟨rfl, R.cBatchFailed.e.x, R.nBatchFailed⟩, (List.forall_mem_cons.mpr ⟨⟨rfl, R.cInvalidMoment.e.x, R.nInvalidMoment⟩, (List.forall_mem_cons.mpr ⟨⟨rfl, R.cInvalidText.e.x, R.nInvalidText⟩, (fun _ h => nomatch h)⟩)⟩)⟩)⟩) rfl (fun _ => rfl) (fun _ => rfl) fun D4 H8 s8 d4 => ?_
    refine catE (s8 _ _ d3) d4 (by rw [List.length_append, List.length_replicate, List.length_replicate, List.length_replicate]; omega) fun D5 H9 s9 d5 => ?_
    have s59 := (s57.trans s8).trans s9
    rw [l1, l2, l3] at d5
    refine ⟨_, rfl, efF (v := v) rfl R.cBlocked.e.x R.nBlocked fun H10 s10 => efF (v := v) rfl R.cLimitReached.e.x R.nLimitReached fun H11 s11 => ⟨le_sz (by simp), fun D6 n6 => ?_⟩⟩
    have s911 := s10.trans s11
    refine catNE (same_upd n6 _ _ (s911 _ _ d5)) upd_same (by simp) fun D7 H12 s12 d7 ns => ?_
    have s412 : Same H4 H12 := ((s59.trans s911).trans (same_upd n6)).trans s12
    have d7 : H12 D7 = some (.lst (List.replicate 16 v)) := d7
    have S12 := S4.trans s412
    -- each is of its class alone
    refine ⟨_, rfl, _, rfl, catE (s412 _ _ e1) (s412 _ _ e2) (by omega) fun U1 H13 s13 u1 => ⟨_, rfl, catE u1 (s13 _ _ (s412 _ _ e3)) (by rw [List.length_append]; omega) fun U2 H14 s14 u2 => ⟨_, rfl, catE u2 (s14 _ _ (s13 _ _ (s412 _ _ e4))) (by rw [List.length_append, List.length_append]; omega) fun U3 H15 s15 u3 => ?_⟩⟩⟩
    refine lstE (v := v) (cs := [(C8, some "block"), (C11, some "limit")]) ?_ (by simp) fun L5 H16 X5 s16 e5 w5 => ?_
    · exact (Mks.consF rfl (Mks.consF rfl Mks.nil))
    have l5 : X5.length = 2 := w5.len
    refine catE (s16 _ _ u3) e5 (by rw [List.length_append, List.length_append, List.length_append]; omega) fun U5 H17 s17 u5 => ?_
    have s1217 : Same H12 H17 := (((s13.trans s14).trans s15).trans s16).trans s17
    have s417 := s412.trans s1217
    have all : Exs H17 v (X1 ++ X2 ++ X3 ++ X4 ++ X5) [(C1, some "name"), (C9, some "name"), (C10, some "name"), (C2, some "room"), (C3, some "room"), (C4, some "room"), (C6, some "room"), (C7, some "room"), (C12, some "room"), (C13, some "room"), (C5, some "position"), (C18, some "position"), (C19, some "position"), (C22, some "position"), (C14, none), (C15, none), (C16, none), (C17, none), (C20, none), (C21, none), (C8, some "block"), (C11, some "limit")] := ((((w1.app w2).app w3).app w4).sm s417).app (w5.sm s17)
    refine ⟨U5, rfl, ⟨_, SqL.of u5⟩, for_list (K := K) (a := U5) (xs := X1 ++ X2 ++ X3 ++ X4 ++ X5) (fun j σ H' => ∃ y6, σ = [some v, some (.ref L1), some (.ref L2), some (.ref L3), some (.ref L4), some (.ref D7), y6] ∧ Same H17 H') ⟨_, rfl, Same.refl _⟩ (fun j σ H' _ hh => ?_) ?_ ?_⟩
    · obtain ⟨_, _, e⟩ := hh
      exact SqL.of (e _ _ u5)
    · rintro j x σ H' hx ⟨y6, rfl, t⟩
      obtain ⟨C, fo, m, z⟩ := all.pick hx
      obtain ⟨kd, mC⟩ := kds _ m
      refine ⟨_, rfl, x, C, _, rfl, mC, kd, z.same t, fun H2' s2' => ?_⟩
      have t2 := t.trans s2'
      refine ⟨rfl, _, rfl, iteNS rfl ?_⟩
      refine isxT (.own E) rfl (z.same t2) kd ((kit_ref kd.m R.iE R.tE).trans (by simp)) ⟨_, rfl, iteF ?_⟩
      refine isxT (.ty "ValueError") rfl (z.same t2) kd (kit_ve kd.m) ⟨_, rfl, iteF ?_⟩
      exact ⟨_, rfl, t2⟩
    · rintro σ H' ⟨y6, rfl, t⟩
      have t12 := s1217.trans t
      have tt := S12.trans t12
      refine ⟨_, rfl, D7, v, 16, d, rfl, ns, t12 _ _ d7, vd_sm tt hv, ok1, ok2, ok3, _, rfl, le_sz (by simp), fun u1 m1 => ⟨u1, v, rfl, rfl, upd_same, fun u2 m2 ns2 => ⟨u2, v, 16, d, rfl, ns2, upd_same, vd_sm ((tt.trans (same_upd m1)).trans (same_upd m2)) hv, ok1, ok2, ok3, rfl, ?_⟩⟩⟩
      rw [decide_eq_true rfl]
      exact q _ ((tt.trans (same_upd m1)).trans (same_upd m2))
def spLaw (K : PySem.W.Frag) : Sp := fun vs H Q _ => ∃ (a : Addr) (ns : List Int), vs = [.ref a] ∧ SqL K H a (vi ns) ∧ ns.length ≤ 63 ∧ ∀ H', Q (.bl true) H'
abbrev nLaw : List Str := ["_law_script", "_law_stream_here", "_law_turn"]
theorem scLaw : FnScope nLaw ["_law_script"] (defScope sLaw) := ⟨rfl, rfl, rfl, by decide +kernel, rfl, by decide +kernel, by decide +kernel⟩
theorem ok_law {f f1 f2 f3 f4 f5 : Addr} {fd d1 d2 d3 d4 d5 : FuncData} {E C1 C2 C3 C4 C5 C6 C7 C8 C9 C10 C11 C12 C13 C14 C15 C16 C17 C18 C19 C20 C21 C22 g1 g2 g3 g4 g5 g6 g7 g8 g9 g10 g11 g12 g13 g14 g15 g16 g17 g18 g19 g20 g21 g22 : Addr} {h1 h2 h3 h4 h5 h6 h7 h8 h9 h10 h11 h12 h13 h14 h15 h16 h17 h18 h19 h20 h21 h22 : FuncData} (F : Fun K "law" "law" sLaw f fd) (T : Nm mg) (R : Er K mg E C1 C2 C3 C4 C5 C6 C7 C8 C9 C10 C11 C12 C13 C14 C15 C16 C17 C18 C19 C20 C21 C22 g1 g2 g3 g4 g5 g6 g7 g8 g9 g10 g11 g12 g13 g14 g15 g16 g17 g18 g19 g20 g21 g22 h1 h2 h3 h4 h5 h6 h7 h8 h9 h10 h11 h12 h13 h14 h15 h16 h17 h18 h19 h20 h21 h22)
    (DS : Def K mg "_law_stream" sStream f1 d1 ["_law_script"]) (DD : Def K mg "_law_draw" sDraw f2 d2 ["_law_stream_here", "_law_many"]) (DR : Def K mg "_law_random_value" sRand f3 d3 ["_law_stream_here"]) (DC : Def K mg "_law_class_count" sCount f4 d4 ["_law_e"]) (DH : Def K mg "_law_constructed_holds" sHolds f5 d5 ["_law_value"]) :
    FnG P w K mg base 4 f fd ["_law_script"] (spLaw K) := by
  have GStream : FnOk P w K mg base CX0 1 f1 d1 _ (spStream K) := ok_stream DS.F T
  have GRand : FnOk P w K mg base CX0 2 f3 d3 _ (spRand K) := ok_rand DR.F T DD
  have GHolds : FnG P w K mg base 3 f5 d5 _ (spHolds K) := ok_holds DH.F T R DC
  refine Fun.okG F scLaw (fun vs H Q E h => ?_) (fun cdv A outer s H vs Q gd hr h => ?_)
  · obtain ⟨a, ns, rfl, _⟩ := h
    rfl
  · obtain ⟨a, ns, rfl, hS, hlen, q⟩ := h
    have r1 : Room 1 _ := hr.mono (by decide)
    have r2 : Room 2 _ := hr.mono (by decide)
    refine ⟨_, pss_cons (ps_set (i := 1) scLaw.nd rfl (.inl rfl) (pe_call GStream r1 (by rfl) DS.g DS.F.kp DS.b .nil pass0 (pa_cons (pv 0) pa_nil)))
      (pss_cons (ps_for PassesOwn.never rfl (pi_range1 (by rfl) T.range (pa_cons pe_int pa_nil)) (pg_name (i := 2) scLaw.nd rfl (Or.inl rfl))
        (pss_one (ps_if (pt_not (pt_val (pe_callG GHolds gd hr (by rfl) DH.g DH.F.kp DH.b (pa_cons (pe_call GRand r2 (by rfl) DR.g DR.F.kp DR.b .nil pass0 (pa_cons (pv 1) pa_nil)) pa_nil)))) pss_never pss_nil)))
      (pss_one (ps_ret pe_bl))), ?_⟩
    refine ⟨_, rfl, a, ns, rfl, hS, hlen, fun H1 s1 A1 B1 sm1 _ _ hS1 => ?_⟩
    refine ⟨8, rfl, by decide, by decide, for_range (lo := 0) (n := 8) (fun i σ H' => ∃ y2, σ = [some (.ref a), some (.ref s1), y2] ∧ StreamAt H' s1 A1 B1 i) ⟨_, rfl, hS1⟩ ?_ ?_⟩
    · rintro i σ H2 hi ⟨y2, rfl, hS2⟩
      refine ⟨_, rfl, s1, A1, B1, i, rfl, hS2, by omega, fun H3 v d hS3 md hv => ⟨v, d, rfl, md, hv, fun H4 s4 => ⟨_, rfl, iteF ?_⟩⟩⟩
      exact ⟨_, rfl, hS3.same s4⟩
    · rintro σ H2 ⟨y2, rfl, hS2⟩
      exact q _
end
end Fw
set_option maxHeartbeats 2000000
namespace Fw
open PySem PySem.Spec PyProof.Rows L2
theorem all_mk {P : Program} {w : World} {K : PySem.W.Frag} {h : Heap} {mg : Str → Option Value} {fa : Addr} (X : K.In h) (G : h.Ns mainGlobals mg) (hfa : mg "law" = some (.ref fa))
    {f1 : Addr} {od1 an1 : Option Addr} {sl1 : Array (Option Value)} {oc1 kV1 dc1 pm1 cd1 ct1 : Value}
    (a1 : PySem.W.nsIn K mainGlobals "_law_stream" = some (some (.ref f1)))
    (l1 : K.lookup f1 = some ⟨oc1, od1, .func (PySem.W.fnOf "_law_stream" "_law_stream" (defArgs sStream) (defBody sStream) (defScope sStream) .none kV1 dc1 pm1 an1 cd1 ct1), sl1⟩)
    (c1 : PySem.W.codeIn K cd1 "_law_stream" = true) (k1 : PySem.W.keepIn K (.ref f1) = true)
    {f2 : Addr} {od2 an2 : Option Addr} {sl2 : Array (Option Value)} {oc2 kV2 dc2 pm2 cd2 ct2 : Value}
    (a2 : PySem.W.nsIn K mainGlobals "_law_draw" = some (some (.ref f2)))
    (l2 : K.lookup f2 = some ⟨oc2, od2, .func (PySem.W.fnOf "_law_draw" "_law_draw" (defArgs sDraw) (defBody sDraw) (defScope sDraw) .none kV2 dc2 pm2 an2 cd2 ct2), sl2⟩)
    (c2 : PySem.W.codeIn K cd2 "_law_draw" = true) (k2 : PySem.W.keepIn K (.ref f2) = true)
    {f3 : Addr} {od3 an3 : Option Addr} {sl3 : Array (Option Value)} {oc3 kV3 dc3 pm3 cd3 ct3 : Value}
    (a3 : PySem.W.nsIn K mainGlobals "_law_random_value" = some (some (.ref f3)))
    (l3 : K.lookup f3 = some ⟨oc3, od3, .func (PySem.W.fnOf "_law_random_value" "_law_random_value" (defArgs sRand) (defBody sRand) (defScope sRand) .none kV3 dc3 pm3 an3 cd3 ct3), sl3⟩)
    (c3 : PySem.W.codeIn K cd3 "_law_random_value" = true) (k3 : PySem.W.keepIn K (.ref f3) = true)
    {f4 : Addr} {od4 an4 : Option Addr} {sl4 : Array (Option Value)} {oc4 kV4 dc4 pm4 cd4 ct4 : Value}
    (a4 : PySem.W.nsIn K mainGlobals "_law_class_count" = some (some (.ref f4)))
    (l4 : K.lookup f4 = some ⟨oc4, od4, .func (PySem.W.fnOf "_law_class_count" "_law_class_count" (defArgs sCount) (defBody sCount) (defScope sCount) .none kV4 dc4 pm4 an4 cd4 ct4), sl4⟩)
    (c4 : PySem.W.codeIn K cd4 "_law_class_count" = true) (k4 : PySem.W.keepIn K (.ref f4) = true)
    {f5 : Addr} {od5 an5 : Option Addr} {sl5 : Array (Option Value)} {oc5 kV5 dc5 pm5 cd5 ct5 : Value}
    (a5 : PySem.W.nsIn K mainGlobals "_law_constructed_holds" = some (some (.ref f5)))
    (l5 : K.lookup f5 = some ⟨oc5, od5, .func (PySem.W.fnOf "_law_constructed_holds" "_law_constructed_holds" (defArgs sHolds) (defBody sHolds) (defScope sHolds) .none kV5 dc5 pm5 an5 cd5 ct5), sl5⟩)
    (c5 : PySem.W.codeIn K cd5 "_law_constructed_holds" = true) (k5 : PySem.W.keepIn K (.ref f5) = true)
    {f6 : Addr} {od6 an6 : Option Addr} {sl6 : Array (Option Value)} {oc6 kV6 dc6 pm6 cd6 ct6 : Value}
    (a6 : PySem.W.nsIn K mainGlobals "law" = some (some (.ref f6)))
    (l6 : K.lookup f6 = some ⟨oc6, od6, .func (PySem.W.fnOf "law" "law" (defArgs sLaw) (defBody sLaw) (defScope sLaw) .none kV6 dc6 pm6 an6 cd6 ct6), sl6⟩)
    (c6 : PySem.W.codeIn K cd6 "law" = true) (k6 : PySem.W.keepIn K (.ref f6) = true)
    {E : Addr} (aE : PySem.W.nsIn K mainGlobals "HouseError" = some (some (.ref E))) (iE : PySem.W.isClsIn K E = true) (tE : PySem.W.typeIn K (.ref E) = some (.type "type")) (spc : PySem.W.specialIn K (.builtin "object.__class__") "__get__" = some (some (.builtin "getset_descriptor.__get__"))) (tkc : PySem.W.takesIn K (.builtin "object.__class__") = some true)
    {C1 g1 N1 : Addr} {nm1 qn1 : Str} {bs1 sub1 : List Value} {sn1 : List Str} {ab1 : Bool} {col1 : Option Bool} {dd1 : Option Addr} {p1 q1 r1 s1 t1 : Option Value} {gd1 ga1 : Option Addr} {gs1 : Array (Option Value)} {go1 gk1 gv1 gp1 gc1 gt1 : Value}
    (u1a : PySem.W.nsIn K mainGlobals "UnknownPerson" = some (some (.ref C1)))
    (u1b : K.lookup C1 = some (excClassObj nm1 qn1 C1 N1 bs1 (above E) true sn1 sub1 ab1 col1 dd1 p1 q1 r1 s1 t1 "ValueError.__new__"))
    (u1c : PySem.W.findIn K (.ref C1) "__setattr__" = some (some (.builtin "object.__setattr__"))) (u1d : PySem.W.findIn K (.ref C1) "__getattribute__" = some (some (.builtin "BaseException.__getattribute__"))) (u1e : PySem.W.findIn K (.ref C1) "__getattr__" = some none)
    (u1f : PySem.W.findIn K (.ref C1) "__init__" = some (some (.ref g1))) (u1g : PySem.W.typeIn K (.ref g1) = some (.type "function"))
    (u1h : K.lookup g1 = some ⟨go1, gd1, .func (PySem.W.fnOf "__init__" "UnknownPerson.__init__" (defArgs iUnknownPerson) (defBody iUnknownPerson) (defScope iUnknownPerson) .none gk1 gv1 gp1 ga1 gc1 gt1), gs1⟩)
    (u1i : PySem.W.codeIn K gc1 "UnknownPerson.__init__" = true) (u1j : PySem.W.keepIn K (.ref g1) = true) (u1k : PySem.W.keepIn K (.ref C1) = true) (u1l : PySem.W.typeIn K (.ref C1) = some (.type "type")) (u1m : PySem.W.hasDictIn K C1 = true)
    (u1n : PySem.W.findIn K (.ref C1) "__class__" = some (some (.builtin "object.__class__")))
    (u1o : PySem.W.findIn K (.ref C1) "name" = some none)
    {C2 g2 N2 : Addr} {nm2 qn2 : Str} {bs2 sub2 : List Value} {sn2 : List Str} {ab2 : Bool} {col2 : Option Bool} {dd2 : Option Addr} {p2 q2 r2 s2 t2 : Option Value} {gd2 ga2 : Option Addr} {gs2 : Array (Option Value)} {go2 gk2 gv2 gp2 gc2 gt2 : Value}
    (u2a : PySem.W.nsIn K mainGlobals "InvalidRoom" = some (some (.ref C2)))
    (u2b : K.lookup C2 = some (excClassObj nm2 qn2 C2 N2 bs2 (above E) true sn2 sub2 ab2 col2 dd2 p2 q2 r2 s2 t2 "ValueError.__new__"))
    (u2c : PySem.W.findIn K (.ref C2) "__setattr__" = some (some (.builtin "object.__setattr__"))) (u2d : PySem.W.findIn K (.ref C2) "__getattribute__" = some (some (.builtin "BaseException.__getattribute__"))) (u2e : PySem.W.findIn K (.ref C2) "__getattr__" = some none)
    (u2f : PySem.W.findIn K (.ref C2) "__init__" = some (some (.ref g2))) (u2g : PySem.W.typeIn K (.ref g2) = some (.type "function"))
    (u2h : K.lookup g2 = some ⟨go2, gd2, .func (PySem.W.fnOf "__init__" "InvalidRoom.__init__" (defArgs iInvalidRoom) (defBody iInvalidRoom) (defScope iInvalidRoom) .none gk2 gv2 gp2 ga2 gc2 gt2), gs2⟩)
    (u2i : PySem.W.codeIn K gc2 "InvalidRoom.__init__" = true) (u2j : PySem.W.keepIn K (.ref g2) = true) (u2k : PySem.W.keepIn K (.ref C2) = true) (u2l : PySem.W.typeIn K (.ref C2) = some (.type "type")) (u2m : PySem.W.hasDictIn K C2 = true)
    (u2n : PySem.W.findIn K (.ref C2) "__class__" = some (some (.builtin "object.__class__")))
    (u2o : PySem.W.findIn K (.ref C2) "room" = some none)
    {C3 g3 N3 : Addr} {nm3 qn3 : Str} {bs3 sub3 : List Value} {sn3 : List Str} {ab3 : Bool} {col3 : Option Bool} {dd3 : Option Addr} {p3 q3 r3 s3 t3 : Option Value} {gd3 ga3 : Option Addr} {gs3 : Array (Option Value)} {go3 gk3 gv3 gp3 gc3 gt3 : Value}
    (u3a : PySem.W.nsIn K mainGlobals "NotAdjacent" = some (some (.ref C3)))
    (u3b : K.lookup C3 = some (excClassObj nm3 qn3 C3 N3 bs3 (above E) true sn3 sub3 ab3 col3 dd3 p3 q3 r3 s3 t3 "ValueError.__new__"))
    (u3c : PySem.W.findIn K (.ref C3) "__setattr__" = some (some (.builtin "object.__setattr__"))) (u3d : PySem.W.findIn K (.ref C3) "__getattribute__" = some (some (.builtin "BaseException.__getattribute__"))) (u3e : PySem.W.findIn K (.ref C3) "__getattr__" = some none)
    (u3f : PySem.W.findIn K (.ref C3) "__init__" = some (some (.ref g3))) (u3g : PySem.W.typeIn K (.ref g3) = some (.type "function"))
    (u3h : K.lookup g3 = some ⟨go3, gd3, .func (PySem.W.fnOf "__init__" "NotAdjacent.__init__" (defArgs iNotAdjacent) (defBody iNotAdjacent) (defScope iNotAdjacent) .none gk3 gv3 gp3 ga3 gc3 gt3), gs3⟩)
    (u3i : PySem.W.codeIn K gc3 "NotAdjacent.__init__" = true) (u3j : PySem.W.keepIn K (.ref g3) = true) (u3k : PySem.W.keepIn K (.ref C3) = true) (u3l : PySem.W.typeIn K (.ref C3) = some (.type "type")) (u3m : PySem.W.hasDictIn K C3 = true)
    (u3n : PySem.W.findIn K (.ref C3) "__class__" = some (some (.builtin "object.__class__")))
    (u3o : PySem.W.findIn K (.ref C3) "room" = some none)
    {C4 g4 N4 : Addr} {nm4 qn4 : Str} {bs4 sub4 : List Value} {sn4 : List Str} {ab4 : Bool} {col4 : Option Bool} {dd4 : Option Addr} {p4 q4 r4 s4 t4 : Option Value} {gd4 ga4 : Option Addr} {gs4 : Array (Option Value)} {go4 gk4 gv4 gp4 gc4 gt4 : Value}
    (u4a : PySem.W.nsIn K mainGlobals "EmptyRoom" = some (some (.ref C4)))
    (u4b : K.lookup C4 = some (excClassObj nm4 qn4 C4 N4 bs4 (above E) true sn4 sub4 ab4 col4 dd4 p4 q4 r4 s4 t4 "ValueError.__new__"))
    (u4c : PySem.W.findIn K (.ref C4) "__setattr__" = some (some (.builtin "object.__setattr__"))) (u4d : PySem.W.findIn K (.ref C4) "__getattribute__" = some (some (.builtin "BaseException.__getattribute__"))) (u4e : PySem.W.findIn K (.ref C4) "__getattr__" = some none)
    (u4f : PySem.W.findIn K (.ref C4) "__init__" = some (some (.ref g4))) (u4g : PySem.W.typeIn K (.ref g4) = some (.type "function"))
    (u4h : K.lookup g4 = some ⟨go4, gd4, .func (PySem.W.fnOf "__init__" "EmptyRoom.__init__" (defArgs iEmptyRoom) (defBody iEmptyRoom) (defScope iEmptyRoom) .none gk4 gv4 gp4 ga4 gc4 gt4), gs4⟩)
    (u4i : PySem.W.codeIn K gc4 "EmptyRoom.__init__" = true) (u4j : PySem.W.keepIn K (.ref g4) = true) (u4k : PySem.W.keepIn K (.ref C4) = true) (u4l : PySem.W.typeIn K (.ref C4) = some (.type "type")) (u4m : PySem.W.hasDictIn K C4 = true)
    (u4n : PySem.W.findIn K (.ref C4) "__class__" = some (some (.builtin "object.__class__")))
    (u4o : PySem.W.findIn K (.ref C4) "room" = some none)
    {C5 g5 N5 : Addr} {nm5 qn5 : Str} {bs5 sub5 : List Value} {sn5 : List Str} {ab5 : Bool} {col5 : Option Bool} {dd5 : Option Addr} {p5 q5 r5 s5 t5 : Option Value} {gd5 ga5 : Option Addr} {gs5 : Array (Option Value)} {go5 gk5 gv5 gp5 gc5 gt5 : Value}
    (u5a : PySem.W.nsIn K mainGlobals "InvalidMoves" = some (some (.ref C5)))
    (u5b : K.lookup C5 = some (excClassObj nm5 qn5 C5 N5 bs5 (above E) true sn5 sub5 ab5 col5 dd5 p5 q5 r5 s5 t5 "ValueError.__new__"))
    (u5c : PySem.W.findIn K (.ref C5) "__setattr__" = some (some (.builtin "object.__setattr__"))) (u5d : PySem.W.findIn K (.ref C5) "__getattribute__" = some (some (.builtin "BaseException.__getattribute__"))) (u5e : PySem.W.findIn K (.ref C5) "__getattr__" = some none)
    (u5f : PySem.W.findIn K (.ref C5) "__init__" = some (some (.ref g5))) (u5g : PySem.W.typeIn K (.ref g5) = some (.type "function"))
    (u5h : K.lookup g5 = some ⟨go5, gd5, .func (PySem.W.fnOf "__init__" "InvalidMoves.__init__" (defArgs iInvalidMoves) (defBody iInvalidMoves) (defScope iInvalidMoves) .none gk5 gv5 gp5 ga5 gc5 gt5), gs5⟩)
    (u5i : PySem.W.codeIn K gc5 "InvalidMoves.__init__" = true) (u5j : PySem.W.keepIn K (.ref g5) = true) (u5k : PySem.W.keepIn K (.ref C5) = true) (u5l : PySem.W.typeIn K (.ref C5) = some (.type "type")) (u5m : PySem.W.hasDictIn K C5 = true)
    (u5n : PySem.W.findIn K (.ref C5) "__class__" = some (some (.builtin "object.__class__")))
    (u5o : PySem.W.findIn K (.ref C5) "position" = some none)
    {C6 g6 N6 : Addr} {nm6 qn6 : Str} {bs6 sub6 : List Value} {sn6 : List Str} {ab6 : Bool} {col6 : Option Bool} {dd6 : Option Addr} {p6 q6 r6 s6 t6 : Option Value} {gd6 ga6 : Option Addr} {gs6 : Array (Option Value)} {go6 gk6 gv6 gp6 gc6 gt6 : Value}
    (u6a : PySem.W.nsIn K mainGlobals "OtherRegion" = some (some (.ref C6)))
    (u6b : K.lookup C6 = some (excClassObj nm6 qn6 C6 N6 bs6 (above E) true sn6 sub6 ab6 col6 dd6 p6 q6 r6 s6 t6 "ValueError.__new__"))
    (u6c : PySem.W.findIn K (.ref C6) "__setattr__" = some (some (.builtin "object.__setattr__"))) (u6d : PySem.W.findIn K (.ref C6) "__getattribute__" = some (some (.builtin "BaseException.__getattribute__"))) (u6e : PySem.W.findIn K (.ref C6) "__getattr__" = some none)
    (u6f : PySem.W.findIn K (.ref C6) "__init__" = some (some (.ref g6))) (u6g : PySem.W.typeIn K (.ref g6) = some (.type "function"))
    (u6h : K.lookup g6 = some ⟨go6, gd6, .func (PySem.W.fnOf "__init__" "OtherRegion.__init__" (defArgs iOtherRegion) (defBody iOtherRegion) (defScope iOtherRegion) .none gk6 gv6 gp6 ga6 gc6 gt6), gs6⟩)
    (u6i : PySem.W.codeIn K gc6 "OtherRegion.__init__" = true) (u6j : PySem.W.keepIn K (.ref g6) = true) (u6k : PySem.W.keepIn K (.ref C6) = true) (u6l : PySem.W.typeIn K (.ref C6) = some (.type "type")) (u6m : PySem.W.hasDictIn K C6 = true)
    (u6n : PySem.W.findIn K (.ref C6) "__class__" = some (some (.builtin "object.__class__")))
    (u6o : PySem.W.findIn K (.ref C6) "room" = some none)
    {C7 g7 N7 : Addr} {nm7 qn7 : Str} {bs7 sub7 : List Value} {sn7 : List Str} {ab7 : Bool} {col7 : Option Bool} {dd7 : Option Addr} {p7 q7 r7 s7 t7 : Option Value} {gd7 ga7 : Option Addr} {gs7 : Array (Option Value)} {go7 gk7 gv7 gp7 gc7 gt7 : Value}
    (u7a : PySem.W.nsIn K mainGlobals "TightRegion" = some (some (.ref C7)))
    (u7b : K.lookup C7 = some (excClassObj nm7 qn7 C7 N7 bs7 (above E) true sn7 sub7 ab7 col7 dd7 p7 q7 r7 s7 t7 "ValueError.__new__"))
    (u7c : PySem.W.findIn K (.ref C7) "__setattr__" = some (some (.builtin "object.__setattr__"))) (u7d : PySem.W.findIn K (.ref C7) "__getattribute__" = some (some (.builtin "BaseException.__getattribute__"))) (u7e : PySem.W.findIn K (.ref C7) "__getattr__" = some none)
    (u7f : PySem.W.findIn K (.ref C7) "__init__" = some (some (.ref g7))) (u7g : PySem.W.typeIn K (.ref g7) = some (.type "function"))
    (u7h : K.lookup g7 = some ⟨go7, gd7, .func (PySem.W.fnOf "__init__" "TightRegion.__init__" (defArgs iTightRegion) (defBody iTightRegion) (defScope iTightRegion) .none gk7 gv7 gp7 ga7 gc7 gt7), gs7⟩)
    (u7i : PySem.W.codeIn K gc7 "TightRegion.__init__" = true) (u7j : PySem.W.keepIn K (.ref g7) = true) (u7k : PySem.W.keepIn K (.ref C7) = true) (u7l : PySem.W.typeIn K (.ref C7) = some (.type "type")) (u7m : PySem.W.hasDictIn K C7 = true)
    (u7n : PySem.W.findIn K (.ref C7) "__class__" = some (some (.builtin "object.__class__")))
    (u7o : PySem.W.findIn K (.ref C7) "room" = some none)
    {C8 g8 N8 : Addr} {nm8 qn8 : Str} {bs8 sub8 : List Value} {sn8 : List Str} {ab8 : Bool} {col8 : Option Bool} {dd8 : Option Addr} {p8 q8 r8 s8 t8 : Option Value} {gd8 ga8 : Option Addr} {gs8 : Array (Option Value)} {go8 gk8 gv8 gp8 gc8 gt8 : Value}
    (u8a : PySem.W.nsIn K mainGlobals "Blocked" = some (some (.ref C8)))
    (u8b : K.lookup C8 = some (excClassObj nm8 qn8 C8 N8 bs8 (above E) true sn8 sub8 ab8 col8 dd8 p8 q8 r8 s8 t8 "ValueError.__new__"))
    (u8c : PySem.W.findIn K (.ref C8) "__setattr__" = some (some (.builtin "object.__setattr__"))) (u8d : PySem.W.findIn K (.ref C8) "__getattribute__" = some (some (.builtin "BaseException.__getattribute__"))) (u8e : PySem.W.findIn K (.ref C8) "__getattr__" = some none)
    (u8f : PySem.W.findIn K (.ref C8) "__init__" = some (some (.ref g8))) (u8g : PySem.W.typeIn K (.ref g8) = some (.type "function"))
    (u8h : K.lookup g8 = some ⟨go8, gd8, .func (PySem.W.fnOf "__init__" "Blocked.__init__" (defArgs iBlocked) (defBody iBlocked) (defScope iBlocked) .none gk8 gv8 gp8 ga8 gc8 gt8), gs8⟩)
    (u8i : PySem.W.codeIn K gc8 "Blocked.__init__" = true) (u8j : PySem.W.keepIn K (.ref g8) = true) (u8k : PySem.W.keepIn K (.ref C8) = true) (u8l : PySem.W.typeIn K (.ref C8) = some (.type "type")) (u8m : PySem.W.hasDictIn K C8 = true)
    (u8n : PySem.W.findIn K (.ref C8) "__class__" = some (some (.builtin "object.__class__")))
    (u8o : PySem.W.findIn K (.ref C8) "block" = some none)
    {C9 g9 N9 : Addr} {nm9 qn9 : Str} {bs9 sub9 : List Value} {sn9 : List Str} {ab9 : Bool} {col9 : Option Bool} {dd9 : Option Addr} {p9 q9 r9 s9 t9 : Option Value} {gd9 ga9 : Option Addr} {gs9 : Array (Option Value)} {go9 gk9 gv9 gp9 gc9 gt9 : Value}
    (u9a : PySem.W.nsIn K mainGlobals "InvalidName" = some (some (.ref C9)))
    (u9b : K.lookup C9 = some (excClassObj nm9 qn9 C9 N9 bs9 (above E) true sn9 sub9 ab9 col9 dd9 p9 q9 r9 s9 t9 "ValueError.__new__"))
    (u9c : PySem.W.findIn K (.ref C9) "__setattr__" = some (some (.builtin "object.__setattr__"))) (u9d : PySem.W.findIn K (.ref C9) "__getattribute__" = some (some (.builtin "BaseException.__getattribute__"))) (u9e : PySem.W.findIn K (.ref C9) "__getattr__" = some none)
    (u9f : PySem.W.findIn K (.ref C9) "__init__" = some (some (.ref g9))) (u9g : PySem.W.typeIn K (.ref g9) = some (.type "function"))
    (u9h : K.lookup g9 = some ⟨go9, gd9, .func (PySem.W.fnOf "__init__" "InvalidName.__init__" (defArgs iInvalidName) (defBody iInvalidName) (defScope iInvalidName) .none gk9 gv9 gp9 ga9 gc9 gt9), gs9⟩)
    (u9i : PySem.W.codeIn K gc9 "InvalidName.__init__" = true) (u9j : PySem.W.keepIn K (.ref g9) = true) (u9k : PySem.W.keepIn K (.ref C9) = true) (u9l : PySem.W.typeIn K (.ref C9) = some (.type "type")) (u9m : PySem.W.hasDictIn K C9 = true)
    (u9n : PySem.W.findIn K (.ref C9) "__class__" = some (some (.builtin "object.__class__")))
    (u9o : PySem.W.findIn K (.ref C9) "name" = some none)
    {C10 g10 N10 : Addr} {nm10 qn10 : Str} {bs10 sub10 : List Value} {sn10 : List Str} {ab10 : Bool} {col10 : Option Bool} {dd10 : Option Addr} {p10 q10 r10 s10 t10 : Option Value} {gd10 ga10 : Option Addr} {gs10 : Array (Option Value)} {go10 gk10 gv10 gp10 gc10 gt10 : Value}
    (u10a : PySem.W.nsIn K mainGlobals "DuplicateName" = some (some (.ref C10)))
    (u10b : K.lookup C10 = some (excClassObj nm10 qn10 C10 N10 bs10 (above E) true sn10 sub10 ab10 col10 dd10 p10 q10 r10 s10 t10 "ValueError.__new__"))
    (u10c : PySem.W.findIn K (.ref C10) "__setattr__" = some (some (.builtin "object.__setattr__"))) (u10d : PySem.W.findIn K (.ref C10) "__getattribute__" = some (some (.builtin "BaseException.__getattribute__"))) (u10e : PySem.W.findIn K (.ref C10) "__getattr__" = some none)
    (u10f : PySem.W.findIn K (.ref C10) "__init__" = some (some (.ref g10))) (u10g : PySem.W.typeIn K (.ref g10) = some (.type "function"))
    (u10h : K.lookup g10 = some ⟨go10, gd10, .func (PySem.W.fnOf "__init__" "DuplicateName.__init__" (defArgs iDuplicateName) (defBody iDuplicateName) (defScope iDuplicateName) .none gk10 gv10 gp10 ga10 gc10 gt10), gs10⟩)
    (u10i : PySem.W.codeIn K gc10 "DuplicateName.__init__" = true) (u10j : PySem.W.keepIn K (.ref g10) = true) (u10k : PySem.W.keepIn K (.ref C10) = true) (u10l : PySem.W.typeIn K (.ref C10) = some (.type "type")) (u10m : PySem.W.hasDictIn K C10 = true)
    (u10n : PySem.W.findIn K (.ref C10) "__class__" = some (some (.builtin "object.__class__")))
    (u10o : PySem.W.findIn K (.ref C10) "name" = some none)
    {C11 g11 N11 : Addr} {nm11 qn11 : Str} {bs11 sub11 : List Value} {sn11 : List Str} {ab11 : Bool} {col11 : Option Bool} {dd11 : Option Addr} {p11 q11 r11 s11 t11 : Option Value} {gd11 ga11 : Option Addr} {gs11 : Array (Option Value)} {go11 gk11 gv11 gp11 gc11 gt11 : Value}
    (u11a : PySem.W.nsIn K mainGlobals "LimitReached" = some (some (.ref C11)))
    (u11b : K.lookup C11 = some (excClassObj nm11 qn11 C11 N11 bs11 (above E) true sn11 sub11 ab11 col11 dd11 p11 q11 r11 s11 t11 "ValueError.__new__"))
    (u11c : PySem.W.findIn K (.ref C11) "__setattr__" = some (some (.builtin "object.__setattr__"))) (u11d : PySem.W.findIn K (.ref C11) "__getattribute__" = some (some (.builtin "BaseException.__getattribute__"))) (u11e : PySem.W.findIn K (.ref C11) "__getattr__" = some none)
    (u11f : PySem.W.findIn K (.ref C11) "__init__" = some (some (.ref g11))) (u11g : PySem.W.typeIn K (.ref g11) = some (.type "function"))
    (u11h : K.lookup g11 = some ⟨go11, gd11, .func (PySem.W.fnOf "__init__" "LimitReached.__init__" (defArgs iLimitReached) (defBody iLimitReached) (defScope iLimitReached) .none gk11 gv11 gp11 ga11 gc11 gt11), gs11⟩)
    (u11i : PySem.W.codeIn K gc11 "LimitReached.__init__" = true) (u11j : PySem.W.keepIn K (.ref g11) = true) (u11k : PySem.W.keepIn K (.ref C11) = true) (u11l : PySem.W.typeIn K (.ref C11) = some (.type "type")) (u11m : PySem.W.hasDictIn K C11 = true)
    (u11n : PySem.W.findIn K (.ref C11) "__class__" = some (some (.builtin "object.__class__")))
    (u11o : PySem.W.findIn K (.ref C11) "limit" = some none)
    {C12 g12 N12 : Addr} {nm12 qn12 : Str} {bs12 sub12 : List Value} {sn12 : List Str} {ab12 : Bool} {col12 : Option Bool} {dd12 : Option Addr} {p12 q12 r12 s12 t12 : Option Value} {gd12 ga12 : Option Addr} {gs12 : Array (Option Value)} {go12 gk12 gv12 gp12 gc12 gt12 : Value}
    (u12a : PySem.W.nsIn K mainGlobals "AlreadyAdjacent" = some (some (.ref C12)))
    (u12b : K.lookup C12 = some (excClassObj nm12 qn12 C12 N12 bs12 (above E) true sn12 sub12 ab12 col12 dd12 p12 q12 r12 s12 t12 "ValueError.__new__"))
    (u12c : PySem.W.findIn K (.ref C12) "__setattr__" = some (some (.builtin "object.__setattr__"))) (u12d : PySem.W.findIn K (.ref C12) "__getattribute__" = some (some (.builtin "BaseException.__getattribute__"))) (u12e : PySem.W.findIn K (.ref C12) "__getattr__" = some none)
    (u12f : PySem.W.findIn K (.ref C12) "__init__" = some (some (.ref g12))) (u12g : PySem.W.typeIn K (.ref g12) = some (.type "function"))
    (u12h : K.lookup g12 = some ⟨go12, gd12, .func (PySem.W.fnOf "__init__" "AlreadyAdjacent.__init__" (defArgs iAlreadyAdjacent) (defBody iAlreadyAdjacent) (defScope iAlreadyAdjacent) .none gk12 gv12 gp12 ga12 gc12 gt12), gs12⟩)
    (u12i : PySem.W.codeIn K gc12 "AlreadyAdjacent.__init__" = true) (u12j : PySem.W.keepIn K (.ref g12) = true) (u12k : PySem.W.keepIn K (.ref C12) = true) (u12l : PySem.W.typeIn K (.ref C12) = some (.type "type")) (u12m : PySem.W.hasDictIn K C12 = true)
    (u12n : PySem.W.findIn K (.ref C12) "__class__" = some (some (.builtin "object.__class__")))
    (u12o : PySem.W.findIn K (.ref C12) "room" = some none)
    {C13 g13 N13 : Addr} {nm13 qn13 : Str} {bs13 sub13 : List Value} {sn13 : List Str} {ab13 : Bool} {col13 : Option Bool} {dd13 : Option Addr} {p13 q13 r13 s13 t13 : Option Value} {gd13 ga13 : Option Addr} {gs13 : Array (Option Value)} {go13 gk13 gv13 gp13 gc13 gt13 : Value}
    (u13a : PySem.W.nsIn K mainGlobals "WouldFormCycle" = some (some (.ref C13)))
    (u13b : K.lookup C13 = some (excClassObj nm13 qn13 C13 N13 bs13 (above E) true sn13 sub13 ab13 col13 dd13 p13 q13 r13 s13 t13 "ValueError.__new__"))
    (u13c : PySem.W.findIn K (.ref C13) "__setattr__" = some (some (.builtin "object.__setattr__"))) (u13d : PySem.W.findIn K (.ref C13) "__getattribute__" = some (some (.builtin "BaseException.__getattribute__"))) (u13e : PySem.W.findIn K (.ref C13) "__getattr__" = some none)
    (u13f : PySem.W.findIn K (.ref C13) "__init__" = some (some (.ref g13))) (u13g : PySem.W.typeIn K (.ref g13) = some (.type "function"))
    (u13h : K.lookup g13 = some ⟨go13, gd13, .func (PySem.W.fnOf "__init__" "WouldFormCycle.__init__" (defArgs iWouldFormCycle) (defBody iWouldFormCycle) (defScope iWouldFormCycle) .none gk13 gv13 gp13 ga13 gc13 gt13), gs13⟩)
    (u13i : PySem.W.codeIn K gc13 "WouldFormCycle.__init__" = true) (u13j : PySem.W.keepIn K (.ref g13) = true) (u13k : PySem.W.keepIn K (.ref C13) = true) (u13l : PySem.W.typeIn K (.ref C13) = some (.type "type")) (u13m : PySem.W.hasDictIn K C13 = true)
    (u13n : PySem.W.findIn K (.ref C13) "__class__" = some (some (.builtin "object.__class__")))
    (u13o : PySem.W.findIn K (.ref C13) "room" = some none)
    {C14 g14 N14 : Addr} {nm14 qn14 : Str} {bs14 sub14 : List Value} {sn14 : List Str} {ab14 : Bool} {col14 : Option Bool} {dd14 : Option Addr} {p14 q14 r14 s14 t14 : Option Value} {gd14 ga14 : Option Addr} {gs14 : Array (Option Value)} {go14 gk14 gv14 gp14 gc14 gt14 : Value}
    (u14a : PySem.W.nsIn K mainGlobals "NothingToUndo" = some (some (.ref C14)))
    (u14b : K.lookup C14 = some (excClassObj nm14 qn14 C14 N14 bs14 (above E) true sn14 sub14 ab14 col14 dd14 p14 q14 r14 s14 t14 "ValueError.__new__"))
    (u14c : PySem.W.findIn K (.ref C14) "__setattr__" = some (some (.builtin "object.__setattr__"))) (u14d : PySem.W.findIn K (.ref C14) "__getattribute__" = some (some (.builtin "BaseException.__getattribute__"))) (u14e : PySem.W.findIn K (.ref C14) "__getattr__" = some none)
    (u14f : PySem.W.findIn K (.ref C14) "__init__" = some (some (.ref g14))) (u14g : PySem.W.typeIn K (.ref g14) = some (.type "function"))
    (u14h : K.lookup g14 = some ⟨go14, gd14, .func (PySem.W.fnOf "__init__" "NothingToUndo.__init__" (defArgs iNothingToUndo) (defBody iNothingToUndo) (defScope iNothingToUndo) .none gk14 gv14 gp14 ga14 gc14 gt14), gs14⟩)
    (u14i : PySem.W.codeIn K gc14 "NothingToUndo.__init__" = true) (u14j : PySem.W.keepIn K (.ref g14) = true) (u14k : PySem.W.keepIn K (.ref C14) = true) (u14l : PySem.W.typeIn K (.ref C14) = some (.type "type")) (u14m : PySem.W.hasDictIn K C14 = true)
    (u14n : PySem.W.findIn K (.ref C14) "__class__" = some (some (.builtin "object.__class__")))
    {C15 g15 N15 : Addr} {nm15 qn15 : Str} {bs15 sub15 : List Value} {sn15 : List Str} {ab15 : Bool} {col15 : Option Bool} {dd15 : Option Addr} {p15 q15 r15 s15 t15 : Option Value} {gd15 ga15 : Option Addr} {gs15 : Array (Option Value)} {go15 gk15 gv15 gp15 gc15 gt15 : Value}
    (u15a : PySem.W.nsIn K mainGlobals "HistoryFull" = some (some (.ref C15)))
    (u15b : K.lookup C15 = some (excClassObj nm15 qn15 C15 N15 bs15 (above E) true sn15 sub15 ab15 col15 dd15 p15 q15 r15 s15 t15 "ValueError.__new__"))
    (u15c : PySem.W.findIn K (.ref C15) "__setattr__" = some (some (.builtin "object.__setattr__"))) (u15d : PySem.W.findIn K (.ref C15) "__getattribute__" = some (some (.builtin "BaseException.__getattribute__"))) (u15e : PySem.W.findIn K (.ref C15) "__getattr__" = some none)
    (u15f : PySem.W.findIn K (.ref C15) "__init__" = some (some (.ref g15))) (u15g : PySem.W.typeIn K (.ref g15) = some (.type "function"))
    (u15h : K.lookup g15 = some ⟨go15, gd15, .func (PySem.W.fnOf "__init__" "HistoryFull.__init__" (defArgs iHistoryFull) (defBody iHistoryFull) (defScope iHistoryFull) .none gk15 gv15 gp15 ga15 gc15 gt15), gs15⟩)
    (u15i : PySem.W.codeIn K gc15 "HistoryFull.__init__" = true) (u15j : PySem.W.keepIn K (.ref g15) = true) (u15k : PySem.W.keepIn K (.ref C15) = true) (u15l : PySem.W.typeIn K (.ref C15) = some (.type "type")) (u15m : PySem.W.hasDictIn K C15 = true)
    (u15n : PySem.W.findIn K (.ref C15) "__class__" = some (some (.builtin "object.__class__")))
    {C16 g16 N16 : Addr} {nm16 qn16 : Str} {bs16 sub16 : List Value} {sn16 : List Str} {ab16 : Bool} {col16 : Option Bool} {dd16 : Option Addr} {p16 q16 r16 s16 t16 : Option Value} {gd16 ga16 : Option Addr} {gs16 : Array (Option Value)} {go16 gk16 gv16 gp16 gc16 gt16 : Value}
    (u16a : PySem.W.nsIn K mainGlobals "SessionBusy" = some (some (.ref C16)))
    (u16b : K.lookup C16 = some (excClassObj nm16 qn16 C16 N16 bs16 (above E) true sn16 sub16 ab16 col16 dd16 p16 q16 r16 s16 t16 "ValueError.__new__"))
    (u16c : PySem.W.findIn K (.ref C16) "__setattr__" = some (some (.builtin "object.__setattr__"))) (u16d : PySem.W.findIn K (.ref C16) "__getattribute__" = some (some (.builtin "BaseException.__getattribute__"))) (u16e : PySem.W.findIn K (.ref C16) "__getattr__" = some none)
    (u16f : PySem.W.findIn K (.ref C16) "__init__" = some (some (.ref g16))) (u16g : PySem.W.typeIn K (.ref g16) = some (.type "function"))
    (u16h : K.lookup g16 = some ⟨go16, gd16, .func (PySem.W.fnOf "__init__" "SessionBusy.__init__" (defArgs iSessionBusy) (defBody iSessionBusy) (defScope iSessionBusy) .none gk16 gv16 gp16 ga16 gc16 gt16), gs16⟩)
    (u16i : PySem.W.codeIn K gc16 "SessionBusy.__init__" = true) (u16j : PySem.W.keepIn K (.ref g16) = true) (u16k : PySem.W.keepIn K (.ref C16) = true) (u16l : PySem.W.typeIn K (.ref C16) = some (.type "type")) (u16m : PySem.W.hasDictIn K C16 = true)
    (u16n : PySem.W.findIn K (.ref C16) "__class__" = some (some (.builtin "object.__class__")))
    {C17 g17 N17 : Addr} {nm17 qn17 : Str} {bs17 sub17 : List Value} {sn17 : List Str} {ab17 : Bool} {col17 : Option Bool} {dd17 : Option Addr} {p17 q17 r17 s17 t17 : Option Value} {gd17 ga17 : Option Addr} {gs17 : Array (Option Value)} {go17 gk17 gv17 gp17 gc17 gt17 : Value}
    (u17a : PySem.W.nsIn K mainGlobals "InvalidActions" = some (some (.ref C17)))
    (u17b : K.lookup C17 = some (excClassObj nm17 qn17 C17 N17 bs17 (above E) true sn17 sub17 ab17 col17 dd17 p17 q17 r17 s17 t17 "ValueError.__new__"))
    (u17c : PySem.W.findIn K (.ref C17) "__setattr__" = some (some (.builtin "object.__setattr__"))) (u17d : PySem.W.findIn K (.ref C17) "__getattribute__" = some (some (.builtin "BaseException.__getattribute__"))) (u17e : PySem.W.findIn K (.ref C17) "__getattr__" = some none)
    (u17f : PySem.W.findIn K (.ref C17) "__init__" = some (some (.ref g17))) (u17g : PySem.W.typeIn K (.ref g17) = some (.type "function"))
    (u17h : K.lookup g17 = some ⟨go17, gd17, .func (PySem.W.fnOf "__init__" "InvalidActions.__init__" (defArgs iInvalidActions) (defBody iInvalidActions) (defScope iInvalidActions) .none gk17 gv17 gp17 ga17 gc17 gt17), gs17⟩)
    (u17i : PySem.W.codeIn K gc17 "InvalidActions.__init__" = true) (u17j : PySem.W.keepIn K (.ref g17) = true) (u17k : PySem.W.keepIn K (.ref C17) = true) (u17l : PySem.W.typeIn K (.ref C17) = some (.type "type")) (u17m : PySem.W.hasDictIn K C17 = true)
    (u17n : PySem.W.findIn K (.ref C17) "__class__" = some (some (.builtin "object.__class__")))
    {C18 g18 N18 : Addr} {nm18 qn18 : Str} {bs18 sub18 : List Value} {sn18 : List Str} {ab18 : Bool} {col18 : Option Bool} {dd18 : Option Addr} {p18 q18 r18 s18 t18 : Option Value} {gd18 ga18 : Option Addr} {gs18 : Array (Option Value)} {go18 gk18 gv18 gp18 gc18 gt18 : Value}
    (u18a : PySem.W.nsIn K mainGlobals "BatchFailed" = some (some (.ref C18)))
    (u18b : K.lookup C18 = some (excClassObj nm18 qn18 C18 N18 bs18 (above E) true sn18 sub18 ab18 col18 dd18 p18 q18 r18 s18 t18 "ValueError.__new__"))
    (u18c : PySem.W.findIn K (.ref C18) "__setattr__" = some (some (.builtin "object.__setattr__"))) (u18d : PySem.W.findIn K (.ref C18) "__getattribute__" = some (some (.builtin "BaseException.__getattribute__"))) (u18e : PySem.W.findIn K (.ref C18) "__getattr__" = some none)
    (u18f : PySem.W.findIn K (.ref C18) "__init__" = some (some (.ref g18))) (u18g : PySem.W.typeIn K (.ref g18) = some (.type "function"))
    (u18h : K.lookup g18 = some ⟨go18, gd18, .func (PySem.W.fnOf "__init__" "BatchFailed.__init__" (defArgs iBatchFailed) (defBody iBatchFailed) (defScope iBatchFailed) .none gk18 gv18 gp18 ga18 gc18 gt18), gs18⟩)
    (u18i : PySem.W.codeIn K gc18 "BatchFailed.__init__" = true) (u18j : PySem.W.keepIn K (.ref g18) = true) (u18k : PySem.W.keepIn K (.ref C18) = true) (u18l : PySem.W.typeIn K (.ref C18) = some (.type "type")) (u18m : PySem.W.hasDictIn K C18 = true)
    (u18n : PySem.W.findIn K (.ref C18) "__class__" = some (some (.builtin "object.__class__")))
    (u18o : PySem.W.findIn K (.ref C18) "position" = some none)
    {C19 g19 N19 : Addr} {nm19 qn19 : Str} {bs19 sub19 : List Value} {sn19 : List Str} {ab19 : Bool} {col19 : Option Bool} {dd19 : Option Addr} {p19 q19 r19 s19 t19 : Option Value} {gd19 ga19 : Option Addr} {gs19 : Array (Option Value)} {go19 gk19 gv19 gp19 gc19 gt19 : Value}
    (u19a : PySem.W.nsIn K mainGlobals "InvalidMoment" = some (some (.ref C19)))
    (u19b : K.lookup C19 = some (excClassObj nm19 qn19 C19 N19 bs19 (above E) true sn19 sub19 ab19 col19 dd19 p19 q19 r19 s19 t19 "ValueError.__new__"))
    (u19c : PySem.W.findIn K (.ref C19) "__setattr__" = some (some (.builtin "object.__setattr__"))) (u19d : PySem.W.findIn K (.ref C19) "__getattribute__" = some (some (.builtin "BaseException.__getattribute__"))) (u19e : PySem.W.findIn K (.ref C19) "__getattr__" = some none)
    (u19f : PySem.W.findIn K (.ref C19) "__init__" = some (some (.ref g19))) (u19g : PySem.W.typeIn K (.ref g19) = some (.type "function"))
    (u19h : K.lookup g19 = some ⟨go19, gd19, .func (PySem.W.fnOf "__init__" "InvalidMoment.__init__" (defArgs iInvalidMoment) (defBody iInvalidMoment) (defScope iInvalidMoment) .none gk19 gv19 gp19 ga19 gc19 gt19), gs19⟩)
    (u19i : PySem.W.codeIn K gc19 "InvalidMoment.__init__" = true) (u19j : PySem.W.keepIn K (.ref g19) = true) (u19k : PySem.W.keepIn K (.ref C19) = true) (u19l : PySem.W.typeIn K (.ref C19) = some (.type "type")) (u19m : PySem.W.hasDictIn K C19 = true)
    (u19n : PySem.W.findIn K (.ref C19) "__class__" = some (some (.builtin "object.__class__")))
    (u19o : PySem.W.findIn K (.ref C19) "position" = some none)
    {C20 g20 N20 : Addr} {nm20 qn20 : Str} {bs20 sub20 : List Value} {sn20 : List Str} {ab20 : Bool} {col20 : Option Bool} {dd20 : Option Addr} {p20 q20 r20 s20 t20 : Option Value} {gd20 ga20 : Option Addr} {gs20 : Array (Option Value)} {go20 gk20 gv20 gp20 gc20 gt20 : Value}
    (u20a : PySem.W.nsIn K mainGlobals "InvalidHouse" = some (some (.ref C20)))
    (u20b : K.lookup C20 = some (excClassObj nm20 qn20 C20 N20 bs20 (above E) true sn20 sub20 ab20 col20 dd20 p20 q20 r20 s20 t20 "ValueError.__new__"))
    (u20c : PySem.W.findIn K (.ref C20) "__setattr__" = some (some (.builtin "object.__setattr__"))) (u20d : PySem.W.findIn K (.ref C20) "__getattribute__" = some (some (.builtin "BaseException.__getattribute__"))) (u20e : PySem.W.findIn K (.ref C20) "__getattr__" = some none)
    (u20f : PySem.W.findIn K (.ref C20) "__init__" = some (some (.ref g20))) (u20g : PySem.W.typeIn K (.ref g20) = some (.type "function"))
    (u20h : K.lookup g20 = some ⟨go20, gd20, .func (PySem.W.fnOf "__init__" "InvalidHouse.__init__" (defArgs iInvalidHouse) (defBody iInvalidHouse) (defScope iInvalidHouse) .none gk20 gv20 gp20 ga20 gc20 gt20), gs20⟩)
    (u20i : PySem.W.codeIn K gc20 "InvalidHouse.__init__" = true) (u20j : PySem.W.keepIn K (.ref g20) = true) (u20k : PySem.W.keepIn K (.ref C20) = true) (u20l : PySem.W.typeIn K (.ref C20) = some (.type "type")) (u20m : PySem.W.hasDictIn K C20 = true)
    (u20n : PySem.W.findIn K (.ref C20) "__class__" = some (some (.builtin "object.__class__")))
    {C21 g21 N21 : Addr} {nm21 qn21 : Str} {bs21 sub21 : List Value} {sn21 : List Str} {ab21 : Bool} {col21 : Option Bool} {dd21 : Option Addr} {p21 q21 r21 s21 t21 : Option Value} {gd21 ga21 : Option Addr} {gs21 : Array (Option Value)} {go21 gk21 gv21 gp21 gc21 gt21 : Value}
    (u21a : PySem.W.nsIn K mainGlobals "InvalidPlacement" = some (some (.ref C21)))
    (u21b : K.lookup C21 = some (excClassObj nm21 qn21 C21 N21 bs21 (above E) true sn21 sub21 ab21 col21 dd21 p21 q21 r21 s21 t21 "ValueError.__new__"))
    (u21c : PySem.W.findIn K (.ref C21) "__setattr__" = some (some (.builtin "object.__setattr__"))) (u21d : PySem.W.findIn K (.ref C21) "__getattribute__" = some (some (.builtin "BaseException.__getattribute__"))) (u21e : PySem.W.findIn K (.ref C21) "__getattr__" = some none)
    (u21f : PySem.W.findIn K (.ref C21) "__init__" = some (some (.ref g21))) (u21g : PySem.W.typeIn K (.ref g21) = some (.type "function"))
    (u21h : K.lookup g21 = some ⟨go21, gd21, .func (PySem.W.fnOf "__init__" "InvalidPlacement.__init__" (defArgs iInvalidPlacement) (defBody iInvalidPlacement) (defScope iInvalidPlacement) .none gk21 gv21 gp21 ga21 gc21 gt21), gs21⟩)
    (u21i : PySem.W.codeIn K gc21 "InvalidPlacement.__init__" = true) (u21j : PySem.W.keepIn K (.ref g21) = true) (u21k : PySem.W.keepIn K (.ref C21) = true) (u21l : PySem.W.typeIn K (.ref C21) = some (.type "type")) (u21m : PySem.W.hasDictIn K C21 = true)
    (u21n : PySem.W.findIn K (.ref C21) "__class__" = some (some (.builtin "object.__class__")))
    {C22 g22 N22 : Addr} {nm22 qn22 : Str} {bs22 sub22 : List Value} {sn22 : List Str} {ab22 : Bool} {col22 : Option Bool} {dd22 : Option Addr} {p22 q22 r22 s22 t22 : Option Value} {gd22 ga22 : Option Addr} {gs22 : Array (Option Value)} {go22 gk22 gv22 gp22 gc22 gt22 : Value}
    (u22a : PySem.W.nsIn K mainGlobals "InvalidText" = some (some (.ref C22)))
    (u22b : K.lookup C22 = some (excClassObj nm22 qn22 C22 N22 bs22 (above E) true sn22 sub22 ab22 col22 dd22 p22 q22 r22 s22 t22 "ValueError.__new__"))
    (u22c : PySem.W.findIn K (.ref C22) "__setattr__" = some (some (.builtin "object.__setattr__"))) (u22d : PySem.W.findIn K (.ref C22) "__getattribute__" = some (some (.builtin "BaseException.__getattribute__"))) (u22e : PySem.W.findIn K (.ref C22) "__getattr__" = some none)
    (u22f : PySem.W.findIn K (.ref C22) "__init__" = some (some (.ref g22))) (u22g : PySem.W.typeIn K (.ref g22) = some (.type "function"))
    (u22h : K.lookup g22 = some ⟨go22, gd22, .func (PySem.W.fnOf "__init__" "InvalidText.__init__" (defArgs iInvalidText) (defBody iInvalidText) (defScope iInvalidText) .none gk22 gv22 gp22 ga22 gc22 gt22), gs22⟩)
    (u22i : PySem.W.codeIn K gc22 "InvalidText.__init__" = true) (u22j : PySem.W.keepIn K (.ref g22) = true) (u22k : PySem.W.keepIn K (.ref C22) = true) (u22l : PySem.W.typeIn K (.ref C22) = some (.type "type")) (u22m : PySem.W.hasDictIn K C22 = true)
    (u22n : PySem.W.findIn K (.ref C22) "__class__" = some (some (.builtin "object.__class__")))
    (u22o : PySem.W.findIn K (.ref C22) "position" = some none)
    (nd : [E, C1, C2, C3, C4, C5, C6, C7, C8, C9, C10, C11, C12, C13, C14, C15, C16, C17, C18, C19, C20, C21, C22].Nodup)
    (z0 : PySem.W.nsIn K mainGlobals "abs" = some none) (z1 : PySem.W.nsIn K mainGlobals "len" = some none) (z2 : PySem.W.nsIn K mainGlobals "list" = some none) (z3 : PySem.W.nsIn K mainGlobals "range" = some none) (z4 : PySem.W.nsIn K mainGlobals "min" = some none) (z5 : PySem.W.nsIn K mainGlobals "max" = some none) (z6 : PySem.W.nsIn K mainGlobals "tuple" = some none) (z7 : PySem.W.nsIn K mainGlobals "sorted" = some none) (z8 : PySem.W.nsIn K mainGlobals "isinstance" = some none) (z9 : PySem.W.nsIn K mainGlobals "all" = some none) (z10 : PySem.W.nsIn K mainGlobals "zip" = some none) (z11 : PySem.W.nsIn K mainGlobals "bool" = some none) (z12 : PySem.W.nsIn K mainGlobals "int" = some none) (z13 : PySem.W.nsIn K mainGlobals "str" = some none) (z14 : PySem.W.nsIn K mainGlobals "repr" = some none) (z15 : PySem.W.nsIn K mainGlobals "ValueError" = some none) : LawAt P w K mg 4 fa (spLaw K) := by
  have e := hfa.symm.trans (PySem.W.mg_of X G a6)
  cases e
  have T : Nm mg := ⟨PySem.W.mg_none_of X G z0, PySem.W.mg_none_of X G z1, PySem.W.mg_none_of X G z2, PySem.W.mg_none_of X G z3, PySem.W.mg_none_of X G z4, PySem.W.mg_none_of X G z5, PySem.W.mg_none_of X G z6, PySem.W.mg_none_of X G z7, PySem.W.mg_none_of X G z8, PySem.W.mg_none_of X G z9, PySem.W.mg_none_of X G z10, PySem.W.mg_none_of X G z11, PySem.W.mg_none_of X G z12, PySem.W.mg_none_of X G z13, PySem.W.mg_none_of X G z14⟩
  have F1 := fun_mk (st := sStream) l1 c1 k1
  have b1 := F1.binds (ps := ["_law_script"]) fun _ _ _ _ _ _ us hl => match us, hl with | [_], _ => rfl
  have F2 := fun_mk (st := sDraw) l2 c2 k2
  have b2 := F2.binds (ps := ["_law_stream_here", "_law_many"]) fun _ _ _ _ _ _ us hl => match us, hl with | [_, _], _ => rfl
  have F3 := fun_mk (st := sRand) l3 c3 k3
  have b3 := F3.binds (ps := ["_law_stream_here"]) fun _ _ _ _ _ _ us hl => match us, hl with | [_], _ => rfl
  have F4 := fun_mk (st := sCount) l4 c4 k4
  have b4 := F4.binds (ps := ["_law_e"]) fun _ _ _ _ _ _ us hl => match us, hl with | [_], _ => rfl
  have F5 := fun_mk (st := sHolds) l5 c5 k5
  have b5 := F5.binds (ps := ["_law_value"]) fun _ _ _ _ _ _ us hl => match us, hl with | [_], _ => rfl
  have F6 := fun_mk (st := sLaw) l6 c6 k6
  obtain ⟨h1, v1⟩ := cf_mk (x := "UnknownPerson") (q := "UnknownPerson.__init__") (st := iUnknownPerson) (ps := ["self", "name"]) X G (fun fd F => F.binds fun _ _ _ _ _ _ us hl => match us, hl with | [_, _], _ => rfl) u1a u1b u1c u1d u1e u1f u1g u1h u1i u1j u1k u1l u1m u1n spc tkc
  obtain ⟨h2, v2⟩ := cf_mk (x := "InvalidRoom") (q := "InvalidRoom.__init__") (st := iInvalidRoom) (ps := ["self", "room"]) X G (fun fd F => F.binds fun _ _ _ _ _ _ us hl => match us, hl with | [_, _], _ => rfl) u2a u2b u2c u2d u2e u2f u2g u2h u2i u2j u2k u2l u2m u2n spc tkc
  obtain ⟨h3, v3⟩ := cf_mk (x := "NotAdjacent") (q := "NotAdjacent.__init__") (st := iNotAdjacent) (ps := ["self", "room"]) X G (fun fd F => F.binds fun _ _ _ _ _ _ us hl => match us, hl with | [_, _], _ => rfl) u3a u3b u3c u3d u3e u3f u3g u3h u3i u3j u3k u3l u3m u3n spc tkc
  obtain ⟨h4, v4⟩ := cf_mk (x := "EmptyRoom") (q := "EmptyRoom.__init__") (st := iEmptyRoom) (ps := ["self", "room"]) X G (fun fd F => F.binds fun _ _ _ _ _ _ us hl => match us, hl with | [_, _], _ => rfl) u4a u4b u4c u4d u4e u4f u4g u4h u4i u4j u4k u4l u4m u4n spc tkc
  obtain ⟨h5, v5⟩ := cf_mk (x := "InvalidMoves") (q := "InvalidMoves.__init__") (st := iInvalidMoves) (ps := ["self", "position"]) X G (fun fd F => F.binds fun _ _ _ _ _ _ us hl => match us, hl with | [_, _], _ => rfl) u5a u5b u5c u5d u5e u5f u5g u5h u5i u5j u5k u5l u5m u5n spc tkc
  obtain ⟨h6, v6⟩ := cf_mk (x := "OtherRegion") (q := "OtherRegion.__init__") (st := iOtherRegion) (ps := ["self", "room"]) X G (fun fd F => F.binds fun _ _ _ _ _ _ us hl => match us, hl with | [_, _], _ => rfl) u6a u6b u6c u6d u6e u6f u6g u6h u6i u6j u6k u6l u6m u6n spc tkc
  obtain ⟨h7, v7⟩ := cf_mk (x := "TightRegion") (q := "TightRegion.__init__") (st := iTightRegion) (ps := ["self", "room"]) X G (fun fd F => F.binds fun _ _ _ _ _ _ us hl => match us, hl with | [_, _], _ => rfl) u7a u7b u7c u7d u7e u7f u7g u7h u7i u7j u7k u7l u7m u7n spc tkc
  obtain ⟨h8, v8⟩ := cf_mk (x := "Blocked") (q := "Blocked.__init__") (st := iBlocked) (ps := ["self", "block"]) X G (fun fd F => F.binds fun _ _ _ _ _ _ us hl => match us, hl with | [_, _], _ => rfl) u8a u8b u8c u8d u8e u8f u8g u8h u8i u8j u8k u8l u8m u8n spc tkc
  obtain ⟨h9, v9⟩ := cf_mk (x := "InvalidName") (q := "InvalidName.__init__") (st := iInvalidName) (ps := ["self", "name"]) X G (fun fd F => F.binds fun _ _ _ _ _ _ us hl => match us, hl with | [_, _], _ => rfl) u9a u9b u9c u9d u9e u9f u9g u9h u9i u9j u9k u9l u9m u9n spc tkc
  obtain ⟨h10, v10⟩ := cf_mk (x := "DuplicateName") (q := "DuplicateName.__init__") (st := iDuplicateName) (ps := ["self", "name"]) X G (fun fd F => F.binds fun _ _ _ _ _ _ us hl => match us, hl with | [_, _], _ => rfl) u10a u10b u10c u10d u10e u10f u10g u10h u10i u10j u10k u10l u10m u10n spc tkc
  obtain ⟨h11, v11⟩ := cf_mk (x := "LimitReached") (q := "LimitReached.__init__") (st := iLimitReached) (ps := ["self", "limit"]) X G (fun fd F => F.binds fun _ _ _ _ _ _ us hl => match us, hl with | [_, _], _ => rfl) u11a u11b u11c u11d u11e u11f u11g u11h u11i u11j u11k u11l u11m u11n spc tkc
  obtain ⟨h12, v12⟩ := cf_mk (x := "AlreadyAdjacent") (q := "AlreadyAdjacent.__init__") (st := iAlreadyAdjacent) (ps := ["self", "room"]) X G (fun fd F => F.binds fun _ _ _ _ _ _ us hl => match us, hl with | [_, _], _ => rfl) u12a u12b u12c u12d u12e u12f u12g u12h u12i u12j u12k u12l u12m u12n spc tkc
  obtain ⟨h13, v13⟩ := cf_mk (x := "WouldFormCycle") (q := "WouldFormCycle.__init__") (st := iWouldFormCycle) (ps := ["self", "room"]) X G (fun fd F => F.binds fun _ _ _ _ _ _ us hl => match us, hl with | [_, _], _ => rfl) u13a u13b u13c u13d u13e u13f u13g u13h u13i u13j u13k u13l u13m u13n spc tkc
  obtain ⟨h14, v14⟩ := cf_mk (x := "NothingToUndo") (q := "NothingToUndo.__init__") (st := iNothingToUndo) (ps := ["self"]) X G (fun fd F => F.binds fun _ _ _ _ _ _ us hl => match us, hl with | [_], _ => rfl) u14a u14b u14c u14d u14e u14f u14g u14h u14i u14j u14k u14l u14m u14n spc tkc
  obtain ⟨h15, v15⟩ := cf_mk (x := "HistoryFull") (q := "HistoryFull.__init__") (st := iHistoryFull) (ps := ["self"]) X G (fun fd F => F.binds fun _ _ _ _ _ _ us hl => match us, hl with | [_], _ => rfl) u15a u15b u15c u15d u15e u15f u15g u15h u15i u15j u15k u15l u15m u15n spc tkc
  obtain ⟨h16, v16⟩ := cf_mk (x := "SessionBusy") (q := "SessionBusy.__init__") (st := iSessionBusy) (ps := ["self"]) X G (fun fd F => F.binds fun _ _ _ _ _ _ us hl => match us, hl with | [_], _ => rfl) u16a u16b u16c u16d u16e u16f u16g u16h u16i u16j u16k u16l u16m u16n spc tkc
  obtain ⟨h17, v17⟩ := cf_mk (x := "InvalidActions") (q := "InvalidActions.__init__") (st := iInvalidActions) (ps := ["self"]) X G (fun fd F => F.binds fun _ _ _ _ _ _ us hl => match us, hl with | [_], _ => rfl) u17a u17b u17c u17d u17e u17f u17g u17h u17i u17j u17k u17l u17m u17n spc tkc
  obtain ⟨h18, v18⟩ := cf_mk (x := "BatchFailed") (q := "BatchFailed.__init__") (st := iBatchFailed) (ps := ["self", "position"]) X G (fun fd F => F.binds fun _ _ _ _ _ _ us hl => match us, hl with | [_, _], _ => rfl) u18a u18b u18c u18d u18e u18f u18g u18h u18i u18j u18k u18l u18m u18n spc tkc
  obtain ⟨h19, v19⟩ := cf_mk (x := "InvalidMoment") (q := "InvalidMoment.__init__") (st := iInvalidMoment) (ps := ["self", "position"]) X G (fun fd F => F.binds fun _ _ _ _ _ _ us hl => match us, hl with | [_, _], _ => rfl) u19a u19b u19c u19d u19e u19f u19g u19h u19i u19j u19k u19l u19m u19n spc tkc
  obtain ⟨h20, v20⟩ := cf_mk (x := "InvalidHouse") (q := "InvalidHouse.__init__") (st := iInvalidHouse) (ps := ["self"]) X G (fun fd F => F.binds fun _ _ _ _ _ _ us hl => match us, hl with | [_], _ => rfl) u20a u20b u20c u20d u20e u20f u20g u20h u20i u20j u20k u20l u20m u20n spc tkc
  obtain ⟨h21, v21⟩ := cf_mk (x := "InvalidPlacement") (q := "InvalidPlacement.__init__") (st := iInvalidPlacement) (ps := ["self"]) X G (fun fd F => F.binds fun _ _ _ _ _ _ us hl => match us, hl with | [_], _ => rfl) u21a u21b u21c u21d u21e u21f u21g u21h u21i u21j u21k u21l u21m u21n spc tkc
  obtain ⟨h22, v22⟩ := cf_mk (x := "InvalidText") (q := "InvalidText.__init__") (st := iInvalidText) (ps := ["self", "position"]) X G (fun fd F => F.binds fun _ _ _ _ _ _ us hl => match us, hl with | [_, _], _ => rfl) u22a u22b u22c u22d u22e u22f u22g u22h u22i u22j u22k u22l u22m u22n spc tkc
  have R : Er K mg E C1 C2 C3 C4 C5 C6 C7 C8 C9 C10 C11 C12 C13 C14 C15 C16 C17 C18 C19 C20 C21 C22 g1 g2 g3 g4 g5 g6 g7 g8 g9 g10 g11 g12 g13 g14 g15 g16 g17 g18 g19 g20 g21 g22 h1 h2 h3 h4 h5 h6 h7 h8 h9 h10 h11 h12 h13 h14 h15 h16 h17 h18 h19 h20 h21 h22 := { gE := PySem.W.mg_of X G aE, iE := iE, tE := tE, nd := nd, ve := PySem.W.mg_none_of X G z15, cUnknownPerson := v1, nUnknownPerson := u1o, cInvalidRoom := v2, nInvalidRoom := u2o, cNotAdjacent := v3, nNotAdjacent := u3o, cEmptyRoom := v4, nEmptyRoom := u4o, cInvalidMoves := v5, nInvalidMoves := u5o, cOtherRegion := v6, nOtherRegion := u6o, cTightRegion := v7, nTightRegion := u7o, cBlocked := v8, nBlocked := u8o, cInvalidName := v9, nInvalidName := u9o, cDuplicateName := v10, nDuplicateName := u10o, cLimitReached := v11, nLimitReached := u11o, cAlreadyAdjacent := v12, nAlreadyAdjacent := u12o, cWouldFormCycle := v13, nWouldFormCycle := u13o, cNothingToUndo := v14, cHistoryFull := v15, cSessionBusy := v16, cInvalidActions := v17, cBatchFailed := v18, nBatchFailed := u18o, cInvalidMoment := v19, nInvalidMoment := u19o, cInvalidHouse := v20, cInvalidPlacement := v21, cInvalidText := v22, nInvalidText := u22o }
  refine ⟨_, fun s v => ?_, fun base _ _ => ok_law F6 T R ⟨F1, b1, PySem.W.mg_of X G a1⟩ ⟨F2, b2, PySem.W.mg_of X G a2⟩ ⟨F3, b3, PySem.W.mg_of X G a3⟩ ⟨F4, b4, PySem.W.mg_of X G a4⟩ ⟨F5, b5, PySem.W.mg_of X G a5⟩⟩
  exact .of_eq rfl
theorem tells : Tells spLaw := fun K H a ns hl hS => ⟨a, ns, rfl, hS, hl, fun _ => rfl⟩
end Fw

open PySem PySem.W PyProof.Rows in
set_option maxRecDepth 100000 in
set_option maxHeartbeats 0 in
theorem PySem.Challenge.cw_fromwithin_k80_errors_constructed_holds : PySem.Challenge.rw_fromwithin_k80_errors_constructed.Holds := by
  w_on; o_law; k_head; (case hw => w_witness2)
  k_fill
  refine Fw.walkG (l := PySem.Challenge.rw_fromwithin_k80_errors_constructed) (k := 4) Fw.tells rfl rfl ⟨rfl, by decide, by decide⟩ (fun w h Y => PySem.W.kIn_of Y) ?F
  case F =>
    intro w mg fa h KX G hmg
    refine' Fw.all_mk KX G hmg ?a1 ?l1 ?c1 ?k1 ?a2 ?l2 ?c2 ?k2 ?a3 ?l3 ?c3 ?k3 ?a4 ?l4 ?c4 ?k4 ?a5 ?l5 ?c5 ?k5 ?a6 ?l6 ?c6 ?k6 ?aE ?iE ?tE ?spc ?tkc ?u1a ?u1b ?u1c ?u1d ?u1e ?u1f ?u1g ?u1h ?u1i ?u1j ?u1k ?u1l ?u1m ?u1n ?u1o ?u2a ?u2b ?u2c ?u2d ?u2e ?u2f ?u2g ?u2h ?u2i ?u2j ?u2k ?u2l ?u2m ?u2n ?u2o ?u3a ?u3b ?u3c ?u3d ?u3e ?u3f ?u3g ?u3h ?u3i ?u3j ?u3k ?u3l ?u3m ?u3n ?u3o ?u4a ?u4b ?u4c ?u4d ?u4e ?u4f ?u4g ?u4h ?u4i ?u4j ?u4k ?u4l ?u4m ?u4n ?u4o ?u5a ?u5b ?u5c ?u5d ?u5e ?u5f ?u5g ?u5h ?u5i ?u5j ?u5k ?u5l ?u5m ?u5n ?u5o ?u6a ?u6b ?u6c ?u6d ?u6e ?u6f ?u6g ?u6h ?u6i ?u6j ?u6k ?u6l ?u6m ?u6n ?u6o ?u7a ?u7b ?u7c ?u7d ?u7e ?u7f ?u7g ?u7h ?u7i ?u7j ?u7k ?u7l ?u7m ?u7n ?u7o ?u8a ?u8b ?u8c ?u8d ?u8e ?u8f ?u8g ?u8h ?u8i ?u8j ?u8k ?u8l ?u8m ?u8n ?u8o ?u9a ?u9b ?u9c ?u9d ?u9e ?u9f ?u9g ?u9h ?u9i ?u9j ?u9k ?u9l ?u9m ?u9n ?u9o ?u10a ?u10b ?u10c ?u10d ?u10e ?u10f ?u10g ?u10h ?u10i ?u10j ?u10k ?u10l ?u10m ?u10n ?u10o ?u11a ?u11b ?u11c ?u11d ?u11e ?u11f ?u11g ?u11h ?u11i ?u11j ?u11k ?u11l ?u11m ?u11n ?u11o ?u12a ?u12b ?u12c ?u12d ?u12e ?u12f ?u12g ?u12h ?u12i ?u12j ?u12k ?u12l ?u12m ?u12n ?u12o ?u13a ?u13b ?u13c ?u13d ?u13e ?u13f ?u13g ?u13h ?u13i ?u13j ?u13k ?u13l ?u13m ?u13n ?u13o ?u14a ?u14b ?u14c ?u14d ?u14e ?u14f ?u14g ?u14h ?u14i ?u14j ?u14k ?u14l ?u14m ?u14n ?u15a ?u15b ?u15c ?u15d ?u15e ?u15f ?u15g ?u15h ?u15i ?u15j ?u15k ?u15l ?u15m ?u15n ?u16a ?u16b ?u16c ?u16d ?u16e ?u16f ?u16g ?u16h ?u16i ?u16j ?u16k ?u16l ?u16m ?u16n ?u17a ?u17b ?u17c ?u17d ?u17e ?u17f ?u17g ?u17h ?u17i ?u17j ?u17k ?u17l ?u17m ?u17n ?u18a ?u18b ?u18c ?u18d ?u18e ?u18f ?u18g ?u18h ?u18i ?u18j ?u18k ?u18l ?u18m ?u18n ?u18o ?u19a ?u19b ?u19c ?u19d ?u19e ?u19f ?u19g ?u19h ?u19i ?u19j ?u19k ?u19l ?u19m ?u19n ?u19o ?u20a ?u20b ?u20c ?u20d ?u20e ?u20f ?u20g ?u20h ?u20i ?u20j ?u20k ?u20l ?u20m ?u20n ?u21a ?u21b ?u21c ?u21d ?u21e ?u21f ?u21g ?u21h ?u21i ?u21j ?u21k ?u21l ?u21m ?u21n ?u22a ?u22b ?u22c ?u22d ?u22e ?u22f ?u22g ?u22h ?u22i ?u22j ?u22k ?u22l ?u22m ?u22n ?u22o ?nd ?z0 ?z1 ?z2 ?z3 ?z4 ?z5 ?z6 ?z7 ?z8 ?z9 ?z10 ?z11 ?z12 ?z13 ?z14 ?z15
    (case a1 => k_is)
    (case l1 => k_is)
    (case c1 => k_is)
    (case k1 => k_is)
    (case a2 => k_is)
    (case l2 => k_is)
    (case c2 => k_is)
    (case k2 => k_is)
    (case a3 => k_is)
    (case l3 => k_is)
    (case c3 => k_is)
    (case k3 => k_is)
    (case a4 => k_is)
    (case l4 => k_is)
    (case c4 => k_is)
    (case k4 => k_is)
    (case a5 => k_is)
    (case l5 => k_is)
    (case c5 => k_is)
    (case k5 => k_is)
    (case a6 => k_is)
    (case l6 => k_is)
    (case c6 => k_is)
    (case k6 => k_is)
    (case aE => k_is)
    (case iE => k_is)
    (case tE => k_is)
    (case spc => k_is)
    (case tkc => k_is)
    (case u1a => k_is)
    (case u1b => k_is)
    (case u1c => k_is)
    (case u1d => k_is)
    (case u1e => k_is)
    (case u1f => k_is)
    (case u1g => k_is)
    (case u1h => k_is)
    (case u1i => k_is)
    (case u1j => k_is)
    (case u1k => k_is)
    (case u1l => k_is)
    (case u1m => k_is)
    (case u1n => k_is)
    (case u1o => k_is)
    (case u2a => k_is)
    (case u2b => k_is)
    (case u2c => k_is)
    (case u2d => k_is)
    (case u2e => k_is)
    (case u2f => k_is)
    (case u2g => k_is)
    (case u2h => k_is)
    (case u2i => k_is)
    (case u2j => k_is)
    (case u2k => k_is)
    (case u2l => k_is)
    (case u2m => k_is)
    (case u2n => k_is)
    (case u2o => k_is)
    (case u3a => k_is)
    (case u3b => k_is)
    (case u3c => k_is)
    (case u3d => k_is)
    (case u3e => k_is)
    (case u3f => k_is)
    (case u3g => k_is)
    (case u3h => k_is)
    (case u3i => k_is)
    (case u3j => k_is)
    (case u3k => k_is)
    (case u3l => k_is)
    (case u3m => k_is)
    (case u3n => k_is)
    (case u3o => k_is)
    (case u4a => k_is)
    (case u4b => k_is)
    (case u4c => k_is)
    (case u4d => k_is)
    (case u4e => k_is)
    (case u4f => k_is)
    (case u4g => k_is)
    (case u4h => k_is)
    (case u4i => k_is)
    (case u4j => k_is)
    (case u4k => k_is)
    (case u4l => k_is)
    (case u4m => k_is)
    (case u4n => k_is)
    (case u4o => k_is)
    (case u5a => k_is)
    (case u5b => k_is)
    (case u5c => k_is)
    (case u5d => k_is)
    (case u5e => k_is)
    (case u5f => k_is)
    (case u5g => k_is)
    (case u5h => k_is)
    (case u5i => k_is)
    (case u5j => k_is)
    (case u5k => k_is)
    (case u5l => k_is)
    (case u5m => k_is)
    (case u5n => k_is)
    (case u5o => k_is)
    (case u6a => k_is)
    (case u6b => k_is)
    (case u6c => k_is)
    (case u6d => k_is)
    (case u6e => k_is)
    (case u6f => k_is)
    (case u6g => k_is)
    (case u6h => k_is)
    (case u6i => k_is)
    (case u6j => k_is)
    (case u6k => k_is)
    (case u6l => k_is)
    (case u6m => k_is)
    (case u6n => k_is)
    (case u6o => k_is)
    (case u7a => k_is)
    (case u7b => k_is)
    (case u7c => k_is)
    (case u7d => k_is)
    (case u7e => k_is)
    (case u7f => k_is)
    (case u7g => k_is)
    (case u7h => k_is)
    (case u7i => k_is)
    (case u7j => k_is)
    (case u7k => k_is)
    (case u7l => k_is)
    (case u7m => k_is)
    (case u7n => k_is)
    (case u7o => k_is)
    (case u8a => k_is)
    (case u8b => k_is)
    (case u8c => k_is)
    (case u8d => k_is)
    (case u8e => k_is)
    (case u8f => k_is)
    (case u8g => k_is)
    (case u8h => k_is)
    (case u8i => k_is)
    (case u8j => k_is)
    (case u8k => k_is)
    (case u8l => k_is)
    (case u8m => k_is)
    (case u8n => k_is)
    (case u8o => k_is)
    (case u9a => k_is)
    (case u9b => k_is)
    (case u9c => k_is)
    (case u9d => k_is)
    (case u9e => k_is)
    (case u9f => k_is)
    (case u9g => k_is)
    (case u9h => k_is)
    (case u9i => k_is)
    (case u9j => k_is)
    (case u9k => k_is)
    (case u9l => k_is)
    (case u9m => k_is)
    (case u9n => k_is)
    (case u9o => k_is)
    (case u10a => k_is)
    (case u10b => k_is)
    (case u10c => k_is)
    (case u10d => k_is)
    (case u10e => k_is)
    (case u10f => k_is)
    (case u10g => k_is)
    (case u10h => k_is)
    (case u10i => k_is)
    (case u10j => k_is)
    (case u10k => k_is)
    (case u10l => k_is)
    (case u10m => k_is)
    (case u10n => k_is)
    (case u10o => k_is)
    (case u11a => k_is)
    (case u11b => k_is)
    (case u11c => k_is)
    (case u11d => k_is)
    (case u11e => k_is)
    (case u11f => k_is)
    (case u11g => k_is)
    (case u11h => k_is)
    (case u11i => k_is)
    (case u11j => k_is)
    (case u11k => k_is)
    (case u11l => k_is)
    (case u11m => k_is)
    (case u11n => k_is)
    (case u11o => k_is)
    (case u12a => k_is)
    (case u12b => k_is)
    (case u12c => k_is)
    (case u12d => k_is)
    (case u12e => k_is)
    (case u12f => k_is)
    (case u12g => k_is)
    (case u12h => k_is)
    (case u12i => k_is)
    (case u12j => k_is)
    (case u12k => k_is)
    (case u12l => k_is)
    (case u12m => k_is)
    (case u12n => k_is)
    (case u12o => k_is)
    (case u13a => k_is)
    (case u13b => k_is)
    (case u13c => k_is)
    (case u13d => k_is)
    (case u13e => k_is)
    (case u13f => k_is)
    (case u13g => k_is)
    (case u13h => k_is)
    (case u13i => k_is)
    (case u13j => k_is)
    (case u13k => k_is)
    (case u13l => k_is)
    (case u13m => k_is)
    (case u13n => k_is)
    (case u13o => k_is)
    (case u14a => k_is)
    (case u14b => k_is)
    (case u14c => k_is)
    (case u14d => k_is)
    (case u14e => k_is)
    (case u14f => k_is)
    (case u14g => k_is)
    (case u14h => k_is)
    (case u14i => k_is)
    (case u14j => k_is)
    (case u14k => k_is)
    (case u14l => k_is)
    (case u14m => k_is)
    (case u14n => k_is)
    (case u15a => k_is)
    (case u15b => k_is)
    (case u15c => k_is)
    (case u15d => k_is)
    (case u15e => k_is)
    (case u15f => k_is)
    (case u15g => k_is)
    (case u15h => k_is)
    (case u15i => k_is)
    (case u15j => k_is)
    (case u15k => k_is)
    (case u15l => k_is)
    (case u15m => k_is)
    (case u15n => k_is)
    (case u16a => k_is)
    (case u16b => k_is)
    (case u16c => k_is)
    (case u16d => k_is)
    (case u16e => k_is)
    (case u16f => k_is)
    (case u16g => k_is)
    (case u16h => k_is)
    (case u16i => k_is)
    (case u16j => k_is)
    (case u16k => k_is)
    (case u16l => k_is)
    (case u16m => k_is)
    (case u16n => k_is)
    (case u17a => k_is)
    (case u17b => k_is)
    (case u17c => k_is)
    (case u17d => k_is)
    (case u17e => k_is)
    (case u17f => k_is)
    (case u17g => k_is)
    (case u17h => k_is)
    (case u17i => k_is)
    (case u17j => k_is)
    (case u17k => k_is)
    (case u17l => k_is)
    (case u17m => k_is)
    (case u17n => k_is)
    (case u18a => k_is)
    (case u18b => k_is)
    (case u18c => k_is)
    (case u18d => k_is)
    (case u18e => k_is)
    (case u18f => k_is)
    (case u18g => k_is)
    (case u18h => k_is)
    (case u18i => k_is)
    (case u18j => k_is)
    (case u18k => k_is)
    (case u18l => k_is)
    (case u18m => k_is)
    (case u18n => k_is)
    (case u18o => k_is)
    (case u19a => k_is)
    (case u19b => k_is)
    (case u19c => k_is)
    (case u19d => k_is)
    (case u19e => k_is)
    (case u19f => k_is)
    (case u19g => k_is)
    (case u19h => k_is)
    (case u19i => k_is)
    (case u19j => k_is)
    (case u19k => k_is)
    (case u19l => k_is)
    (case u19m => k_is)
    (case u19n => k_is)
    (case u19o => k_is)
    (case u20a => k_is)
    (case u20b => k_is)
    (case u20c => k_is)
    (case u20d => k_is)
    (case u20e => k_is)
    (case u20f => k_is)
    (case u20g => k_is)
    (case u20h => k_is)
    (case u20i => k_is)
    (case u20j => k_is)
    (case u20k => k_is)
    (case u20l => k_is)
    (case u20m => k_is)
    (case u20n => k_is)
    (case u21a => k_is)
    (case u21b => k_is)
    (case u21c => k_is)
    (case u21d => k_is)
    (case u21e => k_is)
    (case u21f => k_is)
    (case u21g => k_is)
    (case u21h => k_is)
    (case u21i => k_is)
    (case u21j => k_is)
    (case u21k => k_is)
    (case u21l => k_is)
    (case u21m => k_is)
    (case u21n => k_is)
    (case u22a => k_is)
    (case u22b => k_is)
    (case u22c => k_is)
    (case u22d => k_is)
    (case u22e => k_is)
    (case u22f => k_is)
    (case u22g => k_is)
    (case u22h => k_is)
    (case u22i => k_is)
    (case u22j => k_is)
    (case u22k => k_is)
    (case u22l => k_is)
    (case u22m => k_is)
    (case u22n => k_is)
    (case u22o => k_is)
    (case nd => decide +kernel)
    (case z0 => k_is)
    (case z1 => k_is)
    (case z2 => k_is)
    (case z3 => k_is)
    (case z4 => k_is)
    (case z5 => k_is)
    (case z6 => k_is)
    (case z7 => k_is)
    (case z8 => k_is)
    (case z9 => k_is)
    (case z10 => k_is)
    (case z11 => k_is)
    (case z12 => k_is)
    (case z13 => k_is)
    (case z14 => k_is)
    (case z15 => k_is)
