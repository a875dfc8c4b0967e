import PyProof.Rows.All
import Wide.All
import OpenK.AllK
import Wide.FinOn
import HandS.ForMost
import HandS.Wide
import HandS.Conv
import HandS.Style
import HandS.Sort
import HandS.SortRule
import HandS.SortInts
import HandS.Deep
import HandS.Text
import HandS.Words
import HandS.IsInst
import HandS.More
import HandS.TupSets
import HandS.Zip
import HandS.Walk
import KE.KDictPairs
import HandS.Small
import HandS.TupAny
import KE.GoesMore
import HandS.ExcInit
import HandS.ExcField
import HandS.SetFor
import KE.KExcIs
import HandS.ExcOwn
import HandS.TryMany
import HandS.WordsExc
import KE.KTryMore
import HandS.ExcCtx
import HandS.HotCalls
import HandS.SuiteRaise
import HandS.RaiseFrom
import HandS.ExcInitHot
import PyProof.EqKinds
import HandS.Dict
import PyProof.Rows.IntBool
import HandS.TryOnly
import PyProof.NeKinds
import PyProof.CollectWalk
import PyProof.TupleOfGen
import PyProof.ZipIter
import KE.KDictZip
import KE.KTurns
import HandS.Iter
import HandS.ExcValue
import PySem.Challenge.RW_fromwithin_k12_reaching_targets_checked
set_option Elab.async false
set_option linter.all false
set_option maxRecDepth 100000
/-! Forests grown room by room: simple ways in them are unique. -/
namespace Fw

def adj (D : List (Int × Int)) (a b : Int) : Prop := (a, b) ∈ D ∨ (b, a) ∈ D

theorem adj_symm {D : List (Int × Int)} {a b : Int} (h : adj D a b) : adj D b a := h.symm

/-- a way without a room twice -/
inductive SP (R : Int → Int → Prop) : Int → Int → List Int → Prop
  | one (a : Int) : SP R a a [a]
  | cons {a c b : Int} {p : List Int} : R a c → SP R c b p → a ∉ p → SP R a b (a :: p)

section
variable {R R' : Int → Int → Prop}
theorem SP.head {a b : Int} {p : List Int} (h : SP R a b p) : a ∈ p := by
  cases h <;> simp
theorem SP.last {a b : Int} {p : List Int} (h : SP R a b p) : b ∈ p := by
  induction h with
  | one a => simp
  | cons _ _ _ ih => exact List.mem_cons_of_mem _ ih
theorem SP.loop {a : Int} {p : List Int} (h : SP R a a p) : p = [a] := by
  cases h with
  | one => rfl
  | cons r q n => exact absurd q.last n
theorem SP.nodup {a b : Int} {p : List Int} (h : SP R a b p) : p.Nodup := by
  induction h with
  | one a => simp
  | cons _ _ n ih => exact List.nodup_cons.mpr ⟨n, ih⟩
theorem SP.snoc {a b c : Int} {p : List Int} (h : SP R a b p) (r : R b c) (n : c ∉ p) : SP R a c (p ++ [c]) := by
  induction h with
  | one a =>
    refine .cons r (.one c) ?_
    intro e
    have e : a = c := List.mem_singleton.mp e
    exact n (by rw [e]; simp)
  | cons r' q n' ih =>
    rename_i a' c' b' p'
    rw [List.mem_cons, not_or] at n
    refine .cons r' (ih r n.2) ?_
    intro e
    rcases List.mem_append.mp e with e | e
    · exact n' e
    · exact n.1 (List.mem_singleton.mp e).symm
theorem SP.map {a b : Int} {p : List Int} (h : SP R a b p) (f : ∀ x y, x ∈ p → y ∈ p → R x y → R' x y) : SP R' a b p := by
  induction h with
  | one a => exact .one a
  | cons r q n ih =>
    exact .cons (f _ _ (List.mem_cons_self ..) (List.mem_cons_of_mem _ q.head) r) (ih fun x y hx hy => f x y (List.mem_cons_of_mem _ hx) (List.mem_cons_of_mem _ hy)) n
/-- what is closed under R and holds the end holds the start, and the other way -/
theorem SP.back {S : Int → Prop} (hs : ∀ x y, R x y → S y → S x) {a b : Int} {p : List Int} (h : SP R a b p) (e : S b) : S a := by
  induction h with
  | one a => exact e
  | cons r _ _ ih => exact hs _ _ r (ih e)
theorem SP.forth {S : Int → Prop} (hs : ∀ x y, R x y → S x → S y) {a b : Int} {p : List Int} (h : SP R a b p) (e : S a) : S b := by
  induction h with
  | one a => exact e
  | cons r _ _ ih => exact ih (hs _ _ r e)
end

def Uniq (R : Int → Int → Prop) : Prop := ∀ a b p q, SP R a b p → SP R a b q → p = q

section
variable {R R' : Int → Int → Prop} {u v : Int}
/-- one more leaf v, on u -/
structure Leaf (R R' : Int → Int → Prop) (u v : Int) : Prop where
  iff : ∀ x y, R' x y ↔ (R x y ∨ (x = u ∧ y = v) ∨ (x = v ∧ y = u))
  no1 : ∀ x, ¬ R v x
  no2 : ∀ x, ¬ R x v
  ne : u ≠ v
theorem Leaf.into (L : Leaf R R' u v) {x : Int} (h : R' x v) : x = u := by
  rcases (L.iff x v).mp h with h | h | h
  · exact absurd h (L.no2 x)
  · exact h.1
  · exact absurd h.2.symm L.ne
theorem Leaf.out (L : Leaf R R' u v) {x : Int} (h : R' v x) : x = u := by
  rcases (L.iff v x).mp h with h | h | h
  · exact absurd h (L.no1 x)
  · exact absurd h.1.symm L.ne
  · exact h.2
theorem Leaf.off (L : Leaf R R' u v) {x y : Int} (hx : x ≠ v) (hy : y ≠ v) (h : R' x y) : R x y := by
  rcases (L.iff x y).mp h with h | h | h
  · exact h
  · exact absurd h.2 hy
  · exact absurd h.1 hx
theorem Leaf.avoid (L : Leaf R R' u v) {a b : Int} {p : List Int} (h : SP R' a b p) (n : v ∉ p) : SP R a b p :=
  h.map fun x y hx hy r => L.off (fun e => n (e ▸ hx)) (fun e => n (e ▸ hy)) r
theorem Leaf.free (L : Leaf R R' u v) {a b : Int} {p : List Int} (h : SP R' a b p) (ha : a ≠ v) (hb : b ≠ v) : v ∉ p := by
  induction h with
  | one a =>
    intro e
    rw [List.mem_singleton] at e
    exact ha e.symm
  | cons r q n ih =>
    rename_i a' c' b' p'
    by_cases hc : c' = v
    · subst hc
      have e := L.into r
      cases q with
      | one => exact absurd rfl hb
      | cons r2 q2 n2 =>
        rename_i c2 p2
        have e2 := L.out r2
        exact absurd (List.mem_cons_of_mem _ (e ▸ e2 ▸ q2.head)) n
    · intro e
      rw [List.mem_cons] at e
      rcases e with e | e
      · exact ha e.symm
      · exact ih hc hb e
theorem Leaf.from (L : Leaf R R' u v) {b : Int} {p : List Int} (h : SP R' v b p) (hb : b ≠ v) : ∃ p', p = v :: p' ∧ SP R u b p' := by
  cases h with
  | one => exact absurd rfl hb
  | cons r q n =>
    rename_i c p'
    have e := L.out r
    subst e
    exact ⟨p', rfl, L.avoid q n⟩
theorem Leaf.to (L : Leaf R R' u v) {a b : Int} {p : List Int} (h : SP R' a b p) : a ≠ v → b = v → ∃ p', p = p' ++ [v] ∧ SP R a u p' := by
  induction h with
  | one a =>
    intro h1 h2
    exact absurd h2 h1
  | cons r q n ih =>
    rename_i a' c' b' p'
    intro h1 h2
    by_cases hc : c' = v
    · subst hc
      subst h2
      have e := L.into r
      subst e
      have e2 := q.loop
      subst e2
      exact ⟨[a'], rfl, .one _⟩
    · obtain ⟨p2, e, q2⟩ := ih hc h2
      refine ⟨a' :: p2, by rw [e]; rfl, .cons (L.off h1 hc r) q2 ?_⟩
      intro m
      exact n (by rw [e]; exact List.mem_append_left _ m)
theorem Leaf.uniq (L : Leaf R R' u v) (U : Uniq R) : Uniq R' := by
  intro a b p q hp hq
  by_cases ha : a = v
  · subst ha
    by_cases hb : b = a
    · subst hb
      rw [hp.loop, hq.loop]
    · obtain ⟨p', e1, s1⟩ := L.from hp hb
      obtain ⟨q', e2, s2⟩ := L.from hq hb
      rw [e1, e2, U _ _ _ _ s1 s2]
  · by_cases hb : b = v
    · obtain ⟨p', e1, s1⟩ := L.to hp ha hb
      obtain ⟨q', e2, s2⟩ := L.to hq ha hb
      rw [e1, e2, U _ _ _ _ s1 s2]
    · exact U _ _ _ _ (L.avoid hp (L.free hp ha hb)) (L.avoid hq (L.free hq ha hb))
end

/-- a forest, room by room: the rooms that stand, and the doors -/
inductive Grown : List Int → List (Int × Int) → Prop
  | nil : Grown [] []
  | room {U : List Int} {E : List (Int × Int)} (v : Int) : Grown U E → v ∉ U → Grown (v :: U) E
  | door {U : List Int} {E : List (Int × Int)} (v u a b : Int) : Grown U E → v ∉ U → u ∈ U → (a = min u v ∧ b = max u v) → Grown (v :: U) ((a, b) :: E)

theorem minmax (u v a b : Int) (h : a = min u v ∧ b = max u v) : (a = u ∧ b = v ∧ u ≤ v) ∨ (a = v ∧ b = u ∧ v ≤ u) := by
  omega

theorem Grown.ends {U : List Int} {E : List (Int × Int)} (g : Grown U E) : ∀ a b, (a, b) ∈ E → a ∈ U ∧ b ∈ U ∧ a < b := by
  induction g with
  | nil => intro a b h; cases h
  | room v g n ih => intro a b h; exact ⟨List.mem_cons_of_mem _ (ih a b h).1, List.mem_cons_of_mem _ (ih a b h).2.1, (ih a b h).2.2⟩
  | door v u x y g n hu hm ih =>
    intro a b h
    have hne : u ≠ v := fun e => n (e ▸ hu)
    rw [List.mem_cons] at h
    rcases h with h | h
    · injection h with h1 h2
      subst h1 h2
      rcases minmax u v a b hm with ⟨h1, h2, h3⟩ | ⟨h1, h2, h3⟩
      · subst h1 h2
        exact ⟨List.mem_cons_of_mem _ hu, List.mem_cons_self .., by omega⟩
      · subst h1 h2
        exact ⟨List.mem_cons_self .., List.mem_cons_of_mem _ hu, by omega⟩
    · exact ⟨List.mem_cons_of_mem _ (ih a b h).1, List.mem_cons_of_mem _ (ih a b h).2.1, (ih a b h).2.2⟩

theorem Grown.nodup {U : List Int} {E : List (Int × Int)} (g : Grown U E) : E.Nodup := by
  induction g with
  | nil => exact List.nodup_nil
  | room v g n ih => exact ih
  | door v u x y g n hu hm ih =>
    refine List.nodup_cons.mpr ⟨fun h => ?_, ih⟩
    have e := g.ends x y h
    rcases minmax u v x y hm with ⟨h1, h2, _⟩ | ⟨h1, h2, _⟩
    · exact n (h2 ▸ e.2.1)
    · exact n (h1 ▸ e.1)

theorem Grown.length {U : List Int} {E : List (Int × Int)} (g : Grown U E) : E.length ≤ U.length := by
  induction g with
  | nil => exact Nat.le_refl _
  | room v g n ih => exact Nat.le_succ_of_le ih
  | door v u x y g n hu hm ih => exact Nat.succ_le_succ ih

theorem Grown.uniq {U : List Int} {E : List (Int × Int)} (g : Grown U E) : Uniq (adj E) := by
  induction g with
  | nil =>
    intro a b p q hp hq
    have k : ∀ {p : List Int}, SP (adj []) a b p → p = [a] := by
      intro p hp
      cases hp with
      | one => rfl
      | cons r _ _ => rcases r with r | r <;> cases r
    rw [k hp, k hq]
  | room v g n ih => exact ih
  | @door U E v u x y g n hu hm ih =>
    have L : Leaf (adj E) (adj ((x, y) :: E)) u v := by
      refine ⟨fun a b => ?_, fun z h => ?_, fun z h => ?_, fun e => n (e ▸ hu)⟩
      · unfold adj
        simp only [List.mem_cons, Prod.mk.injEq]
        rcases minmax u v x y hm with ⟨h1, h2, _⟩ | ⟨h1, h2, _⟩
        · subst h1 h2
          constructor
          · rintro ((h | h) | (h | h))
            · exact .inr (.inl h)
            · exact .inl (.inl h)
            · exact .inr (.inr ⟨h.2, h.1⟩)
            · exact .inl (.inr h)
          · rintro ((h | h) | h | h)
            · exact .inl (.inr h)
            · exact .inr (.inr h)
            · exact .inl (.inl h)
            · exact .inr (.inl ⟨h.2, h.1⟩)
        · subst h1 h2
          constructor
          · rintro ((h | h) | (h | h))
            · exact .inr (.inr h)
            · exact .inl (.inl h)
            · exact .inr (.inl ⟨h.2, h.1⟩)
            · exact .inl (.inr h)
          · rintro ((h | h) | h | h)
            · exact .inl (.inr h)
            · exact .inr (.inr h)
            · exact .inr (.inl ⟨h.2, h.1⟩)
            · exact .inl (.inl h)
      · rcases h with h | h
        · exact n (g.ends _ _ h).1
        · exact n (g.ends _ _ h).2.1
      · rcases h with h | h
        · exact n (g.ends _ _ h).2.1
        · exact n (g.ends _ _ h).1
    exact L.uniq ih

/-- a door stands ahead of another -/
def Dlt (a b : Int × Int) : Prop := a.1 < b.1 ∨ (a.1 = b.1 ∧ a.2 < b.2)
/-- a forest of n rooms, as an ascending list of doors -/
def Forest (n : Int) (D : List (Int × Int)) : Prop := ∃ U E, Grown U E ∧ (∀ x, x ∈ U ↔ 0 ≤ x ∧ x < n) ∧ D.Perm E ∧ U.length ≤ 8 ∧ D.Pairwise Dlt

theorem adj_perm {D E : List (Int × Int)} (h : D.Perm E) : adj D = adj E := by
  funext a b
  unfold adj
  rw [h.mem_iff, h.mem_iff]
theorem Forest.uniq {n : Int} {D : List (Int × Int)} (f : Forest n D) : Uniq (adj D) := by
  obtain ⟨U, E, g, _, p, _⟩ := f
  rw [adj_perm p]
  exact g.uniq
theorem Forest.nodup {n : Int} {D : List (Int × Int)} (f : Forest n D) : D.Nodup := by
  obtain ⟨U, E, g, _, p, _⟩ := f
  exact p.nodup_iff.mpr g.nodup
theorem Forest.up {n : Int} {D : List (Int × Int)} (f : Forest n D) : D.Pairwise Dlt := by
  obtain ⟨U, E, _, _, _, _, u⟩ := f
  exact u
theorem Forest.len {n : Int} {D : List (Int × Int)} (f : Forest n D) : D.length ≤ 8 := by
  obtain ⟨U, E, g, _, p, l, _⟩ := f
  rw [p.length_eq]
  exact Nat.le_trans g.length l
theorem Forest.ends {n : Int} {D : List (Int × Int)} (f : Forest n D) {a b : Int} (h : (a, b) ∈ D) : 0 ≤ a ∧ a < b ∧ b < n := by
  obtain ⟨U, E, g, u, p, _⟩ := f
  have e := g.ends a b (p.mem_iff.mp h)
  exact ⟨((u a).mp e.1).1, e.2.2, ((u b).mp e.2.1).2⟩
theorem Forest.adj {n : Int} {D : List (Int × Int)} (f : Forest n D) {a b : Int} (h : adj D a b) : 0 ≤ a ∧ a < n ∧ 0 ≤ b ∧ b < n := by
  rcases h with h | h
  · have e := f.ends h; omega
  · have e := f.ends h; omega

/-- the adjacent rooms, ascending -/
def nb (n : Int) (D : List (Int × Int)) (r : Int) : List Int := ((List.range n.toNat).map fun (i : Nat) => (i : Int)).filter fun o => decide ((r, o) ∈ D) || decide ((o, r) ∈ D)
theorem mem_nb {n : Int} {D : List (Int × Int)} {r o : Int} : o ∈ nb n D r ↔ (0 ≤ o ∧ o < n) ∧ adj D r o := by
  unfold nb adj
  rw [List.mem_filter, List.mem_map]
  simp only [List.mem_range, Bool.or_eq_true, decide_eq_true_eq]
  constructor
  · rintro ⟨⟨i, hi, rfl⟩, h⟩
    exact ⟨⟨by omega, by omega⟩, h⟩
  · rintro ⟨⟨h0, h1⟩, h⟩
    exact ⟨⟨o.toNat, by omega, by omega⟩, h⟩
theorem Forest.mem_nb {n : Int} {D : List (Int × Int)} (f : Forest n D) {r o : Int} : o ∈ nb n D r ↔ Fw.adj D r o := by
  rw [Fw.mem_nb]
  exact ⟨fun h => h.2, fun h => ⟨⟨(f.adj h).2.2.1, (f.adj h).2.2.2⟩, h⟩⟩
theorem range_up (n : Nat) : ((List.range n).map fun (i : Nat) => (i : Int)).Pairwise (· < ·) := by
  rw [List.pairwise_map]
  exact List.pairwise_lt_range.imp fun h => by omega
theorem nb_up (n : Int) (D : List (Int × Int)) (r : Int) : (nb n D r).Pairwise (· < ·) := (range_up _).filter _
theorem nb_len (n : Int) (D : List (Int × Int)) (r : Int) : (nb n D r).length ≤ n.toNat := by
  unfold nb
  refine Nat.le_trans (List.length_filter_le _ _) ?_
  simp

/-- two ascending lists with the same members are one -/
theorem up_ext : ∀ {xs ys : List Int}, xs.Pairwise (· < ·) → ys.Pairwise (· < ·) → (∀ x, x ∈ xs ↔ x ∈ ys) → xs = ys
  | [], [], _, _, _ => rfl
  | [], y :: ys, _, _, h => absurd ((h y).mpr (List.mem_cons_self ..)) (by simp)
  | x :: xs, [], _, _, h => absurd ((h x).mp (List.mem_cons_self ..)) (by simp)
  | x :: xs, y :: ys, hx, hy, h => by
    obtain ⟨hx1, hx2⟩ := List.pairwise_cons.mp hx
    obtain ⟨hy1, hy2⟩ := List.pairwise_cons.mp hy
    have e : x = y := by
      have h1 := (h x).mp (List.mem_cons_self ..)
      have h2 := (h y).mpr (List.mem_cons_self ..)
      rw [List.mem_cons] at h1 h2
      rcases h1 with h1 | h1
      · exact h1
      · rcases h2 with h2 | h2
        · exact h2.symm
        · have := hy1 _ h1
          have := hx1 _ h2
          omega
    subst e
    rw [up_ext hx2 hy2 fun z => ?_]
    have hz := h z
    rw [List.mem_cons, List.mem_cons] at hz
    constructor
    · intro m
      rcases hz.mp (.inr m) with e | e
      · subst e; have := hx1 _ m; omega
      · exact e
    · intro m
      rcases hz.mpr (.inr m) with e | e
      · subst e; have := hy1 _ m; omega
      · exact e
theorem up_of {xs : List Int} (h : xs.Pairwise (· ≤ ·)) (n : xs.Nodup) : xs.Pairwise (· < ·) := by
  refine (h.and n).imp ?_
  intro a b ⟨h1, h2⟩
  omega

/-- the doors from r and to r, as the law lists them -/
def outs (D : List (Int × Int)) (r : Int) : List Int := (D.filter fun d => decide (d.1 = r)).map (·.2)
def ins (D : List (Int × Int)) (r : Int) : List Int := (D.filter fun d => decide (d.2 = r)).map (·.1)
theorem mem_outs {D : List (Int × Int)} {r o : Int} : o ∈ outs D r ↔ (r, o) ∈ D := by
  unfold outs
  simp only [List.mem_map, List.mem_filter, decide_eq_true_eq]
  constructor
  · rintro ⟨⟨a, b⟩, ⟨h, rfl⟩, rfl⟩; exact h
  · intro h; exact ⟨(r, o), ⟨h, rfl⟩, rfl⟩
theorem mem_ins {D : List (Int × Int)} {r o : Int} : o ∈ ins D r ↔ (o, r) ∈ D := by
  unfold ins
  simp only [List.mem_map, List.mem_filter, decide_eq_true_eq]
  constructor
  · rintro ⟨⟨a, b⟩, ⟨h, rfl⟩, rfl⟩; exact h
  · intro h; exact ⟨(o, r), ⟨h, rfl⟩, rfl⟩
theorem nodup_map_on {α β : Type} {f : α → β} : ∀ {xs : List α}, xs.Nodup → (∀ x y, x ∈ xs → y ∈ xs → f x = f y → x = y) → (xs.map f).Nodup
  | [], _, _ => List.nodup_nil
  | x :: xs, n, h => by
    obtain ⟨n1, n2⟩ := List.nodup_cons.mp n
    rw [List.map_cons]
    refine List.nodup_cons.mpr ⟨fun m => ?_, nodup_map_on n2 fun a b ha hb => h a b (List.mem_cons_of_mem _ ha) (List.mem_cons_of_mem _ hb)⟩
    obtain ⟨y, hy, e⟩ := List.mem_map.mp m
    have := h y x (List.mem_cons_of_mem _ hy) (List.mem_cons_self ..) e
    subst this
    exact n1 hy
theorem Forest.both_nodup {n : Int} {D : List (Int × Int)} (f : Forest n D) (r : Int) : (outs D r ++ ins D r).Nodup := by
  rw [List.nodup_append]
  refine ⟨?_, ?_, ?_⟩
  · refine nodup_map_on (f.nodup.filter _) ?_
    rintro ⟨a, b⟩ ⟨c, d⟩ h1 h2 e
    have e1 := of_decide_eq_true (List.mem_filter.mp h1).2
    have e2 := of_decide_eq_true (List.mem_filter.mp h2).2
    simp only at e e1 e2
    rw [e, e1, e2]
  · refine nodup_map_on (f.nodup.filter _) ?_
    rintro ⟨a, b⟩ ⟨c, d⟩ h1 h2 e
    have e1 := of_decide_eq_true (List.mem_filter.mp h1).2
    have e2 := of_decide_eq_true (List.mem_filter.mp h2).2
    simp only at e e1 e2
    rw [e, e1, e2]
  · intro a ha b hb e
    subst e
    have h1 := f.ends (mem_outs.mp ha)
    have h2 := f.ends (mem_ins.mp hb)
    omega
theorem Forest.sorted_nb {n : Int} {D : List (Int × Int)} (f : Forest n D) {r : Int} {ys : List Int} (p : ys.Perm (outs D r ++ ins D r)) (s : ys.Pairwise (· ≤ ·)) : ys = nb n D r := by
  refine up_ext (up_of s (p.nodup_iff.mpr (f.both_nodup r))) (nb_up n D r) fun x => ?_
  rw [p.mem_iff, List.mem_append, mem_outs, mem_ins, f.mem_nb]
  exact Iff.rfl

/-- the doors to r and from r, one list behind the other, as the program lists them -/
theorem Forest.nb_eq {n : Int} {D : List (Int × Int)} (f : Forest n D) (r : Int) : ins D r ++ outs D r = nb n D r := by
  refine up_ext ?_ (nb_up n D r) fun x => ?_
  · rw [List.pairwise_append]
    refine ⟨?_, ?_, fun a ha b hb => ?_⟩
    · unfold ins
      rw [List.pairwise_map]
      refine (f.up.filter _).imp_of_mem fun {x y} hx hy h => ?_
      have e1 : x.2 = r := of_decide_eq_true (List.mem_filter.mp hx).2
      have e2 : y.2 = r := of_decide_eq_true (List.mem_filter.mp hy).2
      unfold Dlt at h
      omega
    · unfold outs
      rw [List.pairwise_map]
      refine (f.up.filter _).imp_of_mem fun {x y} hx hy h => ?_
      have e1 : x.1 = r := of_decide_eq_true (List.mem_filter.mp hx).2
      have e2 : y.1 = r := of_decide_eq_true (List.mem_filter.mp hy).2
      unfold Dlt at h
      omega
    · have h1 := f.ends (mem_ins.mp ha)
      have h2 := f.ends (mem_outs.mp hb)
      omega
  · rw [List.mem_append, mem_outs, mem_ins, f.mem_nb]
    exact or_comm
/-- how many rooms below n are not in S: it falls when one more is -/
def left (n : Nat) (S : Int → Bool) : Nat := (List.range n).countP fun (i : Nat) => !S (i : Int)
theorem countP_lt {α : Type} {p q : α → Bool} : ∀ {l : List α} {x : α}, (∀ y ∈ l, q y = true → p y = true) → x ∈ l → p x = true → q x = false → l.countP q < l.countP p
  | [], _, _, m, _, _ => by cases m
  | y :: l, x, h, m, hp, hq => by
    have hm : l.countP q ≤ l.countP p := List.countP_mono_left fun z hz => h z (List.mem_cons_of_mem _ hz)
    rw [List.countP_cons, List.countP_cons]
    rw [List.mem_cons] at m
    by_cases e : x = y
    · subst e
      rw [if_neg (by rw [hq]; exact Bool.false_ne_true), if_pos hp]
      omega
    · have ih := countP_lt (fun z hz => h z (List.mem_cons_of_mem _ hz)) (m.resolve_left e) hp hq
      have hy := h y (List.mem_cons_self ..)
      by_cases c : q y = true
      · rw [if_pos c, if_pos (hy c)]; omega
      · rw [if_neg c]; omega
theorem left_lt {n : Nat} {S S' : Int → Bool} {o : Int} (h : ∀ x, S x = true → S' x = true) (h0 : 0 ≤ o) (h1 : o < n) (hs : S o = false) (hs' : S' o = true) : left n S' < left n S := by
  refine countP_lt (x := o.toNat) (fun y _ hy => ?_) (List.mem_range.mpr (by omega)) ?_ ?_
  · cases e : S (y : Int) with
    | false => rfl
    | true => rw [h _ e] at hy; cases hy
  · rw [show ((o.toNat : Nat) : Int) = o by omega, hs]; rfl
  · rw [show ((o.toNat : Nat) : Int) = o by omega, hs']; rfl
theorem left_le (n : Nat) (S : Int → Bool) : left n S ≤ n := by
  refine Nat.le_trans List.countP_le_length ?_
  simp
end Fw
namespace Fw
open PySem PySem.Spec PyProof.Rows L2
def top (i : Nat) : Stmt := PySem.Challenge.pw_fromwithin_k12_reaching_targets_checked.main.body.getD i (.Pass ⟨0, 0, 0, 0⟩)
abbrev sIsInt : Stmt := top 1
abbrev sIsPair : Stmt := top 2
abbrev iUnknownPerson : Stmt := inClass (top 5) 0
abbrev iInvalidRoom : Stmt := inClass (top 6) 0
abbrev iNotAdjacent : Stmt := inClass (top 7) 0
abbrev iEmptyRoom : Stmt := inClass (top 8) 0
abbrev iInvalidMoves : Stmt := inClass (top 9) 0
abbrev sIsRoom : Stmt := top 11
abbrev sNb : Stmt := top 12
abbrev sRoomOf : Stmt := top 14
abbrev sWith : Stmt := top 15
abbrev sPIn : Stmt := top 16
abbrev sPWi : Stmt := top 17
abbrev sMove : Stmt := top 19
abbrev sApply : Stmt := top 20
abbrev sReach : Stmt := top 21
abbrev sStream : Stmt := top 23
abbrev sNames : Stmt := top 24
abbrev sDraw : Stmt := top 25
abbrev sHouse : Stmt := top 26
abbrev sPl : Stmt := top 27
abbrev sLNb : Stmt := top 28
abbrev sConn : Stmt := top 29
abbrev sLMoved : Stmt := top 30
abbrev sLMoves : Stmt := top 31
abbrev sLWalk : Stmt := top 32
abbrev sLTarget : Stmt := top 33
abbrev sRand : Stmt := top 34
abbrev sAlt : Stmt := top 35
abbrev sLInt : Stmt := top 36
abbrev sLMoveExp : Stmt := top 37
abbrev sLReach : Stmt := top 38
abbrev sLSwap : Stmt := top 39
abbrev sLaw : Stmt := top 40
end Fw
namespace Fw
open PySem PySem.Spec PyProof.Rows L2
abbrev vi (ns : List Int) : List V := ns.map V.int

theorem same_upd {H : Hp} {p : Addr} {o : HO} (h : H p = none) : Same H (upd H p o) := fun b x e => by
  rw [upd_ne (ne_of_none e h)]
  exact e

/-- the stream of draws: s the list of three, A the great cells, B all cells; c bounds the count -/
structure StreamAt (H : Hp) (s A B : Addr) (c : Nat) : Prop where
  ex : ∃ (big cells : List Int) (cnt : Int), H s = some (.lst [.ref A, .ref B, .int cnt]) ∧ H A = some (.lst (vi big)) ∧ H B = some (.lst (vi cells)) ∧
    (∀ x ∈ big, 0 ≤ x) ∧ (∀ x ∈ cells, 0 ≤ x) ∧ 0 < cells.length ∧ cells.length ≤ 100 ∧ big.length ≤ 100 ∧ 0 ≤ cnt ∧ cnt ≤ c
  nAB : A ≠ B
  nsA : s ≠ A
  nsB : s ≠ B
/-- all but the stream's own lists stands as before -/
def Fr (s A : Addr) (H H' : Hp) : Prop := ∀ b o, b ≠ s → b ≠ A → H b = some o → H' b = some o
theorem Fr.trans {s A : Addr} {H H1 H2 : Hp} (a : Fr s A H H1) (b : Fr s A H1 H2) : Fr s A H H2 := fun c o h1 h2 e => b c o h1 h2 (a c o h1 h2 e)
theorem Fr.of {s A : Addr} {H H1 : Hp} (a : Same H H1) : Fr s A H H1 := fun c o _ _ e => a c o e

theorem same_put {H H1 : Hp} {p : Addr} {o : HO} (s : Same H H1) (h : H p = none) : Same H (upd H1 p o) := fun b x e => by
  rw [upd_ne (ne_of_none e h)]
  exact s _ _ e
theorem get_vi {ns : List Int} {i : Nat} {x : V} (h : (vi ns)[i]? = some x) : ∃ v, ns[i]? = some v ∧ x = .int v := by
  rw [List.getElem?_map] at h
  cases e : ns[i]? with
  | none => rw [e] at h; cases h
  | some v => rw [e] at h; exact ⟨v, rfl, (Option.some.inj h).symm⟩
theorem vi_app (a b : List Int) : vi (a ++ b) = vi a ++ vi b := List.map_append
def absI (i : Int) : Int := if i < 0 then -i else i
theorem absI_pos (i : Int) : 0 ≤ absI i := by unfold absI; split <;> omega
/-- the builtins' names are not taken -/
structure Nm (mg : Str → Option Value) : Prop where
  abs : mg "abs" = none
  len : mg "len" = none
  list : mg "list" = none
  range : mg "range" = none
  min : mg "min" = none
  max : mg "max" = none
  tuple : mg "tuple" = none
  sorted : mg "sorted" = none
  isinstance : mg "isinstance" = none
  all : mg "all" = none
  zip : mg "zip" = none
  bool : mg "bool" = none
  int : mg "int" = none
  str : mg "str" = none
  repr : mg "repr" = none

/-! ### data -/
theorem dp_ints {K : PySem.W.Frag} {H : Hp} : ∀ ns : List Int, DpAll K H (vi ns) (ns.map PyData.int)
  | [] => .nil
  | n :: ns => .cons (.int n) (dp_ints ns)
theorem lay_ints : ∀ ns : List Int, PyData.canLayAll0 (ns.map PyData.int) = true
  | [] => by simp [PyData.canLayAll0]
  | n :: ns => by
    rw [List.map_cons, PyData.canLayAll0, lay_ints ns, PyData.canLay0]
    rfl
theorem deep_ints : ∀ ns : List Int, PyData.depthAll (ns.map PyData.int) = 0
  | [] => by simp [PyData.depthAll]
  | n :: ns => by
    rw [List.map_cons, PyData.depthAll, deep_ints ns, PyData.depth]
    rfl
theorem shaped_list (ns : List Int) : SeqAt.shaped (.list (ns.map PyData.int)) = true := by
  unfold SeqAt.shaped
  rw [PyData.canLay0, lay_ints, PyData.depth, deep_ints]
  decide
theorem shaped_tup (ns : List Int) : SeqAt.shaped (.tuple (ns.map PyData.int)) = true := by
  unfold SeqAt.shaped
  rw [PyData.canLay0, lay_ints, PyData.depth, deep_ints]
  decide
theorem eqv_nil (ns : List Int) : PyData.eqv (.list (ns.map PyData.int)) (.list []) = ns.isEmpty := by
  rw [PyData.eqv]
  cases ns with
  | nil => rw [List.map_nil, PyData.eqvAll]; rfl
  | cons n ns => rw [List.map_cons, PyData.eqvAll]; rfl
theorem ix0 (n : Nat) : ixN (n + 1) 0 = some 0 := by
  unfold ixN
  rw [if_pos (by omega), if_pos (by omega)]
  rfl
theorem atI0 {α : Type} {x : α} {xs : List α} : atI (x :: xs) 0 = some x := atI_nat (j := 0) rfl
theorem atI1 {α : Type} {x y : α} {xs : List α} : atI (x :: y :: xs) 1 = some y := atI_nat (j := 1) rfl
theorem atI2 {α : Type} {x y z : α} {xs : List α} : atI (x :: y :: z :: xs) 2 = some z := atI_nat (j := 2) rfl

section
variable {P : Program} {w : World} {K : PySem.W.Frag} {mg : Str → Option Value} {base : Heap}

def spStream (K : PySem.W.Frag) : Sp := fun vs H Q _ => ∃ (a : Addr) (ns : List Int), vs = [.ref a] ∧ SqL K H a (ns.map V.int) ∧ ns.length ≤ 63 ∧
  ∀ H' s A B, Same H H' → H s = none → H A = none → StreamAt H' s A B 0 → Q (.ref s) H'

theorem scStream : FnScope ["_law_script", "_law_cells", "_law_cell"] ["_law_script"] (defScope sStream) := ⟨rfl, rfl, rfl, by decide +kernel, rfl, by decide +kernel, by decide +kernel⟩
theorem ok_stream {f : Addr} {fd : FuncData} {k : Nat} (F : Fun K "_law_stream" "_law_stream" sStream f fd) (T : Nm mg) : FnOk P w K mg base CX0 (k + 1) f fd ["_law_script"] (spStream K) := by
  refine F.ok scStream (fun vs H Q E h => ?_) (fun cdv A outer s H vs Q E hr h => ?_)
  · obtain ⟨a, ns, rfl, _⟩ := h
    rfl
  · obtain ⟨a, ns, rfl, hS, hlen, q⟩ := h
    refine ⟨_, pss_cons (ps_setLc (i := 1) (own := [("_law_cell", 2)]) (g := gName 2) (by rfl) scStream.nd rfl rfl (sw_true rfl rfl rfl (by decide +kernel)) (pi_list (pv 0))
        (blkOk_by (own := [("_law_cell", 2)]) (N := ["_law_script", "_law_cells", "_law_cell"]) (sc := defScope sStream) (by decide +kernel))
        (fun _ _ _ _ _ => pg_name (i := 2) scStream.nd rfl (Or.inl rfl)) (fun _ _ _ _ _ => pts_nil)
        (fun _ _ _ _ _ => pe_callB call_abs (by rfl) T.abs (by decide +kernel) (pa_cons (pv 2) pa_nil)))
      (pss_one (ps_ret (pe_lst (pa_cons
        (pe_lc (own := [("_law_cell", 2)]) (g := gName 2) (by rfl) scStream.nd (pi_list (pv 1))
          (blkOk_by (own := [("_law_cell", 2)]) (N := ["_law_script", "_law_cells", "_law_cell"]) (sc := defScope sStream) (by decide +kernel))
          (fun _ _ _ _ _ => pg_name (i := 2) scStream.nd rfl (Or.inl rfl)) (fun _ _ _ _ _ => pts_one (pt_cmpR op_ge (pv 2) (pe_op op_pow pe_int pe_int) (nomark _)))
          (fun _ _ _ _ _ => pv 2))
        (pa_cons (pe_op op_cat (pv 1) (pe_lst (pa_cons (pe_op op_add (pe_callB call_len_seq (by rfl) T.len PySem.boot_len (pa_cons (pv 1) pa_nil)) pe_int) pa_nil)))
        (pa_cons pe_int pa_nil)))))), ?_⟩
    refine ⟨.ref a, rfl, a, rfl, ⟨_, hS⟩, fun D hD => lc_list (K := K) (a := a) (xs := vi ns) (fun i H1 => Same H H1 ∧ H1 D = some (.lst (vi ((ns.map absI).take i))))
      ⟨same_upd hD, upd_same⟩ (fun i H1 _ h => h.1.seq hS) ?_ ?_⟩
    · rintro i x H1 hx ⟨s1, e1⟩
      obtain ⟨v, ev, rfl⟩ := get_vi hx
      refine ⟨rfl, ?_⟩
      unfold tYes
      refine iteT ?_
      refine ⟨_, rfl, v, rfl, _, e1, ?_, ?_, ?_⟩
      · rw [List.length_map, List.length_take, List.length_map]
        exact small1000 (by omega)
      · exact same_put s1 hD
      · rw [upd_same, List.take_add_one, List.getElem?_map, ev, vi_app]
        rfl
    · rintro H1 ⟨s1, e1⟩
      rw [List.length_map, ← List.length_map (f := absI), List.take_length] at e1
      refine ⟨_, rfl, D, rfl, ⟨_, SqL.of e1⟩, fun G hG => lc_list (K := K) (a := D) (xs := vi (ns.map absI)) (fun i H2 => Same H1 H2 ∧ H2 G = some (.lst (vi (((ns.map absI).take i).filter fun x => decide (10 ^ 18 ≤ x)))))
        ⟨same_upd hG, upd_same⟩ (fun i H2 _ h => h.1.seq (SqL.of e1)) ?_ ?_⟩
      · rintro i x H2 hx ⟨s2, e2⟩
        obtain ⟨v, ev, rfl⟩ := get_vi hx
        refine ⟨rfl, _, rfl, _, _, rfl, rfl, ⟨by decide, by decide, by decide⟩, _, _, rfl, rfl, _, rfl, ?_⟩
        have et : ((ns.map absI).take (i + 1)).filter (fun x => decide (10 ^ 18 ≤ x)) = ((ns.map absI).take i).filter (fun x => decide (10 ^ 18 ≤ x)) ++ (if 10 ^ 18 ≤ v then [v] else []) := by
          rw [List.take_add_one, ev, List.filter_append]
          congr 1
          by_cases c : (10 : Int) ^ 18 ≤ v
          · rw [if_pos c]
            show List.filter _ [v] = [v]
            rw [List.filter_cons_of_pos (by simpa using c)]
            rfl
          · rw [if_neg c]
            show List.filter _ [v] = []
            rw [List.filter_cons_of_neg (by simpa using c)]
            rfl
        refine ite2 (fun c => ?_) (fun c => ?_)
        · have c : (10 : Int) ^ 18 ≤ v := of_decide_eq_true c
          refine ⟨_, rfl, _, e2, ?_, same_put s2 hG, ?_⟩
          · rw [List.length_map]
            refine small1000 (Nat.le_trans (List.length_filter_le _ _) ?_)
            rw [List.length_take, List.length_map]
            omega
          · rw [upd_same, et, if_pos c, vi_app]
            rfl
        · have c : ¬ (10 : Int) ^ 18 ≤ v := fun e => c (decide_eq_true e)
          refine ⟨s2, ?_⟩
          rw [et, if_neg c, List.append_nil]
          exact e2
      · rintro H2 ⟨s2, e2⟩
        rw [List.length_map, List.take_length] at e2
        have e1' := s2 _ _ e1
        refine ⟨_, rfl, _, rfl, D, _, rfl, .inl (SqL.of e1'), _, _, rfl, rfl, by show 1 ≤ sizeLine; decide, fun O hO => ?_⟩
        have e1'' := same_upd (o := .lst [.int (((vi (ns.map absI)).length : Nat) + 3)]) hO _ _ e1'
        refine ⟨D, O, _, _, rfl, rfl, e1'', upd_same, ?_, fun B hB => ?_⟩
        · simp only [List.length_map, List.length_append, List.length_cons, List.length_nil]
          exact Nat.le_of_lt (small1000 (by omega))
        refine ⟨by show 3 ≤ sizeLine; decide, fun S hS' => ?_⟩
        have nGS : S ≠ G := fun e => by
          rw [e] at hS'
          exact absurd hS' (by rw [same_upd hB _ _ (same_upd hO _ _ e2)]; exact nofun)
        have nBS : S ≠ B := fun e => by
          rw [e, upd_same] at hS'
          cases hS'
        have nGB : G ≠ B := fun e => by
          rw [← e] at hB
          exact absurd hB (by rw [same_upd hO _ _ e2]; exact nofun)
        have sA : Same H (upd (upd H2 O (.lst [.int (((vi (ns.map absI)).length : Nat) + 3)])) B (.lst (vi (ns.map absI) ++ [.int (((vi (ns.map absI)).length : Nat) + 3)]))) := (s1.trans s2).trans ((same_upd hO).trans (same_upd hB))
        refine q _ S G B (sA.trans (same_upd hS')) (sA.free hS') (s1.free hG) ⟨⟨(ns.map absI).filter (fun x => decide (10 ^ 18 ≤ x)), ns.map absI ++ [((ns.length : Nat) : Int) + 3], 0, upd_same, ?_, ?_, ?_, ?_, ?_, ?_, ?_, Int.le_refl _, Int.le_refl _⟩, nGB, nGS, nBS⟩
        · rw [upd_ne nGS.symm, upd_ne nGB, same_upd hO _ _ e2]
        · rw [upd_ne nBS.symm, upd_same, vi_app]
          show some (HO.lst (vi (ns.map absI) ++ [V.int (((vi (ns.map absI)).length : Nat) + 3)])) = _
          rw [List.length_map, List.length_map]
          rfl
        · intro x hx
          obtain ⟨y, _, rfl⟩ := List.mem_map.mp (List.mem_filter.mp hx).1
          exact absI_pos y
        · intro x hx
          rcases List.mem_append.mp hx with hx | hx
          · obtain ⟨y, _, rfl⟩ := List.mem_map.mp hx
            exact absI_pos y
          · rw [List.mem_singleton.mp hx]
            omega
        · simp
        · simp only [List.length_map, List.length_append, List.length_cons, List.length_nil]
          omega
        · refine Nat.le_trans (List.length_filter_le _ _) ?_
          rw [List.length_map]
          omega

theorem lg60 {m : Int} (h0 : 0 < m) (h1 : m < 2 ^ 60) : m.natAbs.log2 < 9000 := by
  have : m.natAbs ≠ 0 := by omega
  have h2 : m.natAbs < 2 ^ 60 := by omega
  have := (Nat.log2_lt this).mpr h2
  omega
def spDraw : Sp := fun vs H Q _ => ∃ (s A B : Addr) (c : Nat) (m : Int), vs = [.ref s, .int m] ∧ StreamAt H s A B c ∧ c < 2 ^ 40 ∧ 0 < m ∧ m < 2 ^ 60 ∧
  ∀ H' r, StreamAt H' s A B (c + 1) → Fr s A H H' → 0 ≤ r → r < m → Q (.int r) H'

theorem scDraw : FnScope ["_law_stream_here", "_law_many", "_law_rest", "_law_turn", "_law_cell", "_law_mixed"] ["_law_stream_here", "_law_many"] (defScope sDraw) := ⟨rfl, rfl, rfl, by decide +kernel, rfl, by decide +kernel, by decide +kernel⟩
theorem ok_draw {f : Addr} {fd : FuncData} {k : Nat} (F : Fun K "_law_draw" "_law_draw" sDraw f fd) (T : Nm mg) : FnOk P w K mg base CX0 (k + 1) f fd ["_law_stream_here", "_law_many"] spDraw := by
  refine F.ok scDraw (fun vs H Q E h => ?_) (fun cdv A outer s H vs Q E hr h => ?_)
  · obtain ⟨s, A, B, c, m, rfl, _⟩ := h
    rfl
  · obtain ⟨s, A, B, c, m, rfl, hS, hc, hm0, hm1, q⟩ := h
    refine ⟨_, pss_cons (ps_while PassesOwn.never (pt_cmpR (op_neD hr.units) (pe_ix ix_list (pv 0) pe_int (fun _ _ => rfl)) (pe_lst pa_nil) (nomark _))
        (pss_cons (ps_set (i := 2) scDraw.nd rfl (.inl rfl) (pe_ix ix_list (pe_ix ix_list (pv 0) pe_int (fun _ _ => rfl)) pe_int (fun _ _ => rfl)))
        (pss_cons (ps_if (pt_cmpR op_gt (pv 2) pe_int (nomark _))
          (pss_cons (ps_asg (pe_op op_fdivW (pv 2) (pv 1)) (pg_sub (pe_ix ix_list (pv 0) pe_int (fun _ _ => rfl)) pe_int set_list))
          (pss_one (ps_ret (pe_op op_modN (pv 2) (pv 1))))) pss_nil)
        (pss_one (ps_expr (pe_bm PySem.F.plainAttrs_list PySem.F.slot_list_pop PySem.F.type_list_pop mt_popAt (pe_ix ix_list (pv 0) pe_int (fun _ _ => rfl)) (pa_cons pe_int pa_nil)))))))
      (pss_cons (ps_set (i := 3) scDraw.nd rfl (.inl rfl) (pe_op op_add (pe_ix ix_list (pv 0) pe_int (fun _ _ => rfl)) pe_int))
      (pss_cons (ps_asg (pv 3) (pg_sub (pv 0) pe_int set_list))
      (pss_cons (ps_set (i := 4) scDraw.nd rfl (.inl rfl) (pe_op op_modN (pe_ix ix_list (pe_ix ix_list (pv 0) pe_int (fun _ _ => rfl)) (pe_op op_modN (pv 3) (pe_callB call_len_seq (by rfl) T.len PySem.boot_len (pa_cons (pe_ix ix_list (pv 0) pe_int (fun _ _ => rfl)) pa_nil))) (fun _ _ => rfl)) pe_int))
      (pss_cons (ps_set (i := 5) scDraw.nd rfl (.inl rfl) (pe_op op_add (pe_op op_add (pe_op op_mul (pv 4) (pe_op op_add pe_int (pe_op op_mul pe_int (pv 3)))) (pe_op op_mul (pe_op op_mul pe_int (pv 3)) (pv 3))) pe_int))
      (pss_cons (ps_set (i := 5) scDraw.nd rfl (.inl rfl) (pe_op op_modN (pv 5) pe_int))
      (pss_one (ps_ret (pe_op op_modN (pe_op op_fdivN (pe_op op_modN (pe_op op_mul (pv 5) (pv 5)) pe_int) pe_int) (pv 1))))))))), ?_⟩
    have fm : ∀ x y : Int, 0 < y → 0 ≤ x.fmod y ∧ x.fmod y < y := fun x y hy => by
      rw [Int.fmod_eq_emod_of_nonneg x (Int.le_of_lt hy)]
      exact ⟨Int.emod_nonneg x (by omega), Int.emod_lt_of_pos x hy⟩
    refine ⟨fun n σ H' => ∃ y2, σ = [some (.ref s), some (.int m), y2, none, none, none] ∧ StreamAt H' s A B c ∧ Fr s A H H' ∧ ∃ big : List Int, H' A = some (.lst (vi big)) ∧ n = big.length, ?_, ?_⟩
    · obtain ⟨big, cells, cnt, _, h2, _⟩ := hS.ex
      exact ⟨_, none, rfl, hS, fun _ _ _ _ e => e, big, h2, rfl⟩
    rintro n σ H1 ⟨y2, rfl, hS1, fr1, big', hb', rfl⟩
    obtain ⟨big, cells, cnt, h1, h2, h3, p1, p2, l0, l1, l2, c0, c1⟩ := hS1.ex
    have eb : vi big' = vi big := by
      rw [h2] at hb'
      injection hb' with hb'
      injection hb' with hb'
      exact hb'.symm
    have el : big'.length = big.length := by
      have := congrArg List.length eb
      simpa using this
    rw [el]
    refine ⟨_, rfl, s, _, _, _, rfl, rfl, SqL.of h1, atI0, Nat.zero_le _, fun e he => ?_⟩
    have n1 : s ≠ e := ne_of_none h1 he
    have n2 : A ≠ e := ne_of_none h2 he
    have n3 : B ≠ e := ne_of_none h3 he
    have h1' : (upd H1 e (.lst [])) s = _ := (upd_ne n1).trans h1
    have h2' : (upd H1 e (.lst [])) A = _ := (upd_ne n2).trans h2
    have h3' : (upd H1 e (.lst [])) B = _ := (upd_ne n3).trans h3
    have sm : Same H1 (upd H1 e (.lst [])) := same_upd he
    refine ⟨.list (big.map .int), .list [], .lst (SqL.of h2') (dp_ints big), .lst (SqL.of upd_same) .nil, shaped_list big, shaped_list [], _, rfl, ?_⟩
    rw [eqv_nil]
    cases big with
    | nil =>
      refine iteF ?_
      -- turn = s[2] + 1; s[2] = turn
      refine ⟨_, rfl, s, _, _, _, rfl, rfl, SqL.of h1', atI2, _, _, rfl, rfl, ?_⟩
      refine ⟨_, rfl, _, rfl, s, _, _, 2, rfl, rfl, h1', rfl, ?_⟩
      have h3s : (upd (upd H1 e (.lst [])) s (.lst ([V.ref A, V.ref B, V.int cnt].set 2 (V.int (cnt + 1))))) B = _ := (upd_ne hS1.nsB.symm).trans h3'
      have h2s : (upd (upd H1 e (.lst [])) s (.lst ([V.ref A, V.ref B, V.int cnt].set 2 (V.int (cnt + 1))))) A = _ := (upd_ne hS1.nsA.symm).trans h2'
      have hS2 : StreamAt (upd (upd H1 e (.lst [])) s (.lst ([V.ref A, V.ref B, V.int cnt].set 2 (V.int (cnt + 1))))) s A B (c + 1) :=
        ⟨⟨[], cells, cnt + 1, upd_same, h2s, h3s, p1, p2, l0, l1, l2, by omega, by omega⟩, hS1.nAB, hS1.nsA, hS1.nsB⟩
      have fr2 : Fr s A H (upd (upd H1 e (.lst [])) s (.lst ([V.ref A, V.ref B, V.int cnt].set 2 (V.int (cnt + 1))))) := fun b o z1 z2 z3 => by
        rw [upd_ne z1]
        exact sm _ _ (fr1 b o z1 z2 z3)
      have h1s : (upd (upd H1 e (.lst [])) s (.lst ([V.ref A, V.ref B, V.int cnt].set 2 (V.int (cnt + 1))))) s = some (.lst [V.ref A, V.ref B, V.int (cnt + 1)]) := upd_same
      have hl : (0 : Int) < (cells.length : Nat) := by omega
      obtain ⟨g0, g1⟩ := fm (cnt + 1) ((cells.length : Nat) : Int) hl
      have hj : ((cnt + 1).fmod ((cells.length : Nat) : Int)).toNat < cells.length := by omega
      have hat : atI (vi cells) ((cnt + 1).fmod (((vi cells).length : Nat) : Int)) = some (V.int cells[((cnt + 1).fmod ((cells.length : Nat) : Int)).toNat]) := by
        rw [List.length_map]
        have := atI_nat (xs := vi cells) (j := ((cnt + 1).fmod ((cells.length : Nat) : Int)).toNat) (v := V.int cells[((cnt + 1).fmod ((cells.length : Nat) : Int)).toNat]) (by rw [List.getElem?_map, List.getElem?_eq_getElem hj]; rfl)
        rw [show ((((cnt + 1).fmod ((cells.length : Nat) : Int)).toNat : Nat) : Int) = (cnt + 1).fmod ((cells.length : Nat) : Int) by omega] at this
        exact this
      refine ⟨_, rfl, s, _, _, _, rfl, rfl, SqL.of h1s, atI1, _, rfl, _, rfl, s, _, _, _, rfl, rfl, SqL.of h1s, atI1, B, _, rfl, .inl (SqL.of h3s), _, _, rfl, rfl, by rw [List.length_map]; omega, B, _, _, _, rfl, rfl, SqL.of h3s, hat, _, _, rfl, rfl, (by show (2147483647 : Int) ≠ 0; decide), ?_⟩
      generalize cells[((cnt + 1).fmod ((cells.length : Nat) : Int)).toNat] = x
      obtain ⟨x0, x1⟩ := fm x 2147483647 (by decide)
      refine ⟨_, rfl, _, rfl, _, _, rfl, rfl, .inl ⟨by decide, by decide⟩, _, _, rfl, rfl, _, _, rfl, rfl, .inl ⟨by omega, by omega⟩, ?_⟩
      refine ⟨_, rfl, _, _, rfl, rfl, .inl ⟨by decide, by decide⟩, _, rfl, _, _, rfl, rfl, .inr ⟨by omega, by omega⟩, _, _, rfl, rfl, _, _, rfl, rfl, ?_⟩
      refine ⟨_, rfl, _, _, rfl, rfl, (by show (2147483629 : Int) ≠ 0; decide), ?_⟩
      refine ⟨_, rfl, _, rfl, _, _, rfl, rfl, .inl ?_, _, _, rfl, rfl, (by show (2147483587 : Int) ≠ 0; decide), _, _, rfl, rfl, ⟨by decide, by decide⟩, _, rfl, _, _, rfl, rfl, by omega, ?_⟩
      · generalize (x.fmod 2147483647 * _ + _ + _ : Int) = y
        obtain ⟨y0, y1⟩ := fm y 2147483629 (by decide)
        exact ⟨by omega, by omega⟩
      · exact q _ _ hS2 fr2 (fm _ m hm0).1 (fm _ m hm0).2
    | cons x r =>
      refine iteT ⟨_, fun _ _ h => h, ?_⟩
      refine ⟨_, rfl, s, _, _, _, rfl, rfl, SqL.of h1', atI0, A, _, _, _, rfl, rfl, SqL.of h2', atI0, ?_⟩
      refine ⟨_, rfl, _, _, rfl, rfl, _, rfl, ?_⟩
      have hx : 0 ≤ x := p1 x (List.mem_cons_self ..)
      have hr' : ∀ y ∈ r, 0 ≤ y := fun y hy => p1 y (List.mem_cons_of_mem _ hy)
      refine ite2 (fun cx => ?_) (fun cx => ?_)
      · refine ⟨_, rfl, _, rfl, _, _, rfl, rfl, ⟨hm0, lg60 hm0 hm1⟩, ?_⟩
        refine ⟨_, rfl, s, _, _, _, rfl, rfl, SqL.of h1', atI0, A, _, _, 0, rfl, rfl, h2', ix0 _, ?_⟩
        refine ⟨_, rfl, _, rfl, _, _, rfl, rfl, by omega, ?_⟩
        refine q _ _ ⟨⟨x / m :: r, cells, cnt, (upd_ne hS1.nsA).trans h1', upd_same, (upd_ne hS1.nAB.symm).trans h3', ?_, p2, l0, l1, l2, c0, by omega⟩, hS1.nAB, hS1.nsA, hS1.nsB⟩ ?_ (fm x m hm0).1 (fm x m hm0).2
        · intro y hy
          rcases List.mem_cons.mp hy with rfl | hy
          · exact Int.ediv_nonneg hx (Int.le_of_lt hm0)
          · exact hr' y hy
        · intro b o z1 z2 z3
          rw [upd_ne z2]
          exact sm _ _ (fr1 b o z1 z2 z3)
      · refine ⟨_, rfl, s, _, _, _, rfl, rfl, SqL.of h1', atI0, .inl ⟨rfl, _, SqL.of h2'⟩, A, _, _, 0, _, rfl, rfl, h2', by decide, by decide, (ixN_seq (ix0 _)).1, rfl, ?_⟩
        refine ⟨r.length, by simp, _, rfl, ⟨⟨r, cells, cnt, (upd_ne hS1.nsA).trans h1', upd_same, (upd_ne hS1.nAB.symm).trans h3', hr', p2, l0, l1, by simp at l2; omega, c0, c1⟩, hS1.nAB, hS1.nsA, hS1.nsB⟩, ?_, r, upd_same, rfl⟩
        intro b o z1 z2 z3
        rw [upd_ne z2]
        exact sm _ _ (fr1 b o z1 z2 z3)
end
end Fw
namespace Fw
open PySem PySem.Spec PyProof.Rows L2

structure Def (K : PySem.W.Frag) (mg : Str → Option Value) (x : Str) (st : Stmt) (f : Addr) (fd : FuncData) (ps : List Str) : Prop where
  F : Fun K x x st f fd
  b : Binds K fd ps []
  g : mg x = some (.ref f)

section
variable {s A B : Addr} {H H1 H2 : Hp} {c : Nat}
theorem StreamAt.ne (hS : StreamAt H s A B c) {L : Addr} (h : H L = none) : s ≠ L ∧ A ≠ L ∧ B ≠ L := by
  obtain ⟨big, cells, cnt, h1, h2, h3, _⟩ := hS.ex
  exact ⟨ne_of_none h1 h, ne_of_none h2 h, ne_of_none h3 h⟩
theorem StreamAt.put (hS : StreamAt H s A B c) {L : Addr} {o : HO} (n : s ≠ L ∧ A ≠ L ∧ B ≠ L) : StreamAt (upd H L o) s A B c := by
  obtain ⟨big, cells, cnt, h1, h2, h3, r⟩ := hS.ex
  exact ⟨⟨big, cells, cnt, (upd_ne n.1).trans h1, (upd_ne n.2.1).trans h2, (upd_ne n.2.2).trans h3, r⟩, hS.nAB, hS.nsA, hS.nsB⟩
theorem StreamAt.mono (hS : StreamAt H s A B c) {c' : Nat} (h : c ≤ c') : StreamAt H s A B c' := by
  obtain ⟨big, cells, cnt, h1, h2, h3, p1, p2, l0, l1, l2, c0, c1⟩ := hS.ex
  exact ⟨⟨big, cells, cnt, h1, h2, h3, p1, p2, l0, l1, l2, c0, by omega⟩, hS.nAB, hS.nsA, hS.nsB⟩
theorem StreamAt.same (hS : StreamAt H s A B c) (e : Same H H1) : StreamAt H1 s A B c := by
  obtain ⟨big, cells, cnt, h1, h2, h3, r⟩ := hS.ex
  exact ⟨⟨big, cells, cnt, e _ _ h1, e _ _ h2, e _ _ h3, r⟩, hS.nAB, hS.nsA, hS.nsB⟩
theorem StreamAt.tup (hS : StreamAt H s A B c) {t : Addr} {xs : List V} (h : H t = some (.tup xs)) : t ≠ s ∧ t ≠ A ∧ t ≠ B := by
  obtain ⟨big, cells, cnt, h1, h2, h3, _⟩ := hS.ex
  exact ⟨ne_of h h1 (by intro q; cases q), ne_of h h2 (by intro q; cases q), ne_of h h3 (by intro q; cases q)⟩
theorem Fr.refl : Fr s A H H := fun _ _ _ _ e => e
theorem Fr.free (f : Fr s A H H1) (hS : StreamAt H1 s A B c) {L : Addr} (h : H1 L = none) : H L = none := by
  obtain ⟨n1, n2, _⟩ := hS.ne h
  cases e : H L with
  | none => rfl
  | some o =>
    rw [f L o n1.symm n2.symm e] at h
    cases h
theorem Fr.put (f : Fr s A H H1) {L : Addr} {o : HO} (h : H L = none) : Fr s A H (upd H1 L o) := fun b u z1 z2 e => by
  rw [upd_ne (ne_of_none e h)]
  exact f b u z1 z2 e
theorem Fr.tup (f : Fr s A H H1) (hS : StreamAt H s A B c) {t : Addr} {xs : List V} (h : H t = some (.tup xs)) : H1 t = some (.tup xs) :=
  f t _ (hS.tup h).1 (hS.tup h).2.1 h
end

/-- a house, as it stands in memory -/
def HouseAt (H : Hp) (h : Addr) (n : Int) (D : List (Int × Int)) : Prop := ∃ (q : Addr) (ps : List (Addr × Int × Int)),
  H h = some (.tup [.int n, .ref q]) ∧ H q = some (.tup (ps.map fun p => V.ref p.1)) ∧ D = ps.map (·.2) ∧ ∀ p ∈ ps, H p.1 = some (.tup [.int p.2.1, .int p.2.2])
theorem HouseAt.same {H H' : Hp} {h : Addr} {n : Int} {D : List (Int × Int)} (x : HouseAt H h n D) (e : Same H H') : HouseAt H' h n D := by
  obtain ⟨q, ps, h1, h2, h3, h4⟩ := x
  exact ⟨q, ps, e _ _ h1, e _ _ h2, h3, fun p hp => e _ _ (h4 p hp)⟩
theorem HouseAt.fr {s A B : Addr} {c : Nat} {H H' : Hp} {h : Addr} {n : Int} {D : List (Int × Int)} (x : HouseAt H h n D) (hS : StreamAt H s A B c) (e : Fr s A H H') : HouseAt H' h n D := by
  obtain ⟨q, ps, h1, h2, h3, h4⟩ := x
  exact ⟨q, ps, e.tup hS h1, e.tup hS h2, h3, fun p hp => e.tup hS (h4 p hp)⟩

theorem perm_map_inv {α β : Type} {f : α → β} : ∀ {ys zs : List β}, ys.Perm zs → ∀ {ps : List α}, zs = ps.map f → ∃ ps' : List α, ps'.Perm ps ∧ ys = ps'.map f := by
  intro ys zs h
  induction h with
  | nil =>
    intro ps e
    cases ps with
    | nil => exact ⟨[], .nil, rfl⟩
    | cons p r => cases e
  | cons x _ ih =>
    intro ps e
    cases ps with
    | nil => cases e
    | cons p r =>
      rw [List.map_cons] at e
      injection e with e1 e2
      obtain ⟨ps', hp, he⟩ := ih e2
      exact ⟨p :: ps', hp.cons p, by rw [he, List.map_cons, e1]⟩
  | swap x y l =>
    intro ps e
    match ps, e with
    | p :: q :: r, e =>
      rw [List.map_cons, List.map_cons] at e
      injection e with e1 e2
      injection e2 with e2 e3
      exact ⟨q :: p :: r, List.Perm.swap p q r, by rw [List.map_cons, List.map_cons, e1, e2, e3]⟩
  | trans _ _ ih1 ih2 =>
    intro ps e
    obtain ⟨p2, h2, e2⟩ := ih2 e
    obtain ⟨p1, h1, e1⟩ := ih1 e2
    exact ⟨p1, h1.trans h2, e1⟩

theorem rg_vi (n : Int) : rgV 0 n = vi ((List.range n.toNat).map fun (i : Nat) => (i : Int)) := by
  unfold rgV vi
  rw [List.map_map, Int.sub_zero]
  refine List.map_congr_left fun i _ => ?_
  show V.int (0 + (i : Int)) = V.int (i : Int)
  rw [Int.zero_add]
def rg (n : Int) : List Int := (List.range n.toNat).map fun (i : Nat) => (i : Int)
theorem mem_rg {n x : Int} : x ∈ rg n ↔ 0 ≤ x ∧ x < n := by
  unfold rg
  rw [List.mem_map]
  constructor
  · rintro ⟨i, hi, rfl⟩
    rw [List.mem_range] at hi
    omega
  · rintro ⟨h0, h1⟩
    exact ⟨x.toNat, List.mem_range.mpr (by omega), by omega⟩
theorem rg_len (n : Int) : (rg n).length = n.toNat := by simp [rg]
theorem rg_nodup (n : Int) : (rg n).Nodup := (range_up n.toNat).imp fun h => by omega

theorem vi_erase (ns : List Int) (i : Nat) : (vi ns).eraseIdx i = vi (ns.eraseIdx i) := by
  induction ns generalizing i with
  | nil => rfl
  | cons n ns ih =>
    cases i with
    | zero => rfl
    | succ i =>
      show V.int n :: (vi ns).eraseIdx i = V.int n :: vi (ns.eraseIdx i)
      rw [ih]
theorem erase_perm : ∀ {ns : List Int} {i : Nat} (h : i < ns.length), (ns[i] :: ns.eraseIdx i).Perm ns
  | n :: ns, 0, _ => List.Perm.refl _
  | n :: ns, i + 1, h => by
    have h' : i < ns.length := by simpa using h
    show (ns[i] :: n :: ns.eraseIdx i).Perm (n :: ns)
    exact (List.Perm.swap _ _ _).trans ((erase_perm (by simpa using h)).cons n)
theorem lacks {r : Int} (h0 : 0 ≤ r) (h1 : r < 3) : ∃ lk : Int, atI [V.int 0, V.int 0, V.int 6] r = some (.int lk) ∧ (lk = 0 ∨ lk = 6) := by
  have : r = 0 ∨ r = 1 ∨ r = 2 := by omega
  rcases this with rfl | rfl | rfl
  · exact ⟨0, atI0, .inl rfl⟩
  · exact ⟨0, atI1, .inl rfl⟩
  · exact ⟨6, atI2, .inr rfl⟩
theorem pick3 {r r1 : Int} {i : Nat} (h0 : 0 ≤ r) (h1 : r < 3) (a0 : 0 ≤ r1) (a1 : r1 < 1 + (i : Int)) : ∃ ix : Int, atI [V.int (1 + (i : Int) - 1), V.int 0, V.int r1] r = some (.int ix) ∧ 0 ≤ ix ∧ ix ≤ i := by
  have : r = 0 ∨ r = 1 ∨ r = 2 := by omega
  rcases this with rfl | rfl | rfl
  · exact ⟨_, atI0, by omega, by omega⟩
  · exact ⟨_, atI1, by omega, by omega⟩
  · exact ⟨_, atI2, by omega, by omega⟩
/-- the two ints of a pair in memory -/
def twoOf (H : Hp) (x : V) : Int × Int := match x with
  | .ref t => match H t with
    | some (.tup [.int i, .int j]) => (i, j)
    | _ => (0, 0)
  | _ => (0, 0)
theorem twoOf_eq {H : Hp} {t : Addr} {d : Int × Int} (h : H t = some (.tup [.int d.1, .int d.2])) : twoOf H (.ref t) = d := by
  unfold twoOf
  simp only [h]
theorem Dlt_of {x y : Int × Int} (h : ¬ (y.1 < x.1 ∨ (y.1 = x.1 ∧ y.2 < x.2))) (n : x ≠ y) : Dlt x y := by
  unfold Dlt
  have : ¬ (x.1 = y.1 ∧ x.2 = y.2) := fun e => n (Prod.ext e.1 e.2)
  omega
/-- what stands while the doors are made -/
structure Mid (H : Hp) (s A B O R : Addr) (ord : List Int) (c : Nat) (ps : List (Addr × Int × Int)) (H' : Hp) : Prop where
  st : StreamAt H' s A B c
  frm : Fr s A H H'
  eO : H' O = some (.lst (vi ord))
  eR : H' R = some (.lst (ps.map fun p => V.ref p.1))
  eP : ∀ p ∈ ps, H' p.1 = some (.tup [.int p.2.1, .int p.2.2])
theorem Mid.fr {H H1 H2 : Hp} {s A B O R : Addr} {ord : List Int} {c c' : Nat} {ps : List (Addr × Int × Int)} (m : Mid H s A B O R ord c ps H1) (hS : StreamAt H2 s A B c') (f : Fr s A H1 H2) (zO : s ≠ O ∧ A ≠ O ∧ B ≠ O) (zR : s ≠ R ∧ A ≠ R ∧ B ≠ R) : Mid H s A B O R ord c' ps H2 :=
  ⟨hS, m.frm.trans f, f _ _ zO.1.symm zO.2.1.symm m.eO, f _ _ zR.1.symm zR.2.1.symm m.eR, fun p hp => f.tup m.st (m.eP p hp)⟩
theorem Mid.new {H H1 : Hp} {s A B O R : Addr} {ord : List Int} {c : Nat} {ps : List (Addr × Int × Int)} (m : Mid H s A B O R ord c ps H1) {N : Addr} {o : HO} (h : H1 N = none) : Mid H s A B O R ord c ps (upd H1 N o) :=
  ⟨m.st.same (same_upd h), m.frm.put (m.frm.free m.st h), same_upd h _ _ m.eO, same_upd h _ _ m.eR, fun p hp => same_upd h _ _ (m.eP p hp)⟩
theorem if_by {t : TT} {tb te : TS} {D : Ends} {σ : L2.St} {H : Hp} (Good : Bool → Hp → Prop) (hb : ∀ H', Good true H' → tb D σ H') (he : ∀ H', Good false H' → te D σ H')
    (h : ∀ Q : Bool → Hp → Prop, (∀ b H', Good b H' → Q b H') → t σ H Q) : tIfS t tb te D σ H := h _ fun b H' g => by
  cases b with
  | true => exact iteT (hb _ g)
  | false => exact iteF (he _ g)
section
variable {P : Program} {w : World} {K : PySem.W.Frag} {mg : Str → Option Value} {base : Heap}
def spHouse : Sp := fun vs H Q _ => ∃ (s A B : Addr) (c : Nat) (least most : Int), vs = [.ref s, .int least, .int most] ∧ StreamAt H s A B c ∧ c < 2 ^ 30 ∧ 1 ≤ least ∧ least ≤ most ∧ most ≤ 8 ∧
  ∀ H' h n D, StreamAt H' s A B (c + 40) → Fr s A H H' → HouseAt H' h n D → Forest n D → least ≤ n → n ≤ most → Q (.ref h) H'

abbrev nHouse : List Str := ["_law_stream_here", "_law_least", "_law_most", "_law_rooms", "_law_left", "_law_order", "_law_doors", "_law_lacks", "_law_k", "_law_on"]
theorem scHouse : FnScope nHouse ["_law_stream_here", "_law_least", "_law_most"] (defScope sHouse) := ⟨rfl, rfl, rfl, by decide +kernel, rfl, by decide +kernel, by decide +kernel⟩
theorem ok_house {f fD : Addr} {fd fdD : FuncData} (F : Fun K "_law_house" "_law_house" sHouse f fd) (T : Nm mg) (D : Def K mg "_law_draw" sDraw fD fdD ["_law_stream_here", "_law_many"]) : FnOk P w K mg base CX0 2 f fd ["_law_stream_here", "_law_least", "_law_most"] spHouse := by
  have GD : FnOk P w K mg base CX0 1 fD fdD ["_law_stream_here", "_law_many"] spDraw := ok_draw D.F T
  refine F.ok scHouse (fun vs H Q E h => ?_) (fun cdv A outer s H vs Q E hr h => ?_)
  · obtain ⟨s, A, B, c, least, most, rfl, _⟩ := h
    rfl
  · obtain ⟨s, A, B, c, least, most, rfl, hS, hc, hl1, hl2, hl3, q⟩ := h
    refine ⟨_, pss_cons (ps_set (i := 3) scHouse.nd rfl (.inl rfl) (pe_op op_add (pv 1) (pe_call GD hr (by rfl) D.g D.F.kp D.b .nil pass0 (pa_cons (pv 0) (pa_cons (pe_op op_add (pe_op op_sub (pv 2) (pv 1)) pe_int) pa_nil)))))
      (pss_cons (ps_par3 (i := 4) (j := 5) (l := 6) (by rfl) scHouse.nd rfl rfl rfl (by decide) (by decide) (by decide) rfl rfl rfl (pa_cons (pe_listRg (by rfl) (by rfl) T.list (prg_1 (by rfl) T.range (pv 3))) (pa_cons (pe_lst pa_nil) (pa_cons (pe_lst pa_nil) pa_nil))) (by rfl))
      (pss_cons (ps_while PassesOwn.never (pt_cmpR (op_neD hr.units) (pv 4) (pe_lst pa_nil) (nomark _))
        (pss_one (ps_expr (pe_bm PySem.F.plainAttrs_list PySem.F.slot_list_append PySem.F.type_list_append mt_append (pv 5) (pa_cons
          (pe_bm PySem.F.plainAttrs_list PySem.F.slot_list_pop PySem.F.type_list_pop mt_popAt (pv 4) (pa_cons
            (pe_call GD hr (by rfl) D.g D.F.kp D.b .nil pass0 (pa_cons (pv 0) (pa_cons (pe_callB call_len_seq (by rfl) T.len PySem.boot_len (pa_cons (pv 4) pa_nil)) pa_nil))) pa_nil)) pa_nil)))))
      (pss_cons (ps_set (i := 7) scHouse.nd rfl (.inl rfl) (pe_ix ix_list (pe_lst (pa_cons pe_int (pa_cons pe_int (pa_cons pe_int pa_nil)))) (pe_call GD hr (by rfl) D.g D.F.kp D.b .nil pass0 (pa_cons (pv 0) (pa_cons pe_int pa_nil))) (fun _ _ => rfl)))
      (pss_cons (ps_for PassesOwn.never rfl (pi_range2 (by rfl) T.range (pa_cons pe_int (pa_cons (pv 3) pa_nil))) (pg_name (i := 8) scHouse.nd rfl (Or.inl rfl))
        (pss_cons (ps_set (i := 9) scHouse.nd rfl (.inl rfl) (pe_ix ix_list (pv 5) (pe_ix ix_list (pe_lst (pa_cons (pe_op op_sub (pv 8) pe_int) (pa_cons pe_int (pa_cons (pe_call GD hr (by rfl) D.g D.F.kp D.b .nil pass0 (pa_cons (pv 0) (pa_cons (pv 8) pa_nil))) pa_nil))))
            (pe_call GD hr (by rfl) D.g D.F.kp D.b .nil pass0 (pa_cons (pv 0) (pa_cons pe_int pa_nil))) (fun _ _ => rfl)) (fun _ _ => rfl)))
        (pss_one (ps_if (PW.pt (pw_or (pt_cmpR op_eq (pv 7) pe_int (nomark _)) (pw_or1 (pt_cmpR op_gt (pe_call GD hr (by rfl) D.g D.F.kp D.b .nil pass0 (pa_cons (pv 0) (pa_cons (pv 7) pa_nil))) pe_int (nomark _)))))
          (pss_one (ps_expr (pe_bm PySem.F.plainAttrs_list PySem.F.slot_list_append PySem.F.type_list_append mt_append (pv 6) (pa_cons (pe_tup
            (pa_cons (pe_callB (call_min2 rfl) (by rfl) T.min (by decide +kernel) (pa_cons (pv 9) (pa_cons (pe_ix ix_list (pv 5) (pv 8) (fun _ _ => rfl)) pa_nil)))
            (pa_cons (pe_callB (call_max2 rfl) (by rfl) T.max (by decide +kernel) (pa_cons (pv 9) (pa_cons (pe_ix ix_list (pv 5) (pv 8) (fun _ _ => rfl)) pa_nil))) pa_nil))) pa_nil))))
          pss_nil))))
      (pss_one (ps_ret (pe_tup (pa_cons (pv 3) (pa_cons (pe_callTy call_tuple_of (by rfl) T.tuple (by decide +kernel) (pa_cons (pe_callB cr_sortedPO (by rfl) T.sorted (by decide +kernel) (pa_cons (pv 6) pa_nil)) pa_nil)) pa_nil))))))))), ?_⟩
    refine ⟨_, rfl, _, rfl, _, rfl, _, rfl, _, _, rfl, rfl, _, _, rfl, rfl, s, A, B, c, _, rfl, hS, by omega, by omega, by omega, fun H1 r hS1 fr1 r0 r1 => ⟨_, _, rfl, rfl, ?_⟩⟩
    show gName 3 (V.int (least + r)) _ _ _
    generalize hn : least + r = n
    have n0 : 1 ≤ n := by omega
    have n1 : n ≤ 8 := by omega
    have n2 : least ≤ n := by omega
    have n3 : n ≤ most := by omega
    clear hn r0 r1
    refine ⟨_, rfl, _, rfl, RgOk.of_le (by omega) (by omega) (by omega) (by omega), fun L hL => ⟨Nat.zero_le _, fun O hO => ⟨Nat.zero_le _, fun R hR => ⟨_, _, _, rfl, ?_⟩⟩⟩⟩
    rw [rg_vi] at hR hO ⊢
    rw [show ((List.range n.toNat).map fun (i : Nat) => (i : Int)) = rg n from rfl] at hR hO ⊢
    have nLO : O ≠ L := fun e => by rw [e, upd_same] at hO; cases hO
    have hO1 : H1 O = none := by rw [upd_ne nLO] at hO; exact hO
    have nOR : R ≠ O := fun e => by rw [e, upd_same] at hR; cases hR
    have nLR : R ≠ L := fun e => by rw [e, upd_ne nLO.symm, upd_same] at hR; cases hR
    have hR1 : H1 R = none := by rw [upd_ne nOR, upd_ne nLR] at hR; exact hR
    have zL := hS1.ne hL
    have zO := hS1.ne hO1
    have zR := hS1.ne hR1
    have gL := fr1.free hS1 hL
    have gO := fr1.free hS1 hO1
    have gR := fr1.free hS1 hR1
    have hS2 : StreamAt (upd (upd (upd H1 L (.lst (vi (rg n)))) O (.lst [])) R (.lst [])) s A B (c + 1) := ((hS1.put zL).put zO).put zR
    have fr2 : Fr s A H (upd (upd (upd H1 L (.lst (vi (rg n)))) O (.lst [])) R (.lst [])) := ((fr1.put gL).put gO).put gR
    -- while left != []: order.append(left.pop(draw(s, len(left))))
    refine ⟨fun m σ H' => ∃ (lft ord : List Int) (c' : Nat), σ = [some (.ref s), some (.int least), some (.int most), some (.int n), some (.ref L), some (.ref O), some (.ref R), none, none, none] ∧ StreamAt H' s A B c' ∧ c' + lft.length ≤ c + 1 + n.toNat ∧
        Fr s A H H' ∧ H' L = some (.lst (vi lft)) ∧ H' O = some (.lst (vi ord)) ∧ H' R = some (.lst []) ∧ (ord ++ lft).Perm (rg n) ∧ m = lft.length,
      ⟨_, rg n, [], c + 1, rfl, hS2, by rw [rg_len]; omega, fr2, ?_, ?_, upd_same, List.Perm.refl _, rfl⟩, ?_⟩
    · rw [upd_ne nLR.symm, upd_ne nLO.symm, upd_same]
    · rw [upd_ne nOR.symm, upd_same]
      rfl
    clear hS2 fr2 hR hO
    rintro m σ H2 ⟨lft, ord, c2, rfl, hS2, hc2, fr2, eL, eO, eR, pm, rfl⟩
    have plen : ord.length + lft.length = n.toNat := by
      have := pm.length_eq
      rw [List.length_append, rg_len] at this
      exact this
    refine ⟨_, rfl, Nat.zero_le _, fun e he => ?_⟩
    have sm : Same H2 (upd H2 e (.lst [])) := same_upd he
    have hS3 := hS2.same sm
    have fr3 := fr2.put (o := .lst []) (fr2.free hS2 he)
    have eL3 := sm _ _ eL
    have eO3 := sm _ _ eO
    have eR3 := sm _ _ eR
    refine ⟨.list (lft.map .int), .list [], .lst (SqL.of eL3) (dp_ints lft), .lst (SqL.of upd_same) .nil, shaped_list lft, shaped_list [], _, rfl, ?_⟩
    clear eL eO eR hS2 fr2
    generalize upd H2 e (.lst []) = H3 at *
    clear sm he
    rw [eqv_nil]
    cases lft with
    | cons x0 lft0 =>
      generalize hlf : x0 :: lft0 = lft at *
      have lpos : 0 < lft.length := by rw [← hlf]; simp
      have lem : lft.isEmpty = false := by rw [← hlf]; rfl
      rw [lem]
      clear lem hlf
      refine iteT ⟨_, fun _ _ h => h, ?_⟩
      refine ⟨_, rfl, .inl ⟨rfl, _, SqL.of eO3⟩, _, rfl, .inl ⟨rfl, _, SqL.of eL3⟩, _, rfl, _, rfl, L, _, rfl, .inl (SqL.of eL3), s, A, B, c2, _, rfl, hS3, by omega, ?_, ?_, fun H4 r hS4 fr4 r0 r1 => ?_⟩
      · rw [List.length_map]; omega
      · rw [List.length_map]; omega
      rw [List.length_map] at r1
      have eL4 := fr4 _ _ zL.1.symm zL.2.1.symm eL3
      have eO4 := fr4 _ _ zO.1.symm zO.2.1.symm eO3
      have eR4 := fr4 _ _ zR.1.symm zR.2.1.symm eR3
      have hj : r.toNat < lft.length := by omega
      have ixr : ixN (vi lft).length r = some r.toNat := by
        unfold ixN
        rw [List.length_map, if_pos r0, if_pos r1]
      have gx : (vi lft)[r.toNat]? = some (V.int lft[r.toNat]) := by
        rw [List.getElem?_map, List.getElem?_eq_getElem hj]
        rfl
      refine ⟨L, _, r, r.toNat, _, rfl, rfl, eL4, by omega, by omega, (ixN_seq ixr).1, gx, ?_⟩
      have eO5 : (upd H4 L (.lst ((vi lft).eraseIdx r.toNat))) O = some (.lst (vi ord)) := (upd_ne nLO).trans eO4
      refine ⟨O, _, _, rfl, rfl, eO5, ?_, ?_⟩
      · rw [List.length_map]
        exact small1000 (by omega)
      have el : (lft.eraseIdx r.toNat).length = lft.length - 1 := by
        rw [List.length_eraseIdx, if_pos hj]
      refine ⟨(lft.eraseIdx r.toNat).length, by omega, lft.eraseIdx r.toNat, ord ++ [lft[r.toNat]], c2 + 1, rfl, ((hS4.put zL).put zO), by omega, ((fr3.trans fr4).put gL).put gO, ?_, ?_, ?_, ?_, rfl⟩
      · rw [upd_ne nLO.symm, upd_same, vi_erase]
      · rw [upd_same, vi_app]
        rfl
      · rw [upd_ne nOR, upd_ne nLR]
        exact eR4
      · refine List.Perm.trans ?_ pm
        rw [List.append_assoc]
        refine List.Perm.append_left ord ?_
        exact erase_perm hj
    | nil =>
      refine iteF ?_
      rw [List.append_nil] at pm
      clear eL3 zL gL hL nLO nLR hS1 fr1 hO1 hR1
      simp only [List.length_nil, Nat.add_zero] at hc2 plen
      have zO3 := zO
      -- lacks = [0, 0, 6][draw(s, 3)]
      refine ⟨by show 3 ≤ sizeLine; decide, fun M hM => ?_⟩
      have sm : Same H3 (upd H3 M (.lst [.int 0, .int 0, .int 6])) := same_upd hM
      refine ⟨_, rfl, s, A, B, c2, 3, rfl, hS3.same sm, by omega, by decide, by decide, fun H4 r hS4 fr4 r0 r1 => ?_⟩
      have zM := hS3.ne hM
      have eM4 := fr4 M _ zM.1.symm zM.2.1.symm upd_same
      have eO4 := fr4 _ _ zO.1.symm zO.2.1.symm (sm _ _ eO3)
      have eR4 := fr4 _ _ zR.1.symm zR.2.1.symm (sm _ _ eR3)
      have fr4' : Fr s A H H4 := (fr3.put (fr3.free hS3 hM)).trans fr4
      obtain ⟨lk, elk, hlk⟩ := lacks r0 r1
      refine ⟨M, _, _, _, rfl, rfl, SqL.of eM4, elk, ?_⟩
      clear eM4 fr4 sm hM zM elk eO3 eR3 fr3 hS3
      -- for k in range(1, rooms)
      refine ⟨_, rfl, 1, n, rfl, ⟨by decide, by decide, by omega, by omega⟩, for_range (lo := 1) (n := (n - 1).toNat) (fun i σ H' => ∃ (cc : Nat) (y8 y9 : Option V) (ps : List (Addr × Int × Int)),
        σ = [some (.ref s), some (.int least), some (.int most), some (.int n), some (.ref L), some (.ref O), some (.ref R), some (.int lk), y8, y9] ∧ cc ≤ c2 + 1 + 3 * i ∧ Mid H s A B O R ord cc ps H' ∧
        ps.length ≤ i ∧ ∃ U E, Grown U E ∧ (∀ x, x ∈ U ↔ x ∈ ord.take (i + 1)) ∧ (ps.map (·.2)).Perm E ∧ U.length = i + 1) ⟨c2 + 1, none, none, [], rfl, by omega, ⟨hS4, fr4', eO4, eR4, fun p hp => nomatch hp⟩, Nat.le_refl _, ?_⟩ ?_ ?_⟩
      · have h0 : 0 < ord.length := by omega
        refine ⟨[ord[0]], [], .room _ .nil (by simp), fun x => ?_, .nil, rfl⟩
        rw [List.take_add_one, List.getElem?_eq_getElem h0]
        simp
      · rintro i σ H5 hi ⟨cc, y8, y9, ps, rfl, hcc, M5, hps, U, E, g, hU, pE, lU⟩
        have hi1 : i + 1 < ord.length := by omega
        refine ⟨_, rfl, _, rfl, _, _, rfl, rfl, _, rfl, _, rfl, s, A, B, cc, _, rfl, M5.st, by omega, by omega, by omega, fun H6 r1 hS6 fr6 r10 r11 => ?_⟩
        have M6 := M5.fr hS6 fr6 zO zR
        refine ⟨by show 3 ≤ sizeLine; decide, fun N hN => ?_⟩
        have M7 := M6.new (o := .lst [.int (1 + (i : Int) - 1), .int 0, .int r1]) hN
        refine ⟨_, rfl, s, A, B, cc + 1, 3, rfl, M7.st, by omega, by decide, by decide, fun H8 r2 hS8 fr8 r20 r21 => ?_⟩
        have M8 := M7.fr hS8 fr8 zO zR
        have zN := M6.st.ne hN
        have eN8 := fr8 N _ zN.1.symm zN.2.1.symm upd_same
        obtain ⟨ix, eix, hix0, hix1⟩ := pick3 (i := i) r20 r21 r10 r11
        have hixl : ix.toNat < ord.length := by omega
        have eon : atI (vi ord) ix = some (V.int ord[ix.toNat]) := by
          have := atI_nat (xs := vi ord) (j := ix.toNat) (v := V.int ord[ix.toNat]) (by rw [List.getElem?_map, List.getElem?_eq_getElem hixl]; rfl)
          rw [show ((ix.toNat : Nat) : Int) = ix by omega] at this
          exact this
        have ekk : atI (vi ord) (1 + (i : Int)) = some (V.int ord[i + 1]) := by
          have := atI_nat (xs := vi ord) (j := i + 1) (v := V.int ord[i + 1]) (by rw [List.getElem?_map, List.getElem?_eq_getElem hi1]; rfl)
          rw [show ((i + 1 : Nat) : Int) = 1 + (i : Int) by omega] at this
          exact this
        refine ⟨N, _, _, _, rfl, rfl, SqL.of eN8, eix, O, _, _, _, rfl, rfl, SqL.of M8.eO, eon, ?_⟩
        clear eN8 fr8 zN hN M7 M6 fr6 eix
        have nd : ord.Nodup := pm.nodup_iff.mpr (rg_nodup n)
        have nv : ord[i + 1] ∉ U := fun m => by
          obtain ⟨j, hj, e⟩ := List.mem_take_iff_getElem.mp ((hU _).mp m)
          exact (List.pairwise_iff_getElem.mp nd) j (i + 1) (by omega) hi1 (by omega) e
        have mu : ord[ix.toNat] ∈ U := (hU _).mpr (List.mem_take_iff_getElem.mpr ⟨ix.toNat, by omega, rfl⟩)
        have hU' : ∀ x, x ∈ (ord[i + 1] :: U) ↔ x ∈ ord.take (i + 1 + 1) := fun x => by
          rw [List.take_add_one (i := i + 1), List.getElem?_eq_getElem hi1, List.mem_append, List.mem_cons, hU]
          simp [or_comm]
        dsimp only [gName]
        refine if_by (fun _ H' => ∃ c9, c9 ≤ cc + 3 ∧ Mid H s A B O R ord c9 ps H') ?_ ?_ ?_
        · rintro H9 ⟨c9, hc9, M9⟩
          refine ⟨_, rfl, .inl ⟨rfl, _, SqL.of M9.eR⟩, _, rfl, _, rfl, _, rfl, O, _, _, _, rfl, rfl, SqL.of M9.eO, ekk, _, _, rfl, _, rfl, _, rfl, _, rfl, O, _, _, _, rfl, rfl, SqL.of M9.eO, ekk, _, _, rfl, by show 2 ≤ sizeLine; decide, fun t ht => ?_⟩
          generalize hu : ord[ix.toNat] = u at *
          generalize hv : ord[i + 1] = v at *
          have M10 := M9.new (o := .tup [.int (if v < u then v else u), .int (if v > u then v else u)]) ht
          refine ⟨R, _, _, rfl, rfl, M10.eR, ?_, ?_⟩
          · rw [List.length_map]
            exact small1000 (by omega)
          refine ⟨c9, _, _, ps ++ [(t, if v < u then v else u, if v > u then v else u)], rfl, by omega, ⟨M10.st.put zR, M10.frm.put gR, ?_, ?_, ?_⟩, ?_, v :: U, _, .door v u (if v < u then v else u) (if v > u then v else u) g nv mu ?_, hU', ?_, ?_⟩
          · rw [upd_ne nOR.symm]
            exact M10.eO
          · rw [upd_same, List.map_append]
            rfl
          · intro p hp
            rcases List.mem_append.mp hp with hp | hp
            · have h1 := M10.eP p hp
              rw [upd_ne (ne_of h1 M10.eR (by intro q; cases q))]
              exact h1
            · rw [List.mem_singleton.mp hp]
              have h1 : (upd H9 t (.tup [.int (if v < u then v else u), .int (if v > u then v else u)])) t = some (.tup [.int (if v < u then v else u), .int (if v > u then v else u)]) := upd_same
              rw [upd_ne (ne_of h1 M10.eR (by intro q; cases q))]
              exact h1
          · rw [List.length_append, List.length_singleton]
            omega
          · constructor
            · split <;> omega
            · split <;> omega
          · rw [List.map_append]
            exact (List.perm_append_comm).trans (pE.cons _)
          · rw [List.length_cons, lU]
        · rintro H9 ⟨c9, hc9, M9⟩
          exact ⟨c9, _, _, ps, rfl, by omega, M9, by omega, _, _, .room _ g nv, hU', pE, by rw [List.length_cons, lU]⟩
        · intro QQ hQ
          refine ⟨_, rfl, rfl, _, rfl, ?_⟩
          refine ite2 (fun _ => ?_) (fun hz => ?_)
          · exact hQ _ _ ⟨cc + 2, by omega, M8⟩
          · have hlk6 : lk = 6 := by
              rcases hlk with e | e
              · subst e
                exact absurd (decide_eq_true rfl) hz
              · exact e
            subst hlk6
            refine ⟨_, rfl, _, rfl, s, A, B, cc + 2, 6, rfl, M8.st, by omega, by decide, by decide, fun H9 r3 hS9 fr9 _ _ => ?_⟩
            exact ⟨_, _, rfl, rfl, _, rfl, hQ _ _ ⟨cc + 3, by omega, M8.fr hS9 fr9 zO zR⟩⟩
      · rintro σ H5 ⟨cc, y8, y9, ps, rfl, hcc, M5, hps, U, E, g, hU, pE, lU⟩
        have kz : ∀ z ∈ ps, twoOf H5 (.ref z.1) = z.2 := fun z hz => twoOf_eq (M5.eP z hz)
        refine ⟨_, rfl, _, rfl, R, _, twoOf H5, rfl, SqL.of M5.eR, ?_, fun ys p hsrt hstb hp => ?_⟩
        · intro x hx
          obtain ⟨z, hz, rfl⟩ := List.mem_map.mp hx
          refine ⟨z.1, rfl, ?_⟩
          rw [kz z hz]
          exact M5.eP z hz
        obtain ⟨ps', pp, rfl⟩ := perm_map_inv hstb.perm rfl
        have upD : (ps'.map (·.2)).Pairwise Dlt := by
          have nd : (ps'.map (·.2)).Nodup := ((pp.map _).trans pE).nodup_iff.mpr g.nodup
          rw [List.nodup_iff_pairwise_ne, List.pairwise_map] at nd
          rw [List.pairwise_map]
          have hs : ps'.Pairwise fun x y => ltP (twoOf H5) (.ref y.1) (.ref x.1) = false := List.pairwise_map.mp hsrt
          refine (hs.and nd).imp_of_mem fun {x y} hx hy h => ?_
          have h1 : SrtO.lexB y.2 x.2 = false := by
            have := h.1
            unfold ltP at this
            rw [kz x (pp.mem_iff.mp hx), kz y (pp.mem_iff.mp hy)] at this
            exact this
          exact Dlt_of (SrtO.lexB_no.mp h1) h.2
        have M6 := M5.new (o := .lst (ps'.map fun p => V.ref p.1)) hp
        refine ⟨p, _, rfl, .inl ⟨SqL.of upd_same, fun d hd => ?_⟩⟩
        have M7 := M6.new (o := .tup (ps'.map fun p => V.ref p.1)) hd
        refine ⟨by show 2 ≤ sizeLine; decide, fun h hh => ?_⟩
        have M8 := M7.new (o := .tup [.int n, .ref d]) hh
        have tk : ord.take ((n - 1).toNat + 1) = ord := List.take_of_length_le (by omega)
        refine q _ h n (ps'.map (·.2)) (M8.st.mono (by omega)) M8.frm ⟨d, ps', upd_same, ?_, rfl, fun z hz => M8.eP z (pp.mem_iff.mp hz)⟩ ⟨U, E, g, fun x => ?_, (pp.map _).trans pE, by omega, upD⟩ n2 n3
        · rw [upd_ne (fun e => ?_), upd_same]
          rw [← e, upd_same] at hh
          cases hh
        · rw [hU, tk, pm.mem_iff, mem_rg]
end
end Fw
namespace Fw
open PySem PySem.Spec PyProof.Rows L2

/-! ### x in a tuple, by data -/
def rInT (K : PySem.W.Frag) : R2 := fun x y H Q => ∃ d ds, Dp K H x d ∧ Dp K H y (.tuple ds) ∧ SeqAt.shaped d = true ∧ SeqAt.shaped (.tuple ds) = true ∧ Q (.bl (ds.any fun z => PyData.eqv z d)) H
theorem op_inT {X : Cx} (hu : X.A.units + 65 < cLine) : OpR X (compareOp .In) (rInT X.K) := by
  intro pins s σ H x y v u Q I rx ry h
  obtain ⟨d, ds, hd, he, sd, se, q⟩ := h
  obtain ⟨as, r1⟩ := Dp.reads I d x v hd rx
  obtain ⟨bs, r2⟩ := Dp.reads I (.tuple ds) y u he ry
  exact SeqAt.in_tuple_reads r2 r1 (SeqAt.canLay_of_shaped se) (SeqAt.canLay_of_shaped sd) (room_in_shaped sd hu) ⟨.bl _, H, I, rfl, q⟩
theorem units65 {k : Nat} {A : Around} (r : Room k A) : A.units + 65 < cLine := by have := r.un; omega

/-- a door as data -/
def pd (d : Int × Int) : PyData := .tuple [.int d.1, .int d.2]
theorem pd_lay : ∀ D : List (Int × Int), PyData.canLayAll0 (D.map pd) = true
  | [] => by simp [PyData.canLayAll0]
  | d :: D => by
    rw [List.map_cons, PyData.canLayAll0, pd_lay D]
    simp [pd, PyData.canLay0, PyData.canLayAll0]
theorem pd_deep : ∀ D : List (Int × Int), PyData.depthAll (D.map pd) ≤ 1
  | [] => by simp [PyData.depthAll]
  | d :: D => by
    rw [List.map_cons, PyData.depthAll]
    have := pd_deep D
    simp [pd, PyData.depth, PyData.depthAll]
    omega
theorem pd_shaped (d : Int × Int) : SeqAt.shaped (pd d) = true := shaped_tup [d.1, d.2]
theorem pds_shaped (D : List (Int × Int)) : SeqAt.shaped (.tuple (D.map pd)) = true := by
  unfold SeqAt.shaped
  rw [PyData.canLay0, pd_lay, PyData.depth]
  have := pd_deep D
  simp
  omega
theorem pd_eqv (a b : Int × Int) : PyData.eqv (pd a) (pd b) = decide (a = b) := by
  obtain ⟨a1, a2⟩ := a
  obtain ⟨b1, b2⟩ := b
  simp only [pd, PyData.eqv, PyData.eqvAll, Bool.and_true]
  rw [Bool.eq_iff_iff]
  simp
theorem any_pd (D : List (Int × Int)) (d : Int × Int) : ((D.map pd).any fun z => PyData.eqv z (pd d)) = decide (d ∈ D) := by
  rw [Bool.eq_iff_iff, List.any_eq_true, decide_eq_true_eq]
  constructor
  · rintro ⟨z, hz, e⟩
    obtain ⟨y, hy, rfl⟩ := List.mem_map.mp hz
    rw [pd_eqv, decide_eq_true_eq] at e
    exact e ▸ hy
  · intro h
    exact ⟨pd d, List.mem_map_of_mem h, by rw [pd_eqv]; simp⟩
theorem dp_pair {K : PySem.W.Frag} {H : Hp} {t : Addr} {d : Int × Int} (h : H t = some (.tup [.int d.1, .int d.2])) : Dp K H (.ref t) (pd d) :=
  .tup (SqT.of h) (.cons (.int _) (.cons (.int _) .nil))
theorem dp_pairs {K : PySem.W.Frag} {H : Hp} : ∀ {ps : List (Addr × Int × Int)}, (∀ p ∈ ps, H p.1 = some (.tup [.int p.2.1, .int p.2.2])) → DpAll K H (ps.map fun p => V.ref p.1) ((ps.map (·.2)).map pd)
  | [], _ => .nil
  | p :: ps, h => .cons (dp_pair (h p (List.mem_cons_self ..))) (dp_pairs fun q hq => h q (List.mem_cons_of_mem _ hq))
theorem tt_by {t : TT} {Q : Bool → Hp → Prop} {σ : L2.St} {H : Hp} (Good : Bool → Hp → Prop) (h : ∀ Q' : Bool → Hp → Prop, (∀ b H', Good b H' → Q' b H') → t σ H Q') (hq : ∀ b H', Good b H' → Q b H') : t σ H Q := h _ hq

def pr (D : List (Int × Int)) (r : Int) : Int → Bool := fun o => decide ((r, o) ∈ D) || decide ((o, r) ∈ D)
def nbk (D : List (Int × Int)) (r : Int) (i : Nat) : List Int := ((List.range i).map fun (j : Nat) => 0 + (j : Int)).filter (pr D r)
theorem nbk_succ (D : List (Int × Int)) (r : Int) (i : Nat) : nbk D r (i + 1) = nbk D r i ++ if pr D r (0 + (i : Int)) = true then [0 + (i : Int)] else [] := by
  unfold nbk
  rw [List.range_succ, List.map_append, List.filter_append]
  congr 1
  by_cases c : pr D r (0 + (i : Int)) = true
  · rw [if_pos c]
    show List.filter (pr D r) [0 + (i : Int)] = _
    rw [List.filter_cons_of_pos c]
    rfl
  · rw [if_neg c]
    show List.filter (pr D r) [0 + (i : Int)] = _
    rw [List.filter_cons_of_neg c]
    rfl
theorem nbk_len (D : List (Int × Int)) (r : Int) (i : Nat) : (nbk D r i).length ≤ i := by
  refine Nat.le_trans (List.length_filter_le _ _) ?_
  simp
theorem nbk_nb (n : Int) (D : List (Int × Int)) (r : Int) : nbk D r n.toNat = nb n D r := by
  unfold nbk nb
  congr 1
  refine List.map_congr_left fun i _ => ?_
  omega

theorem get_ref {ps : List (Addr × Int × Int)} {i : Nat} {x : V} (h : (ps.map fun p => V.ref p.1)[i]? = some x) : ∃ p, ps[i]? = some p ∧ x = .ref p.1 := by
  rw [List.getElem?_map] at h
  cases e : ps[i]? with
  | none => rw [e] at h; cases h
  | some v => rw [e] at h; exact ⟨v, rfl, (Option.some.inj h).symm⟩
theorem outs_succ {D : List (Int × Int)} {r : Int} {i : Nat} {d : Int × Int} (h : D[i]? = some d) : outs (D.take (i + 1)) r = outs (D.take i) r ++ if d.1 = r then [d.2] else [] := by
  unfold outs
  rw [List.take_add_one, h, List.filter_append, List.map_append]
  congr 1
  by_cases c : d.1 = r
  · rw [if_pos c]
    show List.map _ (List.filter _ [d]) = _
    rw [List.filter_cons_of_pos (by simpa using c)]
    rfl
  · rw [if_neg c]
    show List.map _ (List.filter _ [d]) = _
    rw [List.filter_cons_of_neg (by simpa using c)]
    rfl
theorem ins_succ {D : List (Int × Int)} {r : Int} {i : Nat} {d : Int × Int} (h : D[i]? = some d) : ins (D.take (i + 1)) r = ins (D.take i) r ++ if d.2 = r then [d.1] else [] := by
  unfold ins
  rw [List.take_add_one, h, List.filter_append, List.map_append]
  congr 1
  by_cases c : d.2 = r
  · rw [if_pos c]
    show List.map _ (List.filter _ [d]) = _
    rw [List.filter_cons_of_pos (by simpa using c)]
    rfl
  · rw [if_neg c]
    show List.map _ (List.filter _ [d]) = _
    rw [List.filter_cons_of_neg (by simpa using c)]
    rfl
theorem outs_len (D : List (Int × Int)) (r : Int) : (outs D r).length ≤ D.length := by
  unfold outs
  rw [List.length_map]
  exact List.length_filter_le _ _
theorem ins_len (D : List (Int × Int)) (r : Int) : (ins D r).length ≤ D.length := by
  unfold ins
  rw [List.length_map]
  exact List.length_filter_le _ _
section
variable {P : Program} {w : World} {K : PySem.W.Frag} {mg : Str → Option Value} {base : Heap}
def spNb : Sp := fun vs H Q _ => ∃ (h : Addr) (n : Int) (D : List (Int × Int)) (r : Int), vs = [.ref h, .int r] ∧ HouseAt H h n D ∧ Forest n D ∧
  ∀ H' t, Same H H' → H' t = some (.tup (vi (nb n D r))) → Q (.ref t) H'

abbrev nNb : List Str := ["house", "room", "doors", "a", "b"]
abbrev gAB : PySem.W.Frag → TG := fun K => gTup K 2 (gCons (gName 3) (gCons (gName 4) gNil))
theorem scNb : FnScope nNb ["house", "room"] (defScope sNb) := ⟨rfl, rfl, rfl, by decide +kernel, rfl, by decide +kernel, by decide +kernel⟩
theorem ok_nb {f : Addr} {fd : FuncData} {k : Nat} (F : Fun K "neighbors" "neighbors" sNb f fd) (T : Nm mg) : FnOk P w K mg base CX0 (k + 1) f fd ["house", "room"] spNb := by
  refine F.ok scNb (fun vs H Q E h => ?_) (fun cdv A outer s H vs Q E hr h => ?_)
  · obtain ⟨h, n, D, r, rfl, _⟩ := h
    rfl
  · obtain ⟨h, n, D, r, rfl, ⟨q0, ps, h1, h2, h3, h4⟩, hF, q⟩ := h
    refine ⟨_, pss_cons (ps_set (i := 2) scNb.nd rfl (.inl rfl) (pe_ix ix_tup (pv 0) pe_int (fun _ _ => rfl)))
      (pss_one (ps_ret (pe_callTy call_tuple_of (by rfl) T.tuple (by decide +kernel) (pa_cons (pe_op op_cat
        (pe_lc (own := [("a", 3), ("b", 4)]) (g := gAB K) (by rfl) scNb.nd (pi_tup (pv 2))
          (blkOk_by (own := [("a", 3), ("b", 4)]) (N := nNb) (sc := defScope sNb) (by decide +kernel))
          (fun _ _ _ _ _ => pg_tup (by rfl) (pgs_cons (pg_name (i := 3) scNb.nd rfl (Or.inl rfl)) (pgs_cons (pg_name (i := 4) scNb.nd rfl (Or.inl rfl)) pgs_nil)))
          (fun _ _ _ _ _ => pts_one (pt_cmpR op_eq (pv 4) (pv 1) (nomark _)))
          (fun _ _ _ _ _ => pv 3))
        (pe_lc (own := [("a", 3), ("b", 4)]) (g := gAB K) (by rfl) scNb.nd (pi_tup (pv 2))
          (blkOk_by (own := [("a", 3), ("b", 4)]) (N := nNb) (sc := defScope sNb) (by decide +kernel))
          (fun _ _ _ _ _ => pg_tup (by rfl) (pgs_cons (pg_name (i := 3) scNb.nd rfl (Or.inl rfl)) (pgs_cons (pg_name (i := 4) scNb.nd rfl (Or.inl rfl)) pgs_nil)))
          (fun _ _ _ _ _ => pts_one (pt_cmpR op_eq (pv 3) (pv 1) (nomark _)))
          (fun _ _ _ _ _ => pv 4))) pa_nil)))), ?_⟩
    have el := hF.len
    have eD : D.take (ps.map fun p => V.ref p.1).length = D := by
      rw [h3, List.length_map, ← List.length_map (f := fun x : Addr × Int × Int => x.2), List.take_length]
    refine ⟨_, rfl, h, _, _, _, rfl, rfl, SqT.of h1, atI1, ?_⟩
    refine ⟨_, rfl, q0, rfl, ⟨_, SqT.of h2⟩, fun L hL => lc_tup (K := K) (a := q0) (xs := ps.map fun p => V.ref p.1) (fun i H1 => Same H H1 ∧ H1 L = some (.lst (vi (ins (D.take i) r))))
      ⟨same_upd hL, upd_same⟩ (fun i H1 _ hh => SqT.of (hh.1 _ _ h2)) ?_ ?_⟩
    · rintro i x H1 hx ⟨s1, e1⟩
      obtain ⟨p, hp, rfl⟩ := get_ref hx
      have ed : D[i]? = some p.2 := by rw [h3, List.getElem?_map, hp]; rfl
      refine ⟨p.1, _, rfl, SqT.of (s1 _ _ (h4 p (List.mem_of_getElem? hp))), rfl, _, _, rfl, _, _, rfl, rfl, rfl, _, rfl, _, rfl, rfl, _, rfl, ?_⟩
      refine ite2 (fun c => ?_) (fun c => ?_)
      · have c : p.2.2 = r := V.int.inj (of_decide_eq_true c)
        refine ⟨_, rfl, _, e1, ?_, same_put s1 hL, ?_⟩
        · rw [List.length_map]
          exact small1000 (Nat.le_trans (ins_len _ _) (by rw [List.length_take]; omega))
        · rw [upd_same, ins_succ ed, if_pos c, vi_app]
          rfl
      · have c : ¬ p.2.2 = r := fun e => c (decide_eq_true (by rw [e]))
        refine ⟨s1, ?_⟩
        rw [ins_succ ed, if_neg c, List.append_nil]
        exact e1
    · rintro H1 ⟨s1, e1⟩
      rw [eD] at e1
      refine ⟨_, rfl, q0, rfl, ⟨_, SqT.of (s1 _ _ h2)⟩, fun M hM => lc_tup (K := K) (a := q0) (xs := ps.map fun p => V.ref p.1) (fun i H2 => Same H1 H2 ∧ H2 M = some (.lst (vi (outs (D.take i) r))))
        ⟨same_upd hM, upd_same⟩ (fun i H2 _ hh => SqT.of (hh.1 _ _ (s1 _ _ h2))) ?_ ?_⟩
      · rintro i x H2 hx ⟨s2, e2⟩
        obtain ⟨p, hp, rfl⟩ := get_ref hx
        have ed : D[i]? = some p.2 := by rw [h3, List.getElem?_map, hp]; rfl
        refine ⟨p.1, _, rfl, SqT.of (s2 _ _ (s1 _ _ (h4 p (List.mem_of_getElem? hp)))), rfl, _, _, rfl, _, _, rfl, rfl, rfl, _, rfl, _, rfl, rfl, _, rfl, ?_⟩
        refine ite2 (fun c => ?_) (fun c => ?_)
        · have c : p.2.1 = r := V.int.inj (of_decide_eq_true c)
          refine ⟨_, rfl, _, e2, ?_, same_put s2 hM, ?_⟩
          · rw [List.length_map]
            exact small1000 (Nat.le_trans (outs_len _ _) (by rw [List.length_take]; omega))
          · rw [upd_same, outs_succ ed, if_pos c, vi_app]
            rfl
        · have c : ¬ p.2.1 = r := fun e => c (decide_eq_true (by rw [e]))
          refine ⟨s2, ?_⟩
          rw [outs_succ ed, if_neg c, List.append_nil]
          exact e2
      · rintro H2 ⟨s2, e2⟩
        rw [eD] at e2
        refine ⟨L, M, _, _, rfl, rfl, s2 _ _ e1, e2, ?_, fun N hN => ?_⟩
        · rw [List.length_map, List.length_map]
          have h1 := outs_len D r
          have h2 := ins_len D r
          exact Nat.le_of_lt (small1000 (by omega))
        rw [← vi_app, hF.nb_eq r]
        refine ⟨N, _, rfl, .inl ⟨SqL.of upd_same, fun t ht => q _ t ?_ upd_same⟩⟩
        exact ((s1.trans s2).trans (same_upd hN)).trans (same_upd ht)
def spLNb : Sp := fun vs H Q _ => ∃ (h : Addr) (n : Int) (D : List (Int × Int)) (r : Int), vs = [.ref h, .int r] ∧ HouseAt H h n D ∧ Forest n D ∧
  ∀ H' l, Same H H' → H l = none → H' l = some (.lst (vi (nb n D r))) → Q (.ref l) H'

abbrev nLNb : List Str := ["_law_house_here", "_law_room", "_law_found", "_law_one", "_law_other"]
abbrev gOO : PySem.W.Frag → TG := fun K => gTup K 2 (gCons (gName 3) (gCons (gName 4) gNil))
theorem scLNb : FnScope nLNb ["_law_house_here", "_law_room"] (defScope sLNb) := ⟨rfl, rfl, rfl, by decide +kernel, rfl, by decide +kernel, by decide +kernel⟩
theorem ok_lnb {f : Addr} {fd : FuncData} {k : Nat} (F : Fun K "_law_neighbors" "_law_neighbors" sLNb f fd) (T : Nm mg) : FnOk P w K mg base CX0 (k + 1) f fd ["_law_house_here", "_law_room"] spLNb := by
  refine F.ok scLNb (fun vs H Q E h => ?_) (fun cdv A outer s H vs Q E hr h => ?_)
  · obtain ⟨h, n, D, r, rfl, _⟩ := h
    rfl
  · obtain ⟨h, n, D, r, rfl, ⟨q0, ps, h1, h2, h3, h4⟩, hF, q⟩ := h
    refine ⟨_, pss_cons (ps_setLc (i := 2) (own := [("_law_one", 3), ("_law_other", 4)]) (g := gOO K) (by rfl) scLNb.nd rfl rfl (sw_true rfl rfl rfl (by decide +kernel)) (pi_tup (pe_ix ix_tup (pv 0) pe_int (fun _ _ => rfl)))
        (blkOk_by (own := [("_law_one", 3), ("_law_other", 4)]) (N := nLNb) (sc := defScope sLNb) (by decide +kernel))
        (fun _ _ _ _ _ => pg_tup (by rfl) (pgs_cons (pg_name (i := 3) scLNb.nd rfl (Or.inl rfl)) (pgs_cons (pg_name (i := 4) scLNb.nd rfl (Or.inl rfl)) pgs_nil)))
        (fun _ _ _ _ _ => pts_one (pt_cmpR op_eq (pv 3) (pv 1) (nomark _)))
        (fun _ _ _ _ _ => pv 4))
      (pss_one (ps_ret (pe_callB cr_sortedI (by rfl) T.sorted (by decide +kernel) (pa_cons (pe_op op_cat (pv 2)
        (pe_lc (own := [("_law_one", 3), ("_law_other", 4)]) (g := gOO K) (by rfl) scLNb.nd (pi_tup (pe_ix ix_tup (pv 0) pe_int (fun _ _ => rfl)))
          (blkOk_by (own := [("_law_one", 3), ("_law_other", 4)]) (N := nLNb) (sc := defScope sLNb) (by decide +kernel))
          (fun _ _ _ _ _ => pg_tup (by rfl) (pgs_cons (pg_name (i := 3) scLNb.nd rfl (Or.inl rfl)) (pgs_cons (pg_name (i := 4) scLNb.nd rfl (Or.inl rfl)) pgs_nil)))
          (fun _ _ _ _ _ => pts_one (pt_cmpR op_eq (pv 4) (pv 1) (nomark _)))
          (fun _ _ _ _ _ => pv 3))) pa_nil)))), ?_⟩
    refine ⟨_, rfl, h, _, _, _, rfl, rfl, SqT.of h1, atI1, q0, rfl, ⟨_, SqT.of h2⟩, fun L hL => lc_tup (K := K) (a := q0) (xs := ps.map fun p => V.ref p.1) (fun i H1 => Same H H1 ∧ H1 L = some (.lst (vi (outs (D.take i) r))))
      ⟨same_upd hL, upd_same⟩ (fun i H1 _ hh => SqT.of (hh.1 _ _ h2)) ?_ ?_⟩
    · rintro i x H1 hx ⟨s1, e1⟩
      obtain ⟨p, hp, rfl⟩ := get_ref hx
      have ed : D[i]? = some p.2 := by rw [h3, List.getElem?_map, hp]; rfl
      have em := List.mem_of_getElem? hp
      refine ⟨p.1, _, rfl, SqT.of (s1 _ _ (h4 p em)), rfl, _, _, rfl, _, _, rfl, rfl, rfl, _, rfl, _, rfl, rfl, _, rfl, ?_⟩
      refine ite2 (fun c => ?_) (fun c => ?_)
      · have c : p.2.1 = r := V.int.inj (of_decide_eq_true c)
        refine ⟨_, rfl, _, e1, ?_, same_put s1 hL, ?_⟩
        · rw [List.length_map]
          exact small1000 (Nat.le_trans (outs_len _ _) (by have := hF.len; rw [List.length_take]; omega))
        · rw [upd_same, outs_succ ed, if_pos c, vi_app]
          rfl
      · have c : ¬ p.2.1 = r := fun e => c (decide_eq_true (by rw [e]))
        refine ⟨s1, ?_⟩
        rw [outs_succ ed, if_neg c, List.append_nil]
        exact e1
    · rintro H1 ⟨s1, e1⟩
      have eD : D.take (ps.map fun p => V.ref p.1).length = D := by
        rw [h3, List.length_map, ← List.length_map (f := fun x : Addr × Int × Int => x.2), List.take_length]
      rw [eD] at e1
      refine ⟨_, rfl, _, rfl, h, _, _, _, rfl, rfl, SqT.of (s1 _ _ h1), atI1, q0, rfl, ⟨_, SqT.of (s1 _ _ h2)⟩, fun M hM => lc_tup (K := K) (a := q0) (xs := ps.map fun p => V.ref p.1) (fun i H2 => Same H1 H2 ∧ H2 M = some (.lst (vi (ins (D.take i) r))))
        ⟨same_upd hM, upd_same⟩ (fun i H2 _ hh => SqT.of (hh.1 _ _ (s1 _ _ h2))) ?_ ?_⟩
      · rintro i x H2 hx ⟨s2, e2⟩
        obtain ⟨p, hp, rfl⟩ := get_ref hx
        have ed : D[i]? = some p.2 := by rw [h3, List.getElem?_map, hp]; rfl
        have em := List.mem_of_getElem? hp
        refine ⟨p.1, _, rfl, SqT.of (s2 _ _ (s1 _ _ (h4 p em))), rfl, _, _, rfl, _, _, rfl, rfl, rfl, _, rfl, _, rfl, rfl, _, rfl, ?_⟩
        refine ite2 (fun c => ?_) (fun c => ?_)
        · have c : p.2.2 = r := V.int.inj (of_decide_eq_true c)
          refine ⟨_, rfl, _, e2, ?_, same_put s2 hM, ?_⟩
          · rw [List.length_map]
            exact small1000 (Nat.le_trans (ins_len _ _) (by have := hF.len; rw [List.length_take]; omega))
          · rw [upd_same, ins_succ ed, if_pos c, vi_app]
            rfl
        · have c : ¬ p.2.2 = r := fun e => c (decide_eq_true (by rw [e]))
          refine ⟨s2, ?_⟩
          rw [ins_succ ed, if_neg c, List.append_nil]
          exact e2
      · rintro H2 ⟨s2, e2⟩
        rw [eD] at e2
        have el := hF.len
        refine ⟨L, M, _, _, rfl, rfl, s2 _ _ e1, e2, ?_, fun N hN => ?_⟩
        · rw [List.length_map, List.length_map]
          have h1 := outs_len D r
          have h2 := ins_len D r
          exact Nat.le_of_lt (small1000 (by omega))
        · rw [← vi_app]
          refine ⟨N, _, rfl, SqL.of upd_same, fun ys Z hp hup hZ => ?_⟩
          refine q _ Z ((s1.trans s2).trans ((same_upd hN).trans (same_upd hZ))) (s1.free (s2.free ((same_upd hN).free hZ))) ?_
          rw [upd_same, hF.sorted_nb hp hup]
end
end Fw
namespace Fw
open PySem PySem.Spec PyProof.Rows L2

/-! ### repr, where no repr is under way -/
def rRepr (K : PySem.W.Frag) : List V → Hp → VK → Prop := fun vs H Q => ∃ (a : Addr) (d : PyData), vs = [.ref a] ∧ Dp K H (.ref a) d ∧ d.showable = true ∧ d.hasDict = false ∧ d.depth ≤ 60 ∧ d.shown.length ≤ sizeLine ∧ Q (.str d.shown) H
theorem call_repr {X : Cx} (hg : X.A.guards = some []) (hu : X.A.units + 65 < cLine) : CallR X (.builtin "repr") (rRepr X.K) := by
  intro pins s σ H vs us Q I r h
  obtain ⟨a, d, rfl, hd, hs, hn, hp, hz, q⟩ := h
  obtain ⟨u, rfl, ru⟩ := vals1 r
  obtain rfl : u = Value.ref a := ru
  obtain ⟨as, rd⟩ := Dp.reads I d _ _ hd rfl
  refine repr_of_reads' rd hs (fun z => ?_) hg (by omega) (fun _ _ e => e) (fun h' t tk hk => ?_) hz
  · rw [hn] at z
    cases z
  · exact ⟨.str _, H, I.kept hk, ⟨_, rfl⟩, q⟩

/-! ### a def that is run where no repr is under way -/
structure FnG (P : Program) (w : World) (K : PySem.W.Frag) (mg : Str → Option Value) (base : Heap) (k : Nat) (f : Addr) (fd : FuncData) (ps : List Str) (sp : Sp) : Prop where
  len : ∀ vs H Q E, sp vs H Q E → vs.length = ps.length
  go : ∀ (A : Around) (out : List Env) (st : Shared) (H : Hp) (as : Args) (us : List Value) (vs : List V) (Q : VK), A.guards = some [] → Room k A → Env0 P w K mg base A out st H → BindsTo st fd as (ps.zip us) → Vals vs us → sp vs H Q E0 →
    codeAny (model P w) A (.call (.ref f) as) (CR CX0 out P w H st Q E0) st

section
variable {P : Program} {w : World} {K : PySem.W.Frag} {mg : Str → Option Value} {base : Heap}
theorem Fun.okG {x : Str} {st : Stmt} {f : Addr} {fd : FuncData} {N ps : List Str} {k : Nat} {sp : Sp} (F : Fun K x x st f fd) (S : FnScope N ps (defScope st)) (len : ∀ vs H Q E, sp vs H Q E → vs.length = ps.length)
    (bd : ∀ (c : Value) (A : Around) (out : List Env) (z : Shared) (H : Hp) (vs : List V) (Q : VK), (A.deeper (envOfC x (defScope st) z.heap.objs.size f c)).guards = some [] → Room k (A.deeper (envOfC x (defScope st) z.heap.objs.size f c)) → sp vs H Q E0 →
      ∃ t, PSs (cxOf CX0 P w K mg base N x (defScope st) f c A out z H E0).nox (defBody st) t ∧ t { nx := fun _ H' => Q .non H', rt := Q } (L2.start N vs) H) : FnG P w K mg base (k + 1) f fd ps sp := by
  obtain ⟨oc, od, kV, doc, pm, an, c, ct, osl, rfl, lk, hc⟩ := F.ex
  refine ⟨len, fun A out z H as us vs Q gd room en bi rel hs => ?_⟩
  have kin : K.In z.heap := fun b o e => (en.bs b o (en.mod.kin b o e)).1
  refine codeAny_call_function room.depth (kin _ _ lk) rfl S.co S.gen rfl (PySem.W.codeRec_of kin hc) (bi _ _ _ _ ?_)
  have kinds : ∀ y ∈ ps.zip us, (defScope st).names.lookup y.1 = some .local ∨ ((defScope st).names.lookup y.1 = some .cell ∧ ((cellsFrom (z.heap.objs.size + 1) (defScope st).names []).lookup y.1).isSome = true) := by
    rintro ⟨n, v⟩ hy
    exact (S.par n (List.of_mem_zip hy).1).imp id fun q => ⟨q, PySem.W.cellsFrom_some _ _ _ (.inl q)⟩
  refine wpAny_newFunctionEnv_cells S.kind kinds fun env ee z1 ic => ?_
  subst ee
  refine ⟨(en.mod.nolimit.keeps fun b o e => (en.bs b o e).1).keeps ic.toInCall.keep, codeAny_func ?_⟩
  obtain ⟨t, d, rd⟩ := bd c A out z H vs Q gd (room.deeper _) hs
  have inv := inv_start (CX := CX0) (E := E0) S room.hd en (len _ _ _ _ hs) rel ic
  refine wpAny_mono (d.nox.run [] z1 _ H _ inv rd) (fun fl z2 e => ?_) fun _ _ e => e
  match fl, e with
  | .ret u, ⟨v, σ', H', J, rv, q⟩ => exact ⟨v, H', J.os, J.bare, J.base, J.hok, rv, q⟩
  | .next, ⟨σ', H', J, q⟩ => exact ⟨.non, H', J.os, J.bare, J.base, J.hok, rfl, q⟩
  | .brk, ⟨_, _, _, q⟩ => exact q.elim
  | .cont, ⟨_, _, _, q⟩ => exact q.elim

/-- a call of such a def -/
theorem pe_callG {X : Cx} {k : Nat} {f : Addr} {fd : FuncData} {ps : List Str} {sp : Sp} {x : Str} {p pos : Pos} {e : Expr} {es : List Expr} {t : TA} (F : FnG X.prog X.w X.K X.mg X.base k f fd ps sp) (gd : X.A.guards = some []) (hr : Room k X.A)
    (hg : Gl X x) (hm : X.mg x = some (.ref f)) (hk : PySem.W.keepIn X.K (.ref f) = true) (hb : Binds X.K fd ps []) (ha : PA X (e :: es) t) (hdb : (x == ("__debug__" : Str)) = false := by decide)
    (h1 : starEach (e :: es) X.env = (false, eval e X.env) :: starEach es X.env := by rfl) (h2 : (backTo pos (starEach es X.env)).any (·.1) = false := by rfl) : PE X (.Call (.Name x p) (e :: es) [] pos) (tCall sp [] E0 t) := by
  constructor
  intro pins z σ H Q I h
  refine wpAny_Call_Name_kw (ld_glob I hg hm (PySem.W.callWith_K (h₀ := X.base) I.ok.mod.kin hk (thn (ha.run pos pins z σ H _ I h) ?_) h1 h2) hdb)
  rintro us z1 ⟨vs, H1, I1, r, q⟩
  refine ⟨I1.kIn, wpAny_call (codeAny_mono (F.go X.A X.stack z1 H1 ⟨us, []⟩ (us ++ []) (vs ++ []) Q gd hr I1.env0 (hb z1 us I1.kIn ?_) (r.append .nil) q) fun a z2 hq => ?_)⟩
  · rw [← (r.append .nil).length]
    exact F.len _ _ _ _ q
  · match a, hq with
    | .error _, hq => exact hq.elim
    | .ok (.ret u), hq => exact I1.after hq
    | .ok .next, hq => exact hq.elim
    | .ok .brk, hq => exact hq.elim
    | .ok .cont, hq => exact hq.elim
end
end Fw
namespace Fw
open PySem PySem.Spec PyProof.Rows L2

/-- the state at the law's own call: only the script is tracked -/
theorem top_state {P : Program} {w : World} {K : PySem.W.Frag} {mg mb : Str → Option Value} {a : Addr} {z : Shared} {vs : List Value} {ns : List Int} (kin : K.In z.heap) (gl : z.heap.Ns mainGlobals mg) (bl : z.heap.Ns builtinsNs mb)
    (bb : ∀ x : Str, x ≠ "__name__" → mb x = bootBuiltins x) (lim : z.heap.NoLimit) (ge : z.gens = #[]) (obj : z.heap.get? a = some { cls := .type "list", data := .seq vs.toArray }) (hi : IntsAre vs ns) (hl : ns.length ≤ sizeLine) :
    ∃ (H : Hp) (base : Heap), SqL K H a (vi ns) ∧ K.In base ∧ base.Ns mainGlobals mg ∧ Env0 P w K mg base callerA [] z H ∧ ∀ (H' : Hp) (z' : Shared), Un (frs []) [] H H' z.heap z'.heap → HOk P w H' z'.heap → OldK z.heap z'.heap := by
  have rel : Vals (vi ns) vs := vals_ints hi
  -- what is tracked: nothing, or the script alone
  have pick : ∃ H : Hp, SqL K H a (vi ns) ∧ HOk P w H z.heap ∧ (∀ b, H b = none ∨ (b = a ∧ K.lookup a = none ∧ ∃ xs, H b = some (.frz { cls := .type "list", data := .seq vs.toArray } (.lst xs)))) := by
    cases e : K.lookup a with
    | some o =>
      have e2 : o = { cls := .type "list", data := .seq vs.toArray } := by
        have := kin a o e
        rw [obj] at this
        exact (Option.some.inj this).symm
      subst e2
      refine ⟨fun _ => none, .inr ⟨_, vs.toArray, _, e, rfl, rfl, rfl, ?_, rel⟩, fun b u q => ?_, fun b => .inl rfl⟩
      · rw [List.size_toArray, hi.length]
        exact hl
      · cases (show (none : Option HO) = some u from q)
    | none =>
      refine ⟨upd (fun _ => none) a (.frz { cls := .type "list", data := .seq vs.toArray } (.lst (vi ns))), .inl (.inr ⟨_, upd_same⟩), fun b u q => ?_, fun b => ?_⟩
      · by_cases eb : b = a
        · rw [eb, upd_same] at q
          cases q
          rw [eb]
          exact ⟨obj, by rw [List.length_map]; exact hl, vs, _, rel, obj⟩
        · rw [upd_ne eb] at q
          cases q
      · by_cases eb : b = a
        · exact .inr ⟨eb, rfl, _, by rw [eb]; exact upd_same⟩
        · exact .inl (upd_ne eb)
  obtain ⟨H, hS, hok, only⟩ := pick
  have low : ∀ {b : Addr} {o : Obj}, z.heap.get? b = some o → (b = a → K.lookup a ≠ none) → (hidT z.heap H).get? b = some o := fun {b o} e q => hidT_get e (by
    rcases only b with n | ⟨eb, n, _⟩
    · exact n
    · exact absurd n (q eb))
  have dic : ∀ {b : Addr} {m : Str → Option Value}, z.heap.Ns b m → (hidT z.heap H).Ns b m := fun {b m} h => by
    obtain ⟨o, es, ep, e, d, r⟩ := h
    refine ⟨o, es, ep, hidT_get e ?_, d, r⟩
    rcases only b with n | ⟨eb, _, _⟩
    · exact n
    · rw [eb, obj] at e
      cases e
      cases (show Data.seq vs.toArray _ = Data.dict es ep from d)
  have kb : K.In (hidT z.heap H) := fun b o e => low (kin b o e) fun eb n => by
    rw [eb, n] at e
    cases e
  refine ⟨H, hidT z.heap H, hS, kb, dic gl, ?_, fun H' z' un ok' => OldK.of_keep fun b o e => ?_⟩
  · refine { frames := rfl, mod := ⟨kb, dic gl, ⟨mb, dic bl, bb⟩, ?_⟩, bs := fun b o e => of_hidT e, bsz := Nat.le_of_eq (hidT_size _ _), funs := trivial, frf := fun b hb => ?_, hok := hok, bare := .of_eq ge }
    · obtain ⟨mc, h1, h2⟩ := lim
      exact ⟨mc, dic h1, h2⟩
    · cases (show b ∈ ([] : List Addr) from hb)
  · rcases only b with n | ⟨eb, _, xs, fz⟩
    · refine un.keep b o e n (fun hb => ?_) (fun hb => ?_)
      · cases (show b ∈ ([] : List Addr) from hb)
      · cases hb
    · have f2 := (ok' b _ (un.frzs b _ _ fz)).1
      rw [eb, obj] at e
      cases e
      exact f2

/-- the law's def takes the script alone -/
abbrev Takes1 (fd : FuncData) : Prop := ∀ (z : Shared) (v : Value), BindsTo z fd ⟨[v], []⟩ [("_law_script", v)]
/-- the law's def, at fa, keeps sp over whatever holds the written part -/
def LawAt (P : Program) (w : World) (K : PySem.W.Frag) (mg : Str → Option Value) (k : Nat) (fa : Addr) (sp : Sp) : Prop :=
  ∃ fd, Takes1 fd ∧ ∀ b : Heap, K.In b → b.Ns mainGlobals mg → FnG P w K mg b k fa fd ["_law_script"] sp
/-- a promise that says True of every script -/
def Tells (sp : PySem.W.Frag → Sp) : Prop := ∀ K H a ns, ns.length ≤ 63 → SqL K H a (vi ns) → sp K [.ref a] H (fun v _ => v = .bl true) E0
/-- how a call that keeps such a promise ends -/
structure Told (P : Program) (w : World) (H : Hp) (z : Shared) (r : Result) (z' : Shared) : Prop where
  res : r = .ok (.ret (.bool true))
  os : z'.os = z.os
  bare : AllBare z'.gens
  st : ∃ H', Un (frs []) [] H H' z.heap z'.heap ∧ HOk P w H' z'.heap
theorem told {P : Program} {w : World} {H : Hp} {z z' : Shared} {r : Result} (e : CR CX0 [] P w H z (fun v _ => v = .bl true) E0 r z') : Told P w H z r z' := by
  rcases r with _ | f
  · exact False.elim e
  cases f
  all_goals first | exact False.elim e | skip
  rename_i u
  obtain ⟨v, H', o1, o2, un, ok, rv, qv⟩ := e
  have qv : v = .bl true := qv
  rw [qv] at rv
  exact ⟨by rw [show u = Value.bool true from rv], o1, o2, H', un, ok⟩
/-- the end of a law whose def wants that no repr is under way -/
theorem walkG {l : PySem.W.OpenLaw} {k : Nat} {q : Program} {ls : List Str} {XP : (Str → Option Value) → Heap → Prop} {Y : World → Heap → Prop} {d : DefRec} {K : Params → PySem.W.Frag} {sp : PySem.W.Frag → Sp} (t : Tells sp) (m : l.most = some 63) (nd : d.params.defaults = []) (room : Room k callerA)
    (inK : ∀ w h, Y w h → (K w.params).In h) (L : ∀ w mg fa h, (K w.params).In h → h.Ns mainGlobals mg → mg d.name = some (.ref fa) → LawAt l.prog w (K w.params) mg k fa (sp (K w.params))) :
    PySem.W.WalkO q ls XP Y l.row.toRowW d [] (fun f vs => PySem.call f vs) := by
  apply Att.attach_call m nd
  intro w _ z mg _ fa _ _ _ _ a vs ns G y _ _ _ here obj hi few gens
  obtain ⟨fd, one, keeps⟩ := L w mg fa _ (inK w _ y) G.T.g here
  obtain ⟨H, b, hS, kb, gb, en, old⟩ := top_state (P := l.prog) (w := w) (inK w _ y) G.T.g G.T.b G.T.builtins G.T.nolimit gens obj hi (Nat.le_trans few (by decide))
  have c := (keeps b kb gb).go callerA [] z H ⟨[.ref a], []⟩ [.ref a] [.ref a] (fun v _ => v = .bl true) rfl room en (one z (.ref a)) (.cons rfl .nil) (t _ H a ns few hS)
  exact codeAny_mono c fun r z' e => by
    have e := told e
    obtain ⟨H', un, ok⟩ := e.st
    exact ⟨e.res, old H' z' un ok, e.os, e.bare⟩
end Fw
namespace Fw
open PySem PySem.Spec PyProof.Rows L2
/-- a house as data -/
def hd (n : Int) (D : List (Int × Int)) : PyData := .tuple [.int n, .tuple (D.map pd)]
theorem log_small {i : Int} (h0 : 0 ≤ i) (h1 : i ≤ 100) : i.natAbs.log2 < 1920 := by
  by_cases h : i.natAbs = 0
  · rw [h]; decide
  · exact (Nat.log2_lt h).mpr (Nat.lt_of_le_of_lt (show i.natAbs ≤ 2 ^ 7 by omega) (Nat.pow_lt_pow_right (by decide) (by decide)))
theorem pds_show : ∀ {D : List (Int × Int)}, (∀ d ∈ D, 0 ≤ d.1 ∧ d.1 ≤ 100 ∧ 0 ≤ d.2 ∧ d.2 ≤ 100) → PyData.showableAll (D.map pd) = true ∧ PyData.leavesShortAll 13 (D.map pd) = true
  | [], _ => by simp [PyData.showableAll, PyData.leavesShortAll]
  | d :: D, h => by
    obtain ⟨i1, i2⟩ := pds_show (D := D) fun x hx => h x (List.mem_cons_of_mem _ hx)
    obtain ⟨a0, a1, b0, b1⟩ := h d (List.mem_cons_self ..)
    have s1 := PyData.shown_int_le2 (i := d.1) (by omega) (by omega)
    have s2 := PyData.shown_int_le2 (i := d.2) (by omega) (by omega)
    rw [List.map_cons, PyData.showableAll, PyData.leavesShortAll, i1, i2]
    simp only [pd, PyData.showable, PyData.showableAll, PyData.leavesShort, PyData.leavesShortAll, Bool.and_true]
    exact ⟨by rw [decide_eq_true (log_small a0 a1), decide_eq_true (log_small b0 b1)]; rfl, by rw [decide_eq_true s1, decide_eq_true s2]; rfl⟩
theorem pds_nodict : ∀ D : List (Int × Int), PyData.hasDictAll (D.map pd) = false
  | [] => by simp [PyData.hasDictAll]
  | d :: D => by
    rw [List.map_cons, PyData.hasDictAll, pds_nodict D]
    simp [pd, PyData.hasDict, PyData.hasDictAll]
theorem pds_bulk : ∀ D : List (Int × Int), PyData.bulkAll (D.map pd) = 3 * D.length
  | [] => by simp [PyData.bulkAll]
  | d :: D => by
    rw [List.map_cons, PyData.bulkAll, pds_bulk D]
    simp [pd, PyData.bulk, PyData.bulkAll]
    omega
structure Shows (d : PyData) : Prop where
  s : d.showable = true
  n : d.hasDict = false
  p : d.depth ≤ 60
  z : d.shown.length ≤ sizeLine
theorem hd_shows {n : Int} {D : List (Int × Int)} (n0 : 0 ≤ n) (n1 : n ≤ 100) (h : ∀ d ∈ D, 0 ≤ d.1 ∧ d.1 ≤ 100 ∧ 0 ≤ d.2 ∧ d.2 ≤ 100) (hl : D.length ≤ 100) : Shows (hd n D) := by
  obtain ⟨i1, i2⟩ := pds_show h
  have s1 := PyData.shown_int_le2 (i := n) (by omega) (by omega)
  have dp := pd_deep D
  refine ⟨?_, ?_, ?_, PyData.shown_fits_bulk (B := 13) (by decide) (by decide) ?_ ?_⟩
  · simp only [hd, PyData.showable, PyData.showableAll, Bool.and_true, i1]
    rw [decide_eq_true (log_small n0 n1)]
  · simp only [hd, PyData.hasDict, PyData.hasDictAll, Bool.or_false, Bool.false_or]
    exact pds_nodict D
  · simp only [hd, PyData.depth, PyData.depthAll]
    omega
  · simp only [hd, PyData.leavesShort, PyData.leavesShortAll, Bool.and_true, i2]
    rw [decide_eq_true s1]
  · simp only [hd, PyData.bulk, PyData.bulkAll, pds_bulk]
    omega
theorem Forest.shows {n : Int} {D : List (Int × Int)} (f : Forest n D) (n0 : 0 ≤ n) (n1 : n ≤ 8) : Shows (hd n D) := by
  refine hd_shows n0 (by omega) (fun d hd => ?_) (Nat.le_trans f.len (by decide))
  have := f.ends (a := d.1) (b := d.2) hd
  omega
theorem HouseAt.dp {K : PySem.W.Frag} {H : Hp} {h : Addr} {n : Int} {D : List (Int × Int)} (x : HouseAt H h n D) : Dp K H (.ref h) (hd n D) := by
  obtain ⟨q, ps, h1, h2, h3, h4⟩ := x
  rw [h3]
  exact .tup (SqT.of h1) (.cons (.int n) (.cons (.tup (SqT.of h2) (dp_pairs h4)) .nil))
end Fw
namespace Fw
open PySem PySem.Spec PyProof.Rows L2
/-- a def of the text, wherever it stands -/
def DefE (K : PySem.W.Frag) (mg : Str → Option Value) (x : Str) (st : Stmt) (ps : List Str) : Prop := ∃ f fd, Def K mg x st f fd ps
/-- a def that keeps a promise, by its name -/
def Cal (P : Program) (w : World) (K : PySem.W.Frag) (mg : Str → Option Value) (base : Heap) (k : Nat) (x : Str) (ps : List Str) (sp : Sp) : Prop :=
  ∃ f fd, mg x = some (.ref f) ∧ PySem.W.keepIn K (.ref f) = true ∧ Binds K fd ps [] ∧ FnOk P w K mg base CX0 k f fd ps sp
def CalG (P : Program) (w : World) (K : PySem.W.Frag) (mg : Str → Option Value) (base : Heap) (k : Nat) (x : Str) (ps : List Str) (sp : Sp) : Prop :=
  ∃ f fd, mg x = some (.ref f) ∧ PySem.W.keepIn K (.ref f) = true ∧ Binds K fd ps [] ∧ FnG P w K mg base k f fd ps sp
section
variable {P : Program} {w : World} {K : PySem.W.Frag} {mg : Str → Option Value} {base : Heap}
theorem Def.cal {x : Str} {st : Stmt} {f : Addr} {fd : FuncData} {ps : List Str} {k : Nat} {sp : Sp} (D : Def K mg x st f fd ps) (h : FnOk P w K mg base CX0 k f fd ps sp) : Cal P w K mg base k x ps sp :=
  ⟨f, fd, D.g, D.F.kp, D.b, h⟩
theorem Def.calG {x : Str} {st : Stmt} {f : Addr} {fd : FuncData} {ps : List Str} {k : Nat} {sp : Sp} (D : Def K mg x st f fd ps) (h : FnG P w K mg base k f fd ps sp) : CalG P w K mg base k x ps sp :=
  ⟨f, fd, D.g, D.F.kp, D.b, h⟩
theorem DefE.cal {x : Str} {st : Stmt} {ps : List Str} {k : Nat} {sp : Sp} (D : DefE K mg x st ps) (h : ∀ f fd, Def K mg x st f fd ps → FnOk P w K mg base CX0 k f fd ps sp) : Cal P w K mg base k x ps sp := by
  obtain ⟨f, fd, d⟩ := D
  exact d.cal (h f fd d)
theorem DefE.calG {x : Str} {st : Stmt} {ps : List Str} {k : Nat} {sp : Sp} (D : DefE K mg x st ps) (h : ∀ f fd, Def K mg x st f fd ps → FnG P w K mg base k f fd ps sp) : CalG P w K mg base k x ps sp := by
  obtain ⟨f, fd, d⟩ := D
  exact d.calG (h f fd d)
theorem Cal.imp {x : Str} {ps : List Str} {k : Nat} {sp sp' : Sp} (C : Cal P w K mg base k x ps sp) (h : ∀ vs H Q E, sp' vs H Q E → sp vs H Q E) : Cal P w K mg base k x ps sp' := by
  obtain ⟨f, fd, a, b, c, d⟩ := C
  exact ⟨f, fd, a, b, c, d.imp h⟩
theorem Cal.up {x : Str} {ps : List Str} {j k : Nat} {sp : Sp} (C : Cal P w K mg base j x ps sp) (h : j ≤ k) : Cal P w K mg base k x ps sp := by
  obtain ⟨f, fd, a, b, c, d⟩ := C
  exact ⟨f, fd, a, b, c, d.mono h⟩
theorem pe_cal {X : Cx} {k : Nat} {ps : List Str} {sp : Sp} {x : Str} {p pos : Pos} {e : Expr} {es : List Expr} {t : TA} (C : Cal X.prog X.w X.K X.mg X.base k x ps sp) (hr : Room k X.A) (hg : Gl X x) (ha : PA X (e :: es) t) (hdb : (x == ("__debug__" : Str)) = false := by decide)
    (h1 : starEach (e :: es) X.env = (false, eval e X.env) :: starEach es X.env := by rfl) (h2 : (backTo pos (starEach es X.env)).any (·.1) = false := by rfl) : PE X (.Call (.Name x p) (e :: es) [] pos) (tCall sp [] E0 t) := by
  obtain ⟨f, fd, a, b, c, d⟩ := C
  exact pe_call d hr hg a b c .nil pass0 ha hdb h1 h2
theorem pe_calG {X : Cx} {k : Nat} {ps : List Str} {sp : Sp} {x : Str} {p pos : Pos} {e : Expr} {es : List Expr} {t : TA} (C : CalG X.prog X.w X.K X.mg X.base k x ps sp) (gd : X.A.guards = some []) (hr : Room k X.A) (hg : Gl X x) (ha : PA X (e :: es) t) (hdb : (x == ("__debug__" : Str)) = false := by decide)
    (h1 : starEach (e :: es) X.env = (false, eval e X.env) :: starEach es X.env := by rfl) (h2 : (backTo pos (starEach es X.env)).any (·.1) = false := by rfl) : PE X (.Call (.Name x p) (e :: es) [] pos) (tCall sp [] E0 t) := by
  obtain ⟨f, fd, a, b, c, d⟩ := C
  exact pe_callG d gd hr hg a b c ha hdb h1 h2
end
def tTru (K : PySem.W.Frag) (ta : TE) : TT := fun σ H Q => ta σ H fun x H' => ∃ k, TruV K x H' k ∧ Q k H'
/-! ### the rules with the written part told (so that they can stand in a comprehension) -/
section
variable {X : Cx} (K : PySem.W.Frag) (h : X.K = K)
include h
theorem op_inK : OpR X (compareOp .In) (rIn K false) := by subst h; exact op_in_seq
theorem op_notInK : OpR X (compareOp .NotIn) (rIn K true) := by subst h; exact op_notIn_seq
theorem ix_listK : IxR X (rIxL K) := by subst h; exact ix_list
theorem ix_tupK : IxR X (rIxT K) := by subst h; exact ix_tup
theorem call_lenK : CallR X (.builtin "len") (fun xs H Q => ∃ p ys, xs = [.ref p] ∧ (SqL K H p ys ∨ SqT K H p ys) ∧ Q (.int ys.length) H) := by subst h; exact call_len_seq
theorem call_listK : CallR X (.type "list") (fun xs H Q => ∃ p ys, xs = [.ref p] ∧ (SqL K H p ys ∨ SqT K H p ys) ∧ ∀ l, H l = none → Q (.ref l) (upd H l (.lst ys))) := by subst h; exact call_list_of
theorem call_tupleK : CallR X (.type "tuple") (fun xs H Q => ∃ p ys, xs = [.ref p] ∧ ((SqL K H p ys ∧ ∀ l, H l = none → Q (.ref l) (upd H l (.tup ys))) ∨ (SqT K H p ys ∧ Q (.ref p) H))) := by subst h; exact call_tuple_of
theorem call_tupleF : CallR X (.type "tuple") (fun xs H Q => ∃ p ys, xs = [.ref p] ∧ SqL K H p ys ∧ ∀ (l : Addr) (ob : Obj), H l = none → ob.dict = none → Q (.ref l) (upd H l (.frz ob (.tup ys)))) := by
  subst h
  intro pins s σ H xs us Q I r h
  obtain ⟨p, ys, rfl, hq, q⟩ := h
  obtain ⟨u, rfl, ru⟩ := vals1 r
  cases ru
  obtain ⟨its, rel, pl, hz⟩ := I.list hq
  have hlen := rel.length
  refine call_tuple_list pl.isList (fun h' kp => ?_) (by simp only [List.size_toArray] <;> omega)
  have I1 : Inv X pins σ H { s with heap := h' } := I.kept (t' := s.toks) kp
  have J : Inv X pins σ (upd H h'.objs.size (.frz { cls := .type "tuple", data := .seq its.toArray } (.tup ys))) { s with heap := h'.push { cls := .type "tuple", data := .seq its.toArray } } :=
    I1.laid (t' := s.toks) (fun b o e => Heap.get?_push_of_some _ e) (Nat.le_refl _) (show ObjOk X.prog X.w _ _ _ (.frz _ (.tup ys)) from ⟨Heap.get?_push_size _ rfl, hz, its, rel, IsTup.new _ _⟩)
  exact ⟨.ref h'.objs.size, _, J, rfl, q _ _ (I1.hok.fresh (Nat.le_refl _)) rfl⟩
theorem pi_tupK {tg l : Expr} {tl : TE} (hl : PE X l tl) : PI X tg l (iTup K tl) := by subst h; exact pi_tup hl
theorem pi_listK {tg l : Expr} {tl : TE} (hl : PE X l tl) : PI X tg l (iList K tl) := by subst h; exact pi_list hl
theorem op_eqDK (hu : X.A.units + 64 < cLine) : OpR X (compareOp .Eq) (rEqD K) := by subst h; exact op_eqD hu
theorem op_neDK (hu : X.A.units + 64 < cLine) : OpR X (compareOp .NotEq) (rNeD K) := by subst h; exact op_neD hu
theorem pt_truthK {a : Expr} {ta : TE} (ha : PE X a ta) (he : ∀ whole, isTrue a X.env whole = (do let v ← whole; standAt a.pos; holding [v] (truthy v))) : PT X a (tTru K ta) := by subst h; exact pt_truth ha he
end
end Fw
namespace Fw
open PySem PySem.Spec PyProof.Rows L2
/-! ### names: texts of small letters -/
def Low (m : Nat) (s : Str) : Prop := s.length ≤ m ∧ ∀ c ∈ s.cps.toList, 97 ≤ c ∧ c ≤ 122
def Nam (s : Str) : Prop := 1 ≤ s.length ∧ Low 8 s
def ltS (a b : Str) : Prop := a.cps.toList < b.cps.toList
structure Names (ns : List Str) : Prop where
  nam : ∀ x ∈ ns, Nam x
  up : ns.Pairwise ltS
theorem str_ext {a b : Str} (h : a.cps.toList = b.cps.toList) : a = b := by
  cases a with
  | mk x => cases b with
    | mk y =>
      have : x = y := Array.toList_inj.mp h
      rw [this]
theorem app_list (a b : Str) : (a ++ b).cps.toList = a.cps.toList ++ b.cps.toList := by
  show (a.cps ++ b.cps).toList = _
  rw [Array.toList_append]
theorem app_len (a b : Str) : (a ++ b).length = a.length + b.length := Str.length_append a b
theorem len_list (a : Str) : a.length = a.cps.toList.length := by
  show a.cps.size = _
  rw [Array.length_toList]
theorem Low.app {m n : Nat} {a b : Str} (h : Low m a) (k : Low n b) : Low (m + n) (a ++ b) := by
  refine ⟨by rw [app_len]; have := h.1; have := k.1; omega, fun c hc => ?_⟩
  rw [app_list, List.mem_append] at hc
  exact hc.elim (h.2 c) (k.2 c)
theorem Low.mono {m n : Nat} {a : Str} (h : Low m a) (k : m ≤ n) : Low n a := ⟨Nat.le_trans h.1 k, h.2⟩
def let1 (i : Int) : Str := ⟨#[97 + i.toNat]⟩
theorem let1_low {i : Int} (h0 : 0 ≤ i) (h1 : i < 26) : Low 1 (let1 i) := by
  refine ⟨Nat.le_refl _, fun c hc => ?_⟩
  have : c = 97 + i.toNat := by simpa [let1] using hc
  omega
theorem join_low {sep : Str} (hs : sep.cps.toList = []) : ∀ {ys : List Str}, (∀ y ∈ ys, Low 1 y) → Low ys.length (Txt.join sep ys) := by
  intro ys h
  show Low ys.length (Builtin.Str.glued sep ys)
  rw [StrLaws.glued_eq_join]
  induction ys with
  | nil => exact ⟨Nat.le_refl _, fun c hc => by cases (show c ∈ ([] : List Nat) from hc)⟩
  | cons y r ih =>
    cases r with
    | nil => exact h y (List.mem_cons_self ..)
    | cons z r =>
      have i1 := ih fun x hx => h x (List.mem_cons_of_mem _ hx)
      have i0 := h y (List.mem_cons_self ..)
      have e : Str.join sep (y :: z :: r) = y ++ sep ++ Str.join sep (z :: r) := rfl
      have e2 : y ++ sep = y := str_ext (by rw [app_list, hs, List.append_nil])
      rw [e, e2]
      refine ((i0.app i1).mono ?_)
      simp only [List.length_cons]
      omega
theorem join_fits {sep : Str} (hs : sep.cps.toList = []) {ys : List Str} (h : ∀ y ∈ ys, Low 1 y) (hl : ys.length ≤ 100) : (ys.map (·.length)).sum + ys.length * sep.length ≤ 16777216 := by
  have e : sep.length = 0 := by rw [len_list, hs]; rfl
  rw [e, Nat.mul_zero, Nat.add_zero]
  have : ∀ zs : List Str, (∀ y ∈ zs, Low 1 y) → (zs.map (·.length)).sum ≤ zs.length := by
    intro zs hz
    induction zs with
    | nil => exact Nat.le_refl _
    | cons z r ih =>
      have := ih fun x hx => hz x (List.mem_cons_of_mem _ hx)
      have := (hz z (List.mem_cons_self ..)).1
      simp only [List.map_cons, List.sum_cons, List.length_cons]
      omega
  have := this ys h
  omega
def nmk (h t : Str) (r : Int) (k : Nat) : Str := h ++ let1 ((r + 7 * (0 + (k : Int))).fmod 26) ++ t
theorem fm26 (x : Int) : 0 ≤ x.fmod 26 ∧ x.fmod 26 < 26 := by
  rw [Int.fmod_eq_emod_of_nonneg x (by decide)]
  omega
theorem nmk_nam {h t : Str} {r : Int} {k : Nat} (a : Low 3 h) (b : Low 3 t) : Nam (nmk h t r k) := by
  have l := let1_low (fm26 (r + 7 * (0 + (k : Int)))).1 (fm26 _).2
  have := ((a.app l).app b).mono (show 3 + 1 + 3 ≤ 8 by decide)
  refine ⟨?_, this⟩
  unfold nmk
  rw [app_len, app_len]
  show 1 ≤ h.length + 1 + t.length
  omega
theorem nmk_len {h t : Str} {r : Int} {k : Nat} (a : Low 3 h) (b : Low 3 t) : (nmk h t r k).length ≤ 7 := ((a.app (let1_low (fm26 (r + 7 * (0 + (k : Int)))).1 (fm26 _).2)).app b).1
theorem nmk_inj {h t : Str} {r : Int} {i j : Nat} (hi : i < 26) (hj : j < 26) (e : nmk h t r i = nmk h t r j) : i = j := by
  have e1 := congrArg (fun s : Str => s.cps.toList) e
  simp only [nmk, app_list] at e1
  have e2 := List.append_cancel_right e1
  have e3 := List.append_cancel_left e2
  have e4 : 97 + ((r + 7 * (0 + (i : Int))).fmod 26).toNat = 97 + ((r + 7 * (0 + (j : Int))).fmod 26).toNat := by simpa [let1] using e3
  have a := fm26 (r + 7 * (0 + (i : Int)))
  have b := fm26 (r + 7 * (0 + (j : Int)))
  rw [Int.fmod_eq_emod_of_nonneg _ (by decide)] at a b e4
  rw [Int.fmod_eq_emod_of_nonneg _ (by decide)] at e4
  omega
theorem nmk_nodup {h t : Str} {r : Int} {m : Nat} (hm : m ≤ 26) : ((List.range m).map (nmk h t r)).Nodup := by
  rw [List.nodup_iff_pairwise_ne, List.pairwise_map]
  refine (List.nodup_iff_pairwise_ne.mp List.nodup_range).imp_of_mem fun {a b} ha hb ne e => ne ?_
  rw [List.mem_range] at ha hb
  exact nmk_inj (by omega) (by omega) e
theorem risingS_le : ∀ {ys : List Str} {p : Str}, risingS p ys = true → (∀ x ∈ ys, ¬ ltS x p) ∧ ys.Pairwise (fun a b => ¬ ltS b a)
  | [], _, _ => ⟨fun _ h => absurd h List.not_mem_nil, .nil⟩
  | x :: r, p, h => by
    rw [risingS, Bool.and_eq_true, Bool.not_eq_true', ltCps_eq, decide_eq_false_iff_not] at h
    obtain ⟨h1, h2⟩ := h
    obtain ⟨i1, i2⟩ := risingS_le h2
    refine ⟨fun y hy => ?_, .cons i1 i2⟩
    rcases List.mem_cons.mp hy with rfl | hy
    · exact h1
    · have h3 := i1 y hy
      exact fun z => List.le_trans (α := Nat) (Std.not_lt.mp h1) (Std.not_lt.mp h3) z
theorem sortedS_le {ys : List Str} (h : sortedS ys = true) : ys.Pairwise (fun a b => ¬ ltS b a) := by
  cases ys with
  | nil => exact .nil
  | cons x r => exact .cons (risingS_le h).1 (risingS_le h).2
theorem ltS_of {a b : Str} (h : ¬ ltS b a) (n : a ≠ b) : ltS a b := by
  have h : a.cps.toList ≤ b.cps.toList := Std.not_lt.mp h
  by_cases l : ltS a b
  · exact l
  · exact absurd (str_ext (List.le_antisymm h (Std.not_lt.mp l))) n
theorem sorted_names {ns ys : List Str} (p : ys.Perm ns) (h : sortedS ys = true) (n : ns.Nodup) (a : ∀ x ∈ ns, Nam x) : Names ys := by
  refine ⟨fun x hx => a x (p.mem_iff.mp hx), ?_⟩
  have nd : ys.Nodup := p.nodup_iff.mpr n
  exact ((sortedS_le h).and (List.nodup_iff_pairwise_ne.mp nd)).imp fun {a b} h => ltS_of h.1 h.2
theorem ltS_irr (a : Str) : ¬ ltS a a := fun h => List.lt_irrefl _ h
theorem ltS_trans {a b c : Str} (h : ltS a b) (k : ltS b c) : ltS a c := List.lt_trans h k
theorem Names.nodup {ns : List Str} (h : Names ns) : ns.Nodup := List.nodup_iff_pairwise_ne.mpr (h.up.imp fun {a b} l => fun (e : a = b) => ltS_irr b (by rw [e] at l; exact l))
theorem vs_app (a b : List Str) : (a ++ b).map V.str = a.map V.str ++ b.map V.str := List.map_append
theorem get_vs {ns : List Str} {i : Nat} {x : V} (h : (ns.map V.str)[i]? = some x) : ∃ v, ns[i]? = some v ∧ x = .str v := by
  rw [List.getElem?_map] at h
  cases e : ns[i]? with
  | none => rw [e] at h; cases h
  | some v => rw [e] at h; exact ⟨v, rfl, (Option.some.inj h).symm⟩
theorem abc_at {z : Str} (hz : z.cps.toList = (List.range 26).map (97 + ·)) {i : Int} (h0 : 0 ≤ i) (h1 : i < 26) : atI z.cps.toList i = some (97 + i.toNat) := by
  have := atI_nat (xs := z.cps.toList) (j := i.toNat) (v := 97 + i.toNat) (by rw [hz, List.getElem?_map, List.getElem?_range (by omega)]; rfl)
  rw [show ((i.toNat : Nat) : Int) = i by omega] at this
  exact this

theorem nam_ok {s : Str} (h : Nam s) : PyData.strOk s = true := by
  unfold PyData.strOk
  rw [Array.all_eq_true_iff_forall_mem]
  intro c hc
  have := h.2.2 c (by rw [Array.mem_toList_iff]; exact hc)
  exact decide_eq_true (by omega)
/-! ### a placement, as it stands in memory -/
/-- a tuple that is to be read (the second way: one that is known to have no attributes of its own) -/
def TpAt (H : Hp) (p : Addr) (xs : List V) : Prop := H p = some (.tup xs) ∨ ∃ o : Obj, o.dict = none ∧ H p = some (.frz o (.tup xs))
theorem TpAt.same {H H' : Hp} {p : Addr} {xs : List V} (x : TpAt H p xs) (e : Same H H') : TpAt H' p xs := x.elim (fun h => .inl (e _ _ h)) fun ⟨o, d, h⟩ => .inr ⟨o, d, e _ _ h⟩
theorem TpAt.sq {K : PySem.W.Frag} {H : Hp} {p : Addr} {xs : List V} (x : TpAt H p xs) : SqT K H p xs := x.elim (fun h => SqT.of h) fun ⟨o, _, h⟩ => .inl (.inr ⟨o, h⟩)
def PlAt (H : Hp) (p : Addr) (P : List (Str × Int)) : Prop := ∃ ps : List (Addr × Str × Int), TpAt H p (ps.map fun q => V.ref q.1) ∧ P = ps.map (·.2) ∧ ∀ q ∈ ps, H q.1 = some (.tup [.str q.2.1, .int q.2.2])
theorem PlAt.same {H H' : Hp} {p : Addr} {P : List (Str × Int)} (x : PlAt H p P) (e : Same H H') : PlAt H' p P := by
  obtain ⟨ps, h1, h2, h3⟩ := x
  exact ⟨ps, h1.same e, h2, fun q hq => e _ _ (h3 q hq)⟩
/-- the same, of a tuple of the second way -/
def PlD (H : Hp) (p : Addr) (P : List (Str × Int)) : Prop := ∃ (ps : List (Addr × Str × Int)) (o : Obj), o.dict = none ∧ H p = some (.frz o (.tup (ps.map fun q => V.ref q.1))) ∧ P = ps.map (·.2) ∧ ∀ q ∈ ps, H q.1 = some (.tup [.str q.2.1, .int q.2.2])
theorem PlD.pl {H : Hp} {p : Addr} {P : List (Str × Int)} (x : PlD H p P) : PlAt H p P := by
  obtain ⟨ps, o, d, h1, h2, h3⟩ := x
  exact ⟨ps, .inr ⟨o, d, h1⟩, h2, h3⟩
theorem PlD.same {H H' : Hp} {p : Addr} {P : List (Str × Int)} (x : PlD H p P) (e : Same H H') : PlD H' p P := by
  obtain ⟨ps, o, d, h1, h2, h3⟩ := x
  exact ⟨ps, o, d, e _ _ h1, h2, fun q hq => e _ _ (h3 q hq)⟩
/-- a placement of n rooms -/
structure Pl (n : Int) (P : List (Str × Int)) : Prop where
  nm : Names (P.map (·.1))
  rm : ∀ x ∈ P, 0 ≤ x.2 ∧ x.2 < n
theorem Pl.nodup {n : Int} {P : List (Str × Int)} (h : Pl n P) : (P.map (·.1)).Nodup := h.nm.nodup
/-! ### parameters -/
abbrev pDraw : List Str := ["_law_stream_here", "_law_many"]
abbrev pHP : List Str := ["house", "placement"]
abbrev pIsAsc : List Str := ["sequence"]
abbrev pIsInt : List Str := ["value"]
abbrev pIsRoom : List Str := ["house", "value"]
abbrev pLMoved : List Str := ["_law_placement_here", "_law_name", "_law_room"]
abbrev pLMoves : List Str := ["_law_house_here", "_law_placement_here"]
abbrev pLNb : List Str := ["_law_house_here", "_law_room"]
abbrev pMove : List Str := ["house", "placement", "name", "room"]
abbrev pLeav : List Str := ["placement", "target", "region"]
abbrev pSurp : List Str := ["placement", "region"]
abbrev pLHP : List Str := ["_law_house_here", "_law_placement_here"]
abbrev pFree : List Str := ["house", "placement", "target", "region"]
abbrev pLFree : List Str := ["_law_house_here", "_law_placement_here", "_law_target_here", "_law_piece"]
abbrev pWith : List Str := ["placement", "name", "room"]
abbrev pNamesOf : List Str := ["placement"]
abbrev pPIn : List Str := ["placement", "room"]
abbrev pPWi : List Str := ["placement", "rooms"]
abbrev pPl : List Str := ["_law_stream_here", "_law_house_here", "_law_most"]
abbrev pRegOf : List Str := ["house", "placement", "room"]
abbrev pRoomOf : List Str := ["placement", "name"]
abbrev pLWithin : List Str := ["_law_one", "_law_others"]
abbrev pLWalk : List Str := ["_law_stream_here", "_law_house_here", "_law_placement_here", "_law_many"]
abbrev pLTarget : List Str := ["_law_stream_here", "_law_house_here", "_law_placement_here"]
abbrev pHPT : List Str := ["house", "placement", "target"]
abbrev pLHPT : List Str := ["_law_house_here", "_law_placement_here", "_law_target_here"]
abbrev pConn : List Str := ["_law_house_here", "_law_rooms", "_law_room"]
abbrev pPTgt : List Str := ["house", "placement", "target", "name"]
abbrev pPassing : List Str := ["house", "placement", "target", "room"]
abbrev pLPassing : List Str := ["_law_house_here", "_law_placement_here", "_law_target_here", "_law_room", "_law_some"]
abbrev pSame : List Str := ["_law_found", "_law_expected"]
end Fw
namespace Fw
open PySem PySem.Spec PyProof.Rows L2
section
variable {P : Program} {w : World} {K : PySem.W.Frag} {mg : Str → Option Value} {base : Heap}
theorem cal_draw (D : DefE K mg "_law_draw" sDraw pDraw) (T : Nm mg) : Cal P w K mg base 1 "_law_draw" pDraw spDraw := D.cal fun _ _ d => ok_draw d.F T
theorem StreamAt.frz {s A B : Addr} {c : Nat} {H : Hp} (hS : StreamAt H s A B c) {t : Addr} {o : Obj} {u : HO} (h : H t = some (.frz o u)) : t ≠ s ∧ t ≠ A ∧ t ≠ B := by
  obtain ⟨big, cells, cnt, h1, h2, h3, _⟩ := hS.ex
  exact ⟨ne_of h h1 (by intro q; cases q), ne_of h h2 (by intro q; cases q), ne_of h h3 (by intro q; cases q)⟩
theorem Fr.frz {s A B : Addr} {c : Nat} {H H1 : Hp} (f : Fr s A H H1) (hS : StreamAt H s A B c) {t : Addr} {o : Obj} {u : HO} (h : H t = some (.frz o u)) : H1 t = some (.frz o u) := f t _ (hS.frz h).1 (hS.frz h).2.1 h
theorem TpAt.fr {s A B : Addr} {c : Nat} {H H' : Hp} {p : Addr} {xs : List V} (x : TpAt H p xs) (hS : StreamAt H s A B c) (e : Fr s A H H') : TpAt H' p xs := x.elim (fun h => .inl (e.tup hS h)) fun ⟨o, d, h⟩ => .inr ⟨o, d, e.frz hS h⟩
theorem PlAt.fr {s A B : Addr} {c : Nat} {H H' : Hp} {p : Addr} {P : List (Str × Int)} (x : PlAt H p P) (hS : StreamAt H s A B c) (e : Fr s A H H') : PlAt H' p P := by
  obtain ⟨ps, h1, h2, h3⟩ := x
  exact ⟨ps, h1.fr hS e, h2, fun q hq => e.tup hS (h3 q hq)⟩
theorem PlD.fr {s A B : Addr} {c : Nat} {H H' : Hp} {p : Addr} {P : List (Str × Int)} (x : PlD H p P) (hS : StreamAt H s A B c) (e : Fr s A H H') : PlD H' p P := by
  obtain ⟨ps, o, d, h1, h2, h3⟩ := x
  exact ⟨ps, o, d, e.frz hS h1, h2, fun q hq => e.tup hS (h3 q hq)⟩
def spNames : Sp := fun vs H Q _ => ∃ (s A B : Addr) (c : Nat) (m : Int), vs = [.ref s, .int m] ∧ StreamAt H s A B c ∧ c < 2 ^ 30 ∧ 0 ≤ m ∧ m ≤ 20 ∧
  ∀ H' l ns, StreamAt H' s A B (c + 10) → Fr s A H H' → H l = none → H' l = some (.lst (ns.map V.str)) → ns.length = m.toNat → Names ns → Q (.ref l) H'
/-- the same, with more known of each name -/
def spNamesR (R : Str → Prop) : Sp := fun vs H Q _ => ∃ (s A B : Addr) (c : Nat) (m : Int), vs = [.ref s, .int m] ∧ StreamAt H s A B c ∧ c < 2 ^ 30 ∧ 0 ≤ m ∧ m ≤ 20 ∧
  ∀ H' l ns, StreamAt H' s A B (c + 10) → Fr s A H H' → H l = none → H' l = some (.lst (ns.map V.str)) → ns.length = m.toNat → Names ns → (∀ x ∈ ns, R x) → Q (.ref l) H'
abbrev nNames : List Str := ["_law_stream_here", "_law_many", "_law_letters", "_law_first", "_law_head", "_law_k", "_law_tail"]
theorem scNames : FnScope nNames ["_law_stream_here", "_law_many"] (defScope sNames) := ⟨rfl, rfl, rfl, by decide +kernel, rfl, by decide +kernel, by decide +kernel⟩
theorem ok_names7 {f : Addr} {fd : FuncData} (F : Fun K "_law_names" "_law_names" sNames f fd) (T : Nm mg) (C_law_draw : Cal P w K mg base 1 "_law_draw" pDraw spDraw) : FnOk P w K mg base CX0 2 f fd ["_law_stream_here", "_law_many"] (spNamesR fun x => x.length ≤ 7) := by
  refine F.ok scNames (fun vs H Q E h => ?_) (fun cdv A outer s H vs Q E hr h => ?_)
  · obtain ⟨s, A, B, c, m, rfl, _⟩ := h
    rfl
  · obtain ⟨s, A, B, c, m, rfl, hS, hc, hm0, hm1, q⟩ := h
    refine ⟨_, (pss_cons (ps_set (i := 2) scNames.nd rfl (.inr rfl) pe_str)
      (pss_cons (ps_set (i := 3) scNames.nd rfl (.inr rfl) (pe_cal C_law_draw (hr.mono (by decide)) (by rfl) (pa_cons (pv 0) (pa_cons pe_int pa_nil))))
      (pss_cons (ps_set (i := 4) scNames.nd rfl (.inr rfl) (pe_join pe_str (pe_lc (own := [("_law_k", 5)]) (g := gName 5) (by rfl) scNames.nd (pi_range1 (by rfl) T.range (pa_cons (pe_cal C_law_draw (hr.mono (by decide)) (by rfl) (pa_cons (pv 0) (pa_cons pe_int pa_nil))) pa_nil))
 (blkOk_by (own := [("_law_k", 5)]) (N := nNames) (sc := defScope sNames) (by decide +kernel))
 (fun _ _ _ _ _ => (pg_name (i := 5) scNames.nd rfl (.inl rfl))) (fun _ _ _ _ _ => pts_nil) (fun _ _ _ _ _ => (pe_ix ix_str (pv 2) (pe_cal C_law_draw (hr.mono (by decide)) (by rfl) (pa_cons (pv 0) (pa_cons pe_int pa_nil))) (fun _ _ => rfl))))))
      (pss_cons (ps_set (i := 6) scNames.nd rfl (.inr rfl) (pe_join pe_str (pe_lc (own := [("_law_k", 5)]) (g := gName 5) (by rfl) scNames.nd (pi_range1 (by rfl) T.range (pa_cons (pe_cal C_law_draw (hr.mono (by decide)) (by rfl) (pa_cons (pv 0) (pa_cons pe_int pa_nil))) pa_nil))
 (blkOk_by (own := [("_law_k", 5)]) (N := nNames) (sc := defScope sNames) (by decide +kernel))
 (fun _ _ _ _ _ => (pg_name (i := 5) scNames.nd rfl (.inl rfl))) (fun _ _ _ _ _ => pts_nil) (fun _ _ _ _ _ => (pe_ix ix_str (pv 2) (pe_cal C_law_draw (hr.mono (by decide)) (by rfl) (pa_cons (pv 0) (pa_cons pe_int pa_nil))) (fun _ _ => rfl))))))
      (pss_one (ps_ret (pe_callB cr_sortedS (by rfl) T.sorted (by decide +kernel) (pa_cons (pe_lc (own := [("_law_k", 5)]) (g := gName 5) (by rfl) scNames.nd (pi_range1 (by rfl) T.range (pa_cons (pv 1) pa_nil))
 (blkOk_by (own := [("_law_k", 5)]) (N := nNames) (sc := defScope sNames) (by decide +kernel))
 (fun _ _ _ _ _ => (pg_name (i := 5) scNames.nd rfl (.inl rfl))) (fun _ _ _ _ _ => pts_nil) (fun _ _ _ _ _ => (pe_op op_add_str (pe_op op_add_str (pv 4) (pe_ix ix_str (pv 2) (pe_op op_modN (pe_op op_add (pv 3) (pe_op op_mul pe_int (pv 5))) pe_int) (fun _ _ => rfl))) (pv 6)))) pa_nil)))))))), ?_⟩
    refine ⟨_, rfl, s, A, B, c, _, rfl, hS, by omega, by decide, by decide, fun H1 r hS1 fr1 r0 r1 => ?_⟩
    refine ⟨⟨_, rfl⟩, _, rfl, s, A, B, c + 1, _, rfl, hS1, by omega, by decide, by decide, fun H2 r2 hS2 fr2 r20 r21 => ?_⟩
    have abc : (Str.ofString "abcdefghijklmnopqrstuvwxyz").cps.toList = (List.range 26).map (97 + ·) := by decide +kernel
    have nil : (Str.ofString "").cps.toList = [] := by decide +kernel
    refine ⟨r2, rfl, by omega, by omega, fun L hL => lc_range (lo := 0) (n := r2.toNat) (fun i H' => ∃ ys : List Str, StreamAt H' s A B (c + 1 + 1 + i) ∧ Fr s A H2 H' ∧ H' L = some (.lst (ys.map V.str)) ∧ ys.length = i ∧ ∀ y ∈ ys, Low 1 y)
      ⟨[], hS2.same (same_upd hL), Fr.of (same_upd hL), upd_same, rfl, fun y hy => absurd hy List.not_mem_nil⟩ ?_ ?_⟩
    · rintro i H' hi ⟨ys, hS', fr', e', l', p'⟩
      refine ⟨rfl, ?_⟩
      unfold tYes
      refine iteT ⟨_, rfl, _, rfl, s, A, B, c + 1 + 1 + i, _, rfl, hS', by omega, by decide, by decide, fun H'' x hS'' fr'' x0 x1 => ?_⟩
      have z := hS2.ne hL
      refine ⟨_, x, _, rfl, rfl, by decide +kernel, abc_at abc x0 x1, _, fr'' _ _ z.1.symm z.2.1.symm e', ?_, ys ++ [let1 x], hS''.put z, (fr'.trans fr'').put hL, ?_, ?_, ?_⟩
      · rw [List.length_map]
        exact small1000 (by omega)
      · rw [upd_same, vs_app]
        rfl
      · rw [List.length_append, l']
        rfl
      · intro y hy
        rcases List.mem_append.mp hy with hy | hy
        · exact p' y hy
        · rw [List.mem_singleton.mp hy]
          exact let1_low x0 x1
    rintro H3 ⟨ys, hS3, fr3, e3, l3, p3⟩
    refine ⟨_, L, ys, rfl, rfl, .inl (SqL.of e3), join_fits nil p3 (by omega), ?_⟩
    have hd : Low 3 (Txt.join (Str.ofString "") ys) := (join_low nil p3).mono (by omega)
    generalize Txt.join (Str.ofString "") ys = hd' at *
    have hS3 := hS3.mono (show _ ≤ c + 5 by omega)
    have fr3 : Fr s A H H3 := (fr1.trans fr2).trans fr3
    clear e3 l3 p3 hL fr2 hS2
    refine ⟨⟨_, rfl⟩, _, rfl, s, A, B, c + 5, _, rfl, hS3, by omega, by decide, by decide, fun H4 r4 hS4 fr4 r40 r41 => ?_⟩
    refine ⟨r4, rfl, by omega, by omega, fun M hM => lc_range (lo := 0) (n := r4.toNat) (fun i H' => ∃ ys : List Str, StreamAt H' s A B (c + 5 + 1 + i) ∧ Fr s A H4 H' ∧ H' M = some (.lst (ys.map V.str)) ∧ ys.length = i ∧ ∀ y ∈ ys, Low 1 y)
      ⟨[], hS4.same (same_upd hM), Fr.of (same_upd hM), upd_same, rfl, fun y hy => absurd hy List.not_mem_nil⟩ ?_ ?_⟩
    · rintro i H' hi ⟨ys, hS', fr', e', l', p'⟩
      refine ⟨rfl, ?_⟩
      unfold tYes
      refine iteT ⟨_, rfl, _, rfl, s, A, B, c + 5 + 1 + i, _, rfl, hS', by omega, by decide, by decide, fun H'' x hS'' fr'' x0 x1 => ?_⟩
      have z := hS4.ne hM
      refine ⟨_, x, _, rfl, rfl, by decide +kernel, abc_at abc x0 x1, _, fr'' _ _ z.1.symm z.2.1.symm e', ?_, ys ++ [let1 x], hS''.put z, (fr'.trans fr'').put hM, ?_, ?_, ?_⟩
      · rw [List.length_map]
        exact small1000 (by omega)
      · rw [upd_same, vs_app]
        rfl
      · rw [List.length_append, l']
        rfl
      · intro y hy
        rcases List.mem_append.mp hy with hy | hy
        · exact p' y hy
        · rw [List.mem_singleton.mp hy]
          exact let1_low x0 x1
    rintro H5 ⟨zs, hS5, fr5, e5, l5, p5⟩
    refine ⟨_, M, zs, rfl, rfl, .inl (SqL.of e5), join_fits nil p5 (by omega), ?_⟩
    have td : Low 3 (Txt.join (Str.ofString "") zs) := (join_low nil p5).mono (by omega)
    generalize Txt.join (Str.ofString "") zs = tl' at *
    have hS5 := hS5.mono (show _ ≤ c + 10 by omega)
    have fr5 : Fr s A H H5 := (fr3.trans fr4).trans fr5
    clear e5 l5 p5 hM fr4 hS4 hS3 fr3 fr1 hS1
    refine ⟨_, rfl, m, rfl, by omega, by omega, fun N hN => lc_range (lo := 0) (n := m.toNat) (fun i H' => Same H5 H' ∧ H' N = some (.lst (((List.range i).map (nmk hd' tl' r)).map V.str)))
      ⟨same_upd hN, upd_same⟩ ?_ ?_⟩
    · rintro i H' hi ⟨sm, e'⟩
      refine ⟨rfl, ?_⟩
      unfold tYes
      have g := fm26 (r + 7 * (0 + (i : Int)))
      refine iteT ⟨_, rfl, _, rfl, _, rfl, _, rfl, _, _, rfl, rfl, .inl ⟨by decide, by decide⟩, _, _, rfl, rfl, _, _, rfl, rfl, (by show (26 : Int) ≠ 0; decide), _, _, _, rfl, rfl, by decide +kernel, abc_at abc g.1 g.2, _, _, rfl, rfl, ?_, _, rfl, _, _, rfl, rfl, ?_, _, e', ?_, same_put sm hN, ?_⟩
      · show hd'.length + 1 ≤ sizeLine
        have := hd.1
        exact Nat.le_of_lt (small1000 (by omega))
      · rw [app_len]
        show hd'.length + 1 + tl'.length ≤ sizeLine
        have := hd.1
        have := td.1
        exact Nat.le_of_lt (small1000 (by omega))
      · rw [List.length_map, List.length_map, List.length_range]
        exact small1000 (by omega)
      · rw [upd_same, List.range_succ, List.map_append, vs_app]
        rfl
    rintro H6 ⟨sm6, e6⟩
    refine ⟨N, _, rfl, SqL.of e6, ?_, fun zs p hp hs hpn => ?_⟩
    · rw [List.length_map, List.length_range]
      omega
    have fr7 : Fr s A H (upd H6 p (.lst (zs.map V.str))) := fr5.trans (Fr.of (sm6.trans (same_upd hpn)))
    refine q _ p zs (hS5.same (sm6.trans (same_upd hpn))) fr7 (fr5.free hS5 (sm6.free hpn)) upd_same ?_ (sorted_names hp hs (nmk_nodup (by omega)) ?_) (fun x hx => ?_)
    · rw [hp.length_eq, List.length_map, List.length_range]
    · intro x hx
      obtain ⟨k, _, rfl⟩ := List.mem_map.mp hx
      exact nmk_nam hd td
    · obtain ⟨k, _, rfl⟩ := List.mem_map.mp (hp.mem_iff.mp hx)
      exact nmk_len hd td
theorem names_all {R : Str → Prop} {x : Str} {ps : List Str} {k : Nat} (C : Cal P w K mg base k x ps spNames) (h : ∀ z, R z) : Cal P w K mg base k x ps (spNamesR R) :=
  C.imp fun vs H Q E ⟨s, A, B, c, m, e, hS, hc, m0, m1, q⟩ => ⟨s, A, B, c, m, e, hS, hc, m0, m1, fun H' l ns a b c d e f => q H' l ns a b c d e f fun _ _ => h _⟩
theorem ok_names {f : Addr} {fd : FuncData} (F : Fun K "_law_names" "_law_names" sNames f fd) (T : Nm mg) (C_law_draw : Cal P w K mg base 1 "_law_draw" pDraw spDraw) : FnOk P w K mg base CX0 2 f fd ["_law_stream_here", "_law_many"] spNames :=
  (ok_names7 F T C_law_draw).imp fun vs H Q E ⟨s, A, B, c, m, e, hS, hc, m0, m1, q⟩ => ⟨s, A, B, c, m, e, hS, hc, m0, m1, fun H' l ns a b c d e f _ => q H' l ns a b c d e f⟩
end
end Fw
namespace Fw
open PySem PySem.Spec PyProof.Rows L2
theorem cut_vi (ns : List Int) (lo hi : Option Int) : ∃ ms : List Int, cutV (vi ns) lo hi = vi ms ∧ (∀ x ∈ ms, x ∈ ns) := by
  refine ⟨(ns.drop (HT.sIx (vi ns).length 0 lo)).take (HT.sIx (vi ns).length (vi ns).length hi - HT.sIx (vi ns).length 0 lo), ?_, fun x hx => List.mem_of_mem_drop (List.mem_of_mem_take hx)⟩
  unfold cutV vi
  rw [List.map_take, List.map_drop]
theorem cut_le (xs : List V) {m : Int} (h : 0 ≤ m) : (cutV xs none (some m)).length ≤ m.toNat := by
  unfold cutV
  rw [List.length_take]
  refine Nat.le_trans (Nat.min_le_left _ _) ?_
  show (if m < 0 then _ else min m.toNat xs.length) - 0 ≤ m.toNat
  rw [if_neg (by omega)]
  omega
theorem atI_in {xs : List Int} {r : Int} (h0 : 0 ≤ r) (h1 : r < (xs.length : Nat)) : ∃ x, x ∈ xs ∧ atI (vi xs) r = some (V.int x) := by
  have hj : r.toNat < xs.length := by omega
  refine ⟨xs[r.toNat], List.getElem_mem hj, ?_⟩
  have := atI_nat (xs := vi xs) (j := r.toNat) (v := V.int xs[r.toNat]) (by rw [List.getElem?_map, List.getElem?_eq_getElem hj]; rfl)
  rw [show ((r.toNat : Nat) : Int) = r by omega] at this
  exact this
theorem seq_by {a b : TS} {D : Ends} {σ : L2.St} {H : Hp} (M : L2.St → Hp → Prop) (h1 : ∀ N : L2.St → Hp → Prop, (∀ σ' H', M σ' H' → N σ' H') → a { D with nx := N } σ H) (h2 : ∀ σ' H', M σ' H' → b D σ' H') : tSeq a b D σ H := h1 _ h2
section
variable {P : Program} {w : World} {K : PySem.W.Frag} {mg : Str → Option Value} {base : Heap}
theorem HouseAt.room0 {H : Hp} {h : Addr} {n : Int} {D : List (Int × Int)} (x : HouseAt H h n D) : ∃ q, H h = some (.tup [.int n, .ref q]) := by
  obtain ⟨q, ps, h1, _⟩ := x
  exact ⟨q, h1⟩
def spPl : Sp := fun vs H Q _ => ∃ (s A B h : Addr) (c : Nat) (n : Int) (D : List (Int × Int)) (m : Int), vs = [.ref s, .ref h, .int m] ∧ StreamAt H s A B c ∧ c < 2 ^ 29 ∧ HouseAt H h n D ∧ 1 ≤ n ∧ n ≤ 8 ∧ 0 ≤ m ∧ m ≤ 12 ∧
  ∀ H' p P, StreamAt H' s A B (c + 60) → Fr s A H H' → PlD H' p P → Pl n P → P.length ≤ m.toNat → Q (.ref p) H'
/-- the same, with more known of each name -/
def spPlR (R : Str → Prop) : Sp := fun vs H Q _ => ∃ (s A B h : Addr) (c : Nat) (n : Int) (D : List (Int × Int)) (m : Int), vs = [.ref s, .ref h, .int m] ∧ StreamAt H s A B c ∧ c < 2 ^ 29 ∧ HouseAt H h n D ∧ 1 ≤ n ∧ n ≤ 8 ∧ 0 ≤ m ∧ m ≤ 12 ∧
  ∀ H' p P, StreamAt H' s A B (c + 60) → Fr s A H H' → PlD H' p P → Pl n P → P.length ≤ m.toNat → (∀ x ∈ P, R x.1) → Q (.ref p) H'
abbrev nPl : List Str := ["_law_stream_here", "_law_house_here", "_law_most", "_law_share", "_law_held", "_law_room", "_law_spots", "_law_k", "_law_found", "_law_name"]
theorem scPl : FnScope nPl ["_law_stream_here", "_law_house_here", "_law_most"] (defScope sPl) := ⟨rfl, rfl, rfl, by decide +kernel, rfl, by decide +kernel, by decide +kernel⟩
theorem ok_plR {R : Str → Prop} {f : Addr} {fd : FuncData} (F : Fun K "_law_placement" "_law_placement" sPl f fd) (T : Nm mg) (C_law_draw : Cal P w K mg base 1 "_law_draw" pDraw spDraw) (C_law_names : Cal P w K mg base 2 "_law_names" pDraw (spNamesR R)) : FnOk P w K mg base CX0 3 f fd pPl (spPlR R) := by
  refine F.ok scPl (fun vs H Q E h => ?_) (fun cdv A outer s H vs Q E hr h => ?_)
  · obtain ⟨s, A, B, h, c, n, D, m, rfl, _⟩ := h
    rfl
  · obtain ⟨s, A, B, h, c, n, D, m, rfl, hS, hc, hH, n0, n1, m0, m1, q⟩ := h
    refine ⟨_, (pss_cons (ps_set (i := 3) scPl.nd rfl (.inr rfl) (pe_cal C_law_draw (hr.mono (by decide)) (by rfl) (pa_cons (pv 0) (pa_cons pe_int pa_nil))))
      (pss_cons (ps_set (i := 4) scPl.nd rfl (.inl rfl) (pe_slice sl_list (pe_lc (own := [("_law_room", 5)]) (g := gName 5) (by rfl) scPl.nd (pi_range1 (by rfl) T.range (pa_cons (pe_ix ix_tup (pv 1) pe_int (fun _ _ => rfl)) pa_nil))
 (blkOk_by (own := [("_law_room", 5)]) (N := nPl) (sc := defScope sPl) (by decide +kernel))
 (fun _ _ _ _ _ => (pg_name (i := 5) scPl.nd rfl (.inl rfl))) (fun _ _ _ _ _ => pts_one (PW.pt (pw_or (pt_cmpR op_eq (pv 3) pe_int (nomark _)) (pw_or1 (pt_cmpR op_gt (pe_cal C_law_draw (hr.mono (by decide)) (by rfl) (pa_cons (pv 0) (pa_cons pe_int pa_nil))) pe_int (nomark _)))))) (fun _ _ _ _ _ => (pv 5))) po_none (po_some (pv 2))))
      (pss_cons (ps_set (i := 6) scPl.nd rfl (.inl rfl) (pe_callTy call_list_of (by rfl) T.list (by decide +kernel) (pa_cons (pv 4) pa_nil)))
      (pss_cons (ps_if (PW.pt (pw_and (pt_cmpR (op_neD hr.units) (pv 4) (pe_lst pa_nil) (nomark _)) (pw_and1 (pt_cmpR op_eq (pe_cal C_law_draw (hr.mono (by decide)) (by rfl) (pa_cons (pv 0) (pa_cons pe_int pa_nil))) pe_int (nomark _)))))
      (pss_one (ps_for PassesOwn.never rfl (pi_range1 (by rfl) T.range (pa_cons (pe_cal C_law_draw (hr.mono (by decide)) (by rfl) (pa_cons (pv 0) (pa_cons (pe_op op_add (pe_op op_sub (pv 2) (pe_callB call_len_seq (by rfl) T.len (by decide +kernel) (pa_cons (pv 4) pa_nil))) pe_int) pa_nil))) pa_nil)) (pg_name (i := 7) scPl.nd rfl (.inl rfl))
       (pss_one (ps_expr (pe_bm PySem.F.plainAttrs_list PySem.F.slot_list_append PySem.F.type_list_append mt_append (pv 6) (pa_cons (pe_ix ix_list (pv 4) (pe_cal C_law_draw (hr.mono (by decide)) (by rfl) (pa_cons (pv 0) (pa_cons (pe_callB call_len_seq (by rfl) T.len (by decide +kernel) (pa_cons (pv 4) pa_nil)) pa_nil))) (fun _ _ => rfl)) pa_nil))))))
      pss_nil)
      (pss_cons (ps_set (i := 8) scPl.nd rfl (.inl rfl) (pe_lst pa_nil))
      (pss_cons (ps_for PassesOwn.never rfl (pi_list (pe_cal C_law_names (hr.mono (by decide)) (by rfl) (pa_cons (pv 0) (pa_cons (pe_callB call_len_seq (by rfl) T.len (by decide +kernel) (pa_cons (pv 6) pa_nil)) pa_nil)))) (pg_name (i := 9) scPl.nd rfl (.inl rfl))
      (pss_one (ps_expr (pe_bm PySem.F.plainAttrs_list PySem.F.slot_list_append PySem.F.type_list_append mt_append (pv 8) (pa_cons (pe_tup (pa_cons (pv 9) (pa_cons (pe_bm PySem.F.plainAttrs_list PySem.F.slot_list_pop PySem.F.type_list_pop mt_popAt (pv 6) (pa_cons (pe_cal C_law_draw (hr.mono (by decide)) (by rfl) (pa_cons (pv 0) (pa_cons (pe_callB call_len_seq (by rfl) T.len (by decide +kernel) (pa_cons (pv 6) pa_nil)) pa_nil))) pa_nil)) pa_nil))) pa_nil)))))
      (pss_one (ps_ret (pe_callTy (call_tupleF K rfl) (by rfl) T.tuple (by decide +kernel) (pa_cons (pv 8) pa_nil)))))))))), ?_⟩
    refine ⟨_, rfl, s, A, B, c, _, rfl, hS, by omega, by decide, by decide, fun H1 sh hS1 fr1 _ _ => ?_⟩
    have hH1 := hH.fr hS fr1
    obtain ⟨qd, eh1⟩ := hH1.room0
    -- held
    refine ⟨_, rfl, h, _, _, _, rfl, rfl, SqT.of eh1, atI0, n, rfl, by omega, by omega, fun L hL => lc_range (lo := 0) (n := n.toNat) (fun i H' => ∃ ys : List Int, StreamAt H' s A B (c + 1 + i) ∧ Fr s A H1 H' ∧ H' L = some (.lst (vi ys)) ∧ ys.length ≤ i ∧ ∀ y ∈ ys, 0 ≤ y ∧ y < n)
      ⟨[], hS1.same (same_upd hL), Fr.of (same_upd hL), upd_same, Nat.le_refl _, fun y hy => absurd hy List.not_mem_nil⟩ ?_ ?_⟩
    · rintro i H' hi ⟨ys, hS', fr', e', l', p'⟩
      have z := hS1.ne hL
      refine ⟨rfl, tt_by (fun b H3 => StreamAt H3 s A B (c + 1 + (i + 1)) ∧ Fr s A H' H3) ?_ ?_⟩
      · intro Q' hQ'
        refine ⟨_, rfl, rfl, _, rfl, ?_⟩
        refine ite2 (fun _ => ?_) (fun _ => ?_)
        · exact hQ' _ _ ⟨hS'.mono (by omega), Fr.refl⟩
        · refine ⟨_, rfl, s, A, B, c + 1 + i, _, rfl, hS', by omega, by decide, by decide, fun H'' x hS'' fr'' x0 x1 => ⟨_, _, rfl, rfl, _, rfl, ?_⟩⟩
          exact hQ' _ _ ⟨hS'', fr''⟩
      · rintro b H3 ⟨hS3, fr3⟩
        have e3 := fr3 _ _ z.1.symm z.2.1.symm e'
        refine ite2 (fun _ => ?_) (fun _ => ?_)
        · refine ⟨_, rfl, _, e3, ?_, ys ++ [0 + (i : Int)], hS3.put z, (fr'.trans fr3).put hL, ?_, ?_, ?_⟩
          · rw [List.length_map]
            exact small1000 (by omega)
          · rw [upd_same, vi_app]
            rfl
          · rw [List.length_append, List.length_singleton]
            omega
          · intro y hy
            rcases List.mem_append.mp hy with hy | hy
            · exact p' y hy
            · rw [List.mem_singleton.mp hy]
              omega
        · exact ⟨ys, hS3, fr'.trans fr3, e3, by omega, p'⟩
    rintro H2 ⟨ys, hS2, fr2, e2, l2, p2⟩
    have hS2 := hS2.mono (show _ ≤ c + 9 by omega)
    refine ⟨_, rfl, m, rfl, L, _, rfl, SqL.of e2, fun M hM => ?_⟩
    have zM := hS2.ne hM
    obtain ⟨held, eh, ph⟩ := cut_vi ys none (some m)
    have lh : held.length ≤ m.toNat := by
      have := cut_le (vi ys) m0
      rw [eh, List.length_map] at this
      exact this
    have ph : ∀ y ∈ held, 0 ≤ y ∧ y < n := fun y hy => p2 y (ph y hy)
    rw [show cutV (vi ys) none (some m) = vi held from eh]
    clear eh
    have hS3 := hS2.same (same_upd (o := .lst (vi held)) hM)
    have fr3 : Fr s A H (upd H2 M (.lst (vi held))) := (fr1.trans fr2).trans (Fr.of (same_upd hM))
    have e3 : (upd H2 M (.lst (vi held))) M = some (.lst (vi held)) := upd_same
    generalize upd H2 M (.lst (vi held)) = H3 at *
    clear e2 p2 l2 fr2 hS2
    -- spots
    refine ⟨_, rfl, M, _, rfl, .inl (SqL.of e3), fun S hS' => ?_⟩
    have fS := fr3.free hS3 hS'
    have zS := hS3.ne hS'
    have nMS : M ≠ S := ne_of_none e3 hS'
    have hS4 := hS3.same (same_upd (o := .lst (vi held)) hS')
    have fr4 : Fr s A H (upd H3 S (.lst (vi held))) := fr3.trans (Fr.of (same_upd hS'))
    have e4 : (upd H3 S (.lst (vi held))) M = some (.lst (vi held)) := same_upd hS' _ _ e3
    have es4 : (upd H3 S (.lst (vi held))) S = some (.lst (vi held)) := upd_same
    generalize upd H3 S (.lst (vi held)) = H4 at *
    clear hS' hS3 fr3 e3
    dsimp only [gName]
    refine seq_by (fun σ' H' => ∃ (y5 y7 : Option V) (c' : Nat) (spots : List Int), σ' = [some (.ref s), some (.ref h), some (.int m), some (.int sh), some (.ref M), y5, some (.ref S), y7, none, none] ∧ StreamAt H' s A B c' ∧ c' ≤ c + 30 ∧ Fr s A H H' ∧ H' S = some (.lst (vi spots)) ∧ spots.length ≤ m.toNat ∧ ∀ y ∈ spots, 0 ≤ y ∧ y < n) ?_ ?_
    · intro N hN
      refine if_by (fun b H' => ∃ c', StreamAt H' s A B c' ∧ c' ≤ c + 10 ∧ Fr s A H H' ∧ H' S = some (.lst (vi held)) ∧ H' M = some (.lst (vi held)) ∧ (b = true → held ≠ [])) ?_ ?_ ?_
      · rintro H5 ⟨c5, hS5, hc5, fr5, es5, e5, ne⟩
        have ne := ne rfl
        have l0 : 0 < held.length := List.length_pos_iff.mpr ne
        refine ⟨_, rfl, _, rfl, _, rfl, M, _, rfl, .inl (SqL.of e5), _, _, rfl, rfl, _, _, rfl, rfl, s, A, B, c5, _, rfl, hS5, by omega, ?_, ?_, fun H6 x hS6 fr6 x0 x1 => ?_⟩
        · rw [List.length_map]; omega
        · rw [List.length_map]; omega
        rw [List.length_map] at x1
        refine ⟨x, rfl, by omega, by omega, for_range (lo := 0) (n := x.toNat) (fun i σ' H' => ∃ (y7 : Option V) (c' : Nat) (spots : List Int), σ' = [some (.ref s), some (.ref h), some (.int m), some (.int sh), some (.ref M), none, some (.ref S), y7, none, none] ∧ StreamAt H' s A B c' ∧ c' ≤ c5 + 1 + i ∧ Fr s A H H' ∧ H' S = some (.lst (vi spots)) ∧ H' M = some (.lst (vi held)) ∧ spots.length = held.length + i ∧ ∀ y ∈ spots, 0 ≤ y ∧ y < n)
          ⟨_, c5 + 1, held, rfl, hS6, by omega, fr5.trans fr6, fr6 _ _ zS.1.symm zS.2.1.symm es5, fr6 _ _ zM.1.symm zM.2.1.symm e5, rfl, ph⟩ ?_ ?_⟩
        · rintro i σ' H7 hi ⟨y7, c7, spots, rfl, hS7, hc7, fr7, es7, e7, l7, p7⟩
          refine ⟨_, rfl, .inl ⟨rfl, _, SqL.of es7⟩, _, rfl, _, rfl, _, rfl, M, _, rfl, .inl (SqL.of e7), s, A, B, c7, _, rfl, hS7, by omega, ?_, ?_, fun H8 y hS8 fr8 y0 y1 => ?_⟩
          · rw [List.length_map]; omega
          · rw [List.length_map]; omega
          rw [List.length_map] at y1
          obtain ⟨v, hv, ev⟩ := atI_in y0 y1
          have es8 := fr8 _ _ zS.1.symm zS.2.1.symm es7
          refine ⟨M, _, _, _, rfl, rfl, SqL.of (fr8 _ _ zM.1.symm zM.2.1.symm e7), ev, S, _, _, rfl, rfl, es8, ?_, _, c7 + 1, spots ++ [v], rfl, hS8.put zS, by omega, (fr7.trans fr8).put fS, ?_, ?_, ?_, ?_⟩
          · rw [List.length_map]
            exact small1000 (by omega)
          · rw [upd_same, vi_app]
            rfl
          · rw [upd_ne nMS]
            exact fr8 _ _ zM.1.symm zM.2.1.symm e7
          · rw [List.length_append, List.length_singleton]
            omega
          · intro z hz
            rcases List.mem_append.mp hz with hz | hz
            · exact p7 z hz
            · rw [List.mem_singleton.mp hz]
              exact ph v hv
        · rintro σ' H7 ⟨y7, c7, spots, rfl, hS7, hc7, fr7, es7, e7, l7, p7⟩
          exact hN _ _ ⟨_, _, c7, spots, rfl, hS7, by omega, fr7, es7, by omega, p7⟩
      · rintro H5 ⟨c5, hS5, hc5, fr5, es5, e5, ne⟩
        exact hN _ _ ⟨_, _, c5, held, rfl, hS5, by omega, fr5, es5, lh, ph⟩
      · intro Q' hQ'
        refine ⟨_, rfl, Nat.zero_le _, fun e he => ?_⟩
        have sm : Same H4 (upd H4 e (.lst [])) := same_upd he
        have hS5 := hS4.same sm
        have fr5 := fr4.trans (Fr.of sm)
        have e5 := sm _ _ e4
        have es5 := sm _ _ es4
        refine ⟨.list (held.map .int), .list [], .lst (SqL.of e5) (dp_ints held), .lst (SqL.of upd_same) .nil, shaped_list held, shaped_list [], _, rfl, ?_⟩
        rw [eqv_nil]
        generalize upd H4 e (.lst []) = H5 at *
        cases held with
        | nil => exact iteF (hQ' _ _ ⟨c + 9, hS5, by omega, fr5, es5, e5, fun h => nomatch h⟩)
        | cons x0 hr0 =>
          refine iteT ⟨_, rfl, s, A, B, c + 9, _, rfl, hS5, by omega, by decide, by decide, fun H6 x hS6 fr6 x0 x1 => ⟨rfl, _, rfl, ?_⟩⟩
          exact hQ' _ _ ⟨c + 9 + 1, hS6, by omega, fr5.trans fr6, fr6 _ _ zS.1.symm zS.2.1.symm es5, fr6 _ _ zM.1.symm zM.2.1.symm e5, fun _ => List.cons_ne_nil _ _⟩
    clear e4 es4 fr4 hS4
    rintro σ' H5 ⟨y5, y7, c5, spots, rfl, hS5, hc5, fr5, es5, l5, p5⟩
    refine ⟨Nat.zero_le _, fun R hR => ?_⟩
    have zR := hS5.ne hR
    have gR := fr5.free hS5 hR
    have nSR : S ≠ R := ne_of_none es5 hR
    have hS6 := hS5.same (same_upd (o := .lst []) hR)
    have fr6 := fr5.trans (Fr.of (same_upd (o := .lst []) hR))
    have es6 := same_upd (o := .lst []) hR _ _ es5
    have eR6 : (upd H5 R (.lst [])) R = some (.lst []) := upd_same
    generalize upd H5 R (.lst []) = H6 at *
    clear hS5 fr5 es5 hR
    refine ⟨_, rfl, _, rfl, S, _, rfl, .inl (SqL.of es6), s, A, B, c5, _, rfl, hS6, by omega, by omega, ?_, fun H7 NL ns hS7 fr7 hNL eN lN nN nR => ?_⟩
    · rw [List.length_map]; omega
    have zN := hS6.ne hNL
    have gN := fr6.free hS6 hNL
    have nSN : S ≠ NL := ne_of_none es6 hNL
    have nRN : R ≠ NL := ne_of_none eR6 hNL
    rw [List.length_map] at lN
    have lN : ns.length = spots.length := by omega
    refine ⟨NL, rfl, ⟨_, SqL.of eN⟩, for_list (K := K) (a := NL) (xs := ns.map V.str) (fun i σ' H' => ∃ (y9 : Option V) (sp : List Int) (ps : List (Addr × Str × Int)), σ' = [some (.ref s), some (.ref h), some (.int m), some (.int sh), some (.ref M), y5, some (.ref S), y7, some (.ref R), y9] ∧ StreamAt H' s A B (c5 + 10 + i) ∧ Fr s A H H' ∧ H' NL = some (.lst (ns.map V.str)) ∧ H' S = some (.lst (vi sp)) ∧ sp.length + i = ns.length ∧ (∀ y ∈ sp, 0 ≤ y ∧ y < n) ∧
        H' R = some (.lst (ps.map fun q => V.ref q.1)) ∧ (ps.map (·.2.1)) = ns.take i ∧ (∀ q ∈ ps, H' q.1 = some (.tup [.str q.2.1, .int q.2.2])) ∧ ∀ q ∈ ps, 0 ≤ q.2.2 ∧ q.2.2 < n)
      ⟨_, spots, [], rfl, hS7, fr6.trans fr7, eN, fr7 _ _ zS.1.symm zS.2.1.symm es6, by omega, p5, fr7 _ _ zR.1.symm zR.2.1.symm eR6, rfl, fun q hq => absurd hq List.not_mem_nil, fun q hq => absurd hq List.not_mem_nil⟩ ?_ ?_ ?_⟩
    · rintro i σ' H' _ ⟨y9, sp, ps, _, _, _, e', _⟩
      exact SqL.of e'
    · rintro i x σ' H8 hx ⟨y9, sp, ps, rfl, hS8, fr8, eN8, es8, l8, p8, eR8, en8, ep8, pr8⟩
      obtain ⟨nm, hnm, rfl⟩ := get_vs hx
      have hi : i < ns.length := (List.getElem?_eq_some_iff.mp hnm).1
      have hps : ps.length = i := by
        have := congrArg List.length en8
        rw [List.length_map, List.length_take] at this
        omega
      refine ⟨_, rfl, .inl ⟨rfl, _, SqL.of eR8⟩, _, rfl, _, rfl, .inl ⟨rfl, _, SqL.of es8⟩, _, rfl, _, rfl, S, _, rfl, .inl (SqL.of es8), s, A, B, c5 + 10 + i, _, rfl, hS8, by omega, ?_, ?_, fun H9 r hS9 fr9 r0 r1 => ?_⟩
      · rw [List.length_map]; omega
      · rw [List.length_map]; omega
      rw [List.length_map] at r1
      have hj : r.toNat < sp.length := by omega
      have ixr : ixN (vi sp).length r = some r.toNat := by
        unfold ixN
        rw [List.length_map, if_pos r0, if_pos r1]
      have gx : (vi sp)[r.toNat]? = some (V.int sp[r.toNat]) := by
        rw [List.getElem?_map, List.getElem?_eq_getElem hj]
        rfl
      have es9 := fr9 _ _ zS.1.symm zS.2.1.symm es8
      refine ⟨S, _, r, r.toNat, _, rfl, rfl, es9, by omega, by omega, (ixN_seq ixr).1, gx, by show 2 ≤ sizeLine; decide, fun t ht => ?_⟩
      have zt := (hS9.put (o := .lst ((vi sp).eraseIdx r.toNat)) zS).ne ht
      have hS10 := (hS9.put (o := .lst ((vi sp).eraseIdx r.toNat)) zS)
      have fr10 := (fr8.trans fr9).put (o := .lst ((vi sp).eraseIdx r.toNat)) fS
      have eR10 : (upd H9 S (.lst ((vi sp).eraseIdx r.toNat))) R = _ := (upd_ne nSR.symm).trans (fr9 _ _ zR.1.symm zR.2.1.symm eR8)
      have eN10 : (upd H9 S (.lst ((vi sp).eraseIdx r.toNat))) NL = _ := (upd_ne nSN.symm).trans (fr9 _ _ zN.1.symm zN.2.1.symm eN8)
      have es10 : (upd H9 S (.lst ((vi sp).eraseIdx r.toNat))) S = some (.lst (vi (sp.eraseIdx r.toNat))) := by rw [upd_same, vi_erase]
      have ep10 : ∀ q ∈ ps, (upd H9 S (.lst ((vi sp).eraseIdx r.toNat))) q.1 = some (.tup [.str q.2.1, .int q.2.2]) := fun q hq => by
        have := fr9.tup hS8 (ep8 q hq)
        rw [upd_ne (ne_of this es9 (by intro z; cases z))]
        exact this
      generalize upd H9 S (.lst ((vi sp).eraseIdx r.toNat)) = H10 at *
      have sm := same_upd (o := .tup [.str nm, .int sp[r.toNat]]) ht
      have eR11 := sm _ _ eR10
      have et : (upd H10 t (.tup [.str nm, .int sp[r.toNat]])) t = some (.tup [.str nm, .int sp[r.toNat]]) := upd_same
      have ep11 : ∀ q ∈ ps, (upd H10 t (.tup [.str nm, .int sp[r.toNat]])) q.1 = some (.tup [.str q.2.1, .int q.2.2]) := fun q hq => sm _ _ (ep10 q hq)
      have hS11 := hS10.same sm
      have fr11 := fr10.trans (Fr.of sm)
      have es11 := sm _ _ es10
      have eN11 := sm _ _ eN10
      generalize upd H10 t (.tup [.str nm, .int sp[r.toNat]]) = H11 at *
      refine ⟨R, _, _, rfl, rfl, eR11, ?_, _, sp.eraseIdx r.toNat, ps ++ [(t, nm, sp[r.toNat])], rfl, (hS11.put zR), fr11.put gR, ?_, ?_, ?_, ?_, ?_, ?_, ?_, ?_⟩
      · rw [List.length_map]
        exact small1000 (by omega)
      · rw [upd_ne nRN.symm]
        exact eN11
      · rw [upd_ne nSR]
        exact es11
      · rw [List.length_eraseIdx, if_pos hj]
        omega
      · intro y hy
        exact p8 y (List.mem_of_mem_eraseIdx hy)
      · rw [upd_same, List.map_append]
        rfl
      · rw [List.map_append, List.take_add_one, hnm, en8]
        rfl
      · intro q hq
        rcases List.mem_append.mp hq with hq | hq
        · rw [upd_ne (ne_of (ep11 q hq) eR11 (by intro z; cases z))]
          exact ep11 q hq
        · rw [List.mem_singleton.mp hq]
          rw [upd_ne (ne_of et eR11 (by intro z; cases z))]
          exact et
      · intro q hq
        rcases List.mem_append.mp hq with hq | hq
        · exact pr8 q hq
        · rw [List.mem_singleton.mp hq]
          exact p8 _ (List.getElem_mem hj)
    · rintro σ' H8 ⟨y9, sp, ps, rfl, hS8, fr8, eN8, es8, l8, p8, eR8, en8, ep8, pr8⟩
      rw [List.length_map, List.take_length] at en8
      rw [List.length_map] at hS8 l8
      refine ⟨_, rfl, R, _, rfl, SqL.of eR8, fun t ob ht od => ?_⟩
      have sm := same_upd (o := .frz ob (.tup (ps.map fun q => V.ref q.1))) ht
      refine q _ t (ps.map (·.2)) ((hS8.same sm).mono (by omega)) (fr8.trans (Fr.of sm)) ⟨ps, ob, od, upd_same, rfl, fun q hq => sm _ _ (ep8 q hq)⟩ ⟨?_, ?_⟩ ?_ (fun x hx => nR _ ?_)
      · rw [List.map_map]
        show Names (ps.map (·.2.1))
        rw [en8]
        exact nN
      · intro x hx
        obtain ⟨q, hq, rfl⟩ := List.mem_map.mp hx
        exact pr8 q hq
      · have := congrArg List.length en8
        rw [List.length_map] at this
        rw [List.length_map]
        omega
      · obtain ⟨q, hq, rfl⟩ := List.mem_map.mp hx
        rw [← en8]
        exact List.mem_map_of_mem (f := (·.2.1)) hq
theorem ok_pl {f : Addr} {fd : FuncData} (F : Fun K "_law_placement" "_law_placement" sPl f fd) (T : Nm mg) (C_law_draw : Cal P w K mg base 1 "_law_draw" pDraw spDraw) (C_law_names : Cal P w K mg base 2 "_law_names" pDraw spNames) : FnOk P w K mg base CX0 3 f fd pPl spPl :=
  (ok_plR (R := fun _ => True) F T C_law_draw (names_all C_law_names fun _ => trivial)).imp fun vs H Q E ⟨s, A, B, h, c, n, D, m, e, hS, hc, hH, n0, n1, m0, m1, q⟩ => ⟨s, A, B, h, c, n, D, m, e, hS, hc, hH, n0, n1, m0, m1, fun H' p P a b c d e _ => q H' p P a b c d e⟩
end
end Fw
namespace Fw
open PySem PySem.Spec PyProof.Rows L2
/-! ### what a walk over a placement needs: tuples stay -/
structure Tk (H H' : Hp) : Prop where
  t : ∀ {b : Addr} {xs : List V}, H b = some (.tup xs) → H' b = some (.tup xs)
  f : ∀ {b : Addr} {o : Obj} {xs : List V}, H b = some (.frz o (.tup xs)) → H' b = some (.frz o (.tup xs))
theorem Tk.refl {H : Hp} : Tk H H := ⟨fun e => e, fun e => e⟩
theorem Tk.of {H H' : Hp} (h : Same H H') : Tk H H' := ⟨fun e => h _ _ e, fun e => h _ _ e⟩
theorem Tk.trans {H H1 H2 : Hp} (a : Tk H H1) (b : Tk H1 H2) : Tk H H2 := ⟨fun e => b.t (a.t e), fun e => b.f (a.f e)⟩
theorem Tk.fr {s A B : Addr} {c : Nat} {H H' : Hp} (f : Fr s A H H') (hS : StreamAt H s A B c) : Tk H H' := ⟨fun e => f.tup hS e, fun e => f.frz hS e⟩
theorem Tk.put {H H' : Hp} (a : Tk H H') {L : Addr} {xs : List V} {o : HO} (h : H' L = some (.lst xs)) : Tk H (upd H' L o) := by
  refine ⟨fun e => ?_, fun e => ?_⟩
  · rw [upd_ne (ne_of (a.t e) h (by intro z; cases z))]
    exact a.t e
  · rw [upd_ne (ne_of (a.f e) h (by intro z; cases z))]
    exact a.f e
theorem Tk.putD {H H' : Hp} (a : Tk H H') {L : Addr} {xs : List (Key × V)} {o : HO} (h : H' L = some (.dK xs)) : Tk H (upd H' L o) := by
  refine ⟨fun e => ?_, fun e => ?_⟩
  · rw [upd_ne (ne_of (a.t e) h (by intro z; cases z))]
    exact a.t e
  · rw [upd_ne (ne_of (a.f e) h (by intro z; cases z))]
    exact a.f e
theorem Tk.new {H H' : Hp} (a : Tk H H') {L : Addr} {o : HO} (h : H' L = none) : Tk H (upd H' L o) := a.trans (Tk.of (same_upd h))
theorem HouseAt.tk {H H' : Hp} {h : Addr} {n : Int} {D : List (Int × Int)} (x : HouseAt H h n D) (e : Tk H H') : HouseAt H' h n D := by
  obtain ⟨q, ps, h1, h2, h3, h4⟩ := x
  exact ⟨q, ps, e.t h1, e.t h2, h3, fun p hp => e.t (h4 p hp)⟩
theorem TpAt.tk {H H' : Hp} {p : Addr} {xs : List V} (x : TpAt H p xs) (e : Tk H H') : TpAt H' p xs := x.elim (fun h => .inl (e.t h)) fun ⟨o, d, h⟩ => .inr ⟨o, d, e.f h⟩
theorem PlAt.tk {H H' : Hp} {p : Addr} {P : List (Str × Int)} (x : PlAt H p P) (e : Tk H H') : PlAt H' p P := by
  obtain ⟨ps, h1, h2, h3⟩ := x
  exact ⟨ps, h1.tk e, h2, fun q hq => e.t (h3 q hq)⟩
theorem PlD.tk {H H' : Hp} {p : Addr} {P : List (Str × Int)} (x : PlD H p P) (e : Tk H H') : PlD H' p P := by
  obtain ⟨ps, o, d, h1, h2, h3⟩ := x
  exact ⟨ps, o, d, e.f h1, h2, fun q hq => e.t (h3 q hq)⟩
theorem get_pl {ps : List (Addr × Str × Int)} {i : Nat} {x : V} (h : (ps.map fun p => V.ref p.1)[i]? = some x) : ∃ p, ps[i]? = some p ∧ x = .ref p.1 := by
  rw [List.getElem?_map] at h
  cases e : ps[i]? with
  | none => rw [e] at h; cases h
  | some v => rw [e] at h; exact ⟨v, rfl, (Option.some.inj h).symm⟩
/-- a comprehension over a placement -/
theorem lc_pl {K : PySem.W.Frag} {p : Addr} {P : List (Str × Int)} {i j : Nat} {tt : TT} {te : TE} {vs : List Nat} {σ : L2.St} {H1 : Hp} {D : Addr} {Qd : Hp → Prop} (x : PlAt H1 p P) (Pv : Nat → Hp → Prop) (h0 : Pv 0 (upd H1 D (.lst []))) (hl : ∀ k H, Pv k H → Tk H1 H)
    (hs : ∀ k nm r H, P[k]? = some (nm, r) → Pv k H → wipe (((wipe σ vs).set i (some (.str nm))).set j (some (.int r))) vs = wipe σ vs ∧ tt (((wipe σ vs).set i (some (.str nm))).set j (some (.int r))) H fun b H3 =>
      if b = true then te (((wipe σ vs).set i (some (.str nm))).set j (some (.int r))) H3 fun y H4 => ∃ acc, H4 D = some (.lst acc) ∧ acc.length < sizeLine ∧ Pv (k + 1) (upd H4 D (.lst (acc ++ [y]))) else Pv (k + 1) H3) (hd : ∀ H, Pv P.length H → Qd H) :
    ∃ W : Nat → Nat → Hp → Prop, (∃ m, W 0 m (upd H1 D (.lst []))) ∧ ∀ k m H, W k m H →
      ((Itt K p).stop k H ∧ Qd H) ∨ ((Itt K p).go k H ∧ ∃ Nx : Hp → Prop, (∀ H', Nx H' → ∃ m', m' < m ∧ W (k + 1) m' H') ∧ ∀ x H', (Itt K p).yld k H x H' → gTup K 2 (gCons (gName i) (gCons (gName j) gNil)) x (wipe σ vs) H' fun σ2 H2 => wipe σ2 vs = wipe σ vs ∧ tt σ2 H2 fun b H3 =>
        if b = true then te σ2 H3 fun y H4 => ∃ acc, H4 D = some (.lst acc) ∧ acc.length < sizeLine ∧ Nx (upd H4 D (.lst (acc ++ [y]))) else Nx H3) := by
  obtain ⟨ps, h1, rfl, h3⟩ := x
  refine lc_tup (K := K) (a := p) (xs := ps.map fun q => V.ref q.1) Pv h0 (fun i H _ hp => (h1.tk (hl i H hp)).sq) (fun k x H hx hp => ?_) (fun H hp => hd H (by rw [List.length_map] at hp ⊢; exact hp))
  obtain ⟨q, hq, rfl⟩ := get_pl hx
  refine ⟨q.1, _, rfl, SqT.of ((hl k H hp).t (h3 q (List.mem_of_getElem? hq))), rfl, _, _, rfl, _, _, rfl, rfl, ?_⟩
  exact hs k q.2.1 q.2.2 H (by rw [List.getElem?_map, hq]; rfl) hp
/-- a loop over a placement -/
theorem for_pl {K : PySem.W.Frag} {p : Addr} {P : List (Str × Int)} {i j : Nat} {tb : TS} {D : Ends} {σ : L2.St} {H0 H : Hp} (x : PlAt H0 p P) (Pv : Nat → L2.St → Hp → Prop) (h0 : Pv 0 σ H) (hl : ∀ k σ H, Pv k σ H → Tk H0 H)
    (hs : ∀ k nm r σ H, P[k]? = some (nm, r) → Pv k σ H → tb { D with nx := Pv (k + 1), ct := Pv (k + 1), bk := D.nx } ((σ.set i (some (.str nm))).set j (some (.int r))) H) (hd : ∀ σ H, Pv P.length σ H → D.nx σ H) :
    ∃ W : Nat → Nat → L2.St → Hp → Prop, (∃ m, W 0 m σ H) ∧ ∀ k m σ H, W k m σ H →
      ((Itt K p).stop k H ∧ D.nx σ H) ∨ ((Itt K p).go k H ∧ ∃ N : L2.St → Hp → Prop, (∀ σ' H', N σ' H' → ∃ m', m' < m ∧ W (k + 1) m' σ' H') ∧ ∀ x H', (Itt K p).yld k H x H' → gTup K 2 (gCons (gName i) (gCons (gName j) gNil)) x σ H' fun σ2 H2 => tb { D with nx := N, ct := N, bk := D.nx } σ2 H2) := by
  obtain ⟨ps, h1, rfl, h3⟩ := x
  refine for_tup (K := K) (a := p) (xs := ps.map fun q => V.ref q.1) Pv h0 (fun i σ H _ hp => (h1.tk (hl i σ H hp)).sq) (fun k x σ H hx hp => ?_) (fun σ H hp => hd σ H (by rw [List.length_map] at hp ⊢; exact hp))
  obtain ⟨q, hq, rfl⟩ := get_pl hx
  refine ⟨q.1, _, rfl, SqT.of ((hl k σ H hp).t (h3 q (List.mem_of_getElem? hq))), rfl, _, _, rfl, _, _, rfl, rfl, ?_⟩
  exact hs k q.2.1 q.2.2 σ H (by rw [List.getElem?_map, hq]; rfl) hp
theorem PlAt.sq {K : PySem.W.Frag} {H : Hp} {p : Addr} {P : List (Str × Int)} (x : PlAt H p P) : ∃ xs, SqT K H p xs := by
  obtain ⟨ps, h1, _⟩ := x
  exact ⟨_, h1.sq⟩
theorem inV_vi (x : Int) (R : List Int) : inV (.int x) (vi R) = decide (x ∈ R) := by
  unfold inV
  rw [Bool.eq_iff_iff, List.any_eq_true, decide_eq_true_eq]
  constructor
  · rintro ⟨y, hy, e⟩
    obtain ⟨z, hz, rfl⟩ := List.mem_map.mp hy
    have : z = x := by simpa [eqV] using e
    exact this ▸ hz
  · intro h
    exact ⟨.int x, List.mem_map_of_mem h, by simp [eqV]⟩
theorem flat_vi (R : List Int) : (vi R).all flatV = true := by
  rw [List.all_eq_true]
  intro x hx
  obtain ⟨z, _, rfl⟩ := List.mem_map.mp hx
  rfl
theorem take_snoc {α : Type} {xs : List α} {k : Nat} {x : α} (h : xs[k]? = some x) : xs.take (k + 1) = xs.take k ++ [x] := by
  rw [List.take_add_one, h]
  rfl
theorem filter_snoc {α : Type} (f : α → Bool) (xs : List α) (x : α) : (xs ++ [x]).filter f = xs.filter f ++ if f x = true then [x] else [] := by
  rw [List.filter_append]
  congr 1
  by_cases c : f x = true
  · rw [if_pos c, List.filter_cons_of_pos c]
    rfl
  · rw [if_neg c, List.filter_cons_of_neg c]
    rfl
theorem lt_of_get {α : Type} {xs : List α} {k : Nat} {x : α} (h : xs[k]? = some x) : k < xs.length := (List.getElem?_eq_some_iff.mp h).1
theorem sqT_same {K : PySem.W.Frag} {H H' : Hp} {a : Addr} {xs : List V} (e : Same H H') (h : SqT K H a xs) : SqT K H' a xs :=
  h.imp (Or.imp (e a _) fun ⟨o, x⟩ => ⟨o, e a _ x⟩) id
end Fw
namespace Fw
open PySem PySem.Spec PyProof.Rows L2
/-- who is in the rooms R -/
def inside (P : List (Str × Int)) (R : List Int) : List Str := (P.filter fun x => decide (x.2 ∈ R)).map (·.1)
theorem inside_snoc {P : List (Str × Int)} {R : List Int} {k : Nat} {nm : Str} {r : Int} (h : P[k]? = some (nm, r)) : inside (P.take (k + 1)) R = inside (P.take k) R ++ if r ∈ R then [nm] else [] := by
  unfold inside
  rw [take_snoc h, filter_snoc, List.map_append]
  congr 1
  by_cases c : r ∈ R
  · rw [if_pos c, if_pos (by simpa using c)]
    rfl
  · rw [if_neg c, if_neg (by simpa using c)]
    rfl
theorem inside_len (P : List (Str × Int)) (R : List Int) : (inside P R).length ≤ P.length := by
  unfold inside
  rw [List.length_map]
  exact List.length_filter_le _ _
theorem inside_nil {P : List (Str × Int)} {R : List Int} : inside P R = [] ↔ ∀ x ∈ P, x.2 ∉ R := by
  unfold inside
  rw [List.map_eq_nil_iff, List.filter_eq_nil_iff]
  simp
theorem key_uniq {P : List (Str × Int)} (nd : (P.map (·.1)).Nodup) {x y : Str × Int} (hx : x ∈ P) (hy : y ∈ P) (e : x.1 = y.1) : x = y := by
  induction P with
  | nil => cases hx
  | cons z P ih =>
    rw [List.map_cons, List.nodup_cons] at nd
    rcases List.mem_cons.mp hx with h1 | h1 <;> rcases List.mem_cons.mp hy with h2 | h2
    · rw [h1, h2]
    · exact absurd (List.mem_map_of_mem (f := (·.1)) h2) (by rw [← e, h1]; exact nd.1)
    · exact absurd (List.mem_map_of_mem (f := (·.1)) h1) (by rw [e, h2]; exact nd.1)
    · exact ih nd.2 h1 h2
section
variable {P : Program} {w : World} {K : PySem.W.Frag} {mg : Str → Option Value} {base : Heap}
def spPWi (K : PySem.W.Frag) : Sp := fun vs H Q _ => ∃ (p t : Addr) (P : List (Str × Int)) (R : List Int), vs = [.ref p, .ref t] ∧ PlAt H p P ∧ SqT K H t (vi R) ∧ P.length ≤ 100 ∧
  ∀ H' u, Same H H' → H' u = some (.tup ((inside P R).map V.str)) → Q (.ref u) H'
abbrev nPWi : List Str := ["placement", "rooms", "name", "room"]
theorem scPWi : FnScope nPWi ["placement", "rooms"] (defScope sPWi) := ⟨rfl, rfl, rfl, by decide +kernel, rfl, by decide +kernel, by decide +kernel⟩
theorem ok_pwi {f : Addr} {fd : FuncData} {k : Nat} (F : Fun K "people_within" "people_within" sPWi f fd) (T : Nm mg) : FnOk P w K mg base CX0 (k + 1) f fd pPWi (spPWi K) := by
  refine F.ok scPWi (fun vs H Q E h => ?_) (fun cdv A outer s H vs Q E hr h => ?_)
  · obtain ⟨p, t, P, R, rfl, _⟩ := h
    rfl
  · obtain ⟨p, t, P, R, rfl, hP, hR, hl, q⟩ := h
    refine ⟨_, (pss_one (ps_ret (pe_callTy call_tuple_of (by rfl) T.tuple (by decide +kernel) (pa_cons (pe_lc (own := [("name", 2), ("room", 3)]) (g := gTup K 2 (gCons (gName 2) (gCons (gName 3) gNil))) (by rfl) scPWi.nd (pi_tup (pv 0))
 (blkOk_by (own := [("name", 2), ("room", 3)]) (N := nPWi) (sc := defScope sPWi) (by decide +kernel))
 (fun _ _ _ _ _ => (pg_tup (by rfl) (pgs_cons (pg_name (i := 2) scPWi.nd rfl (.inl rfl)) (pgs_cons (pg_name (i := 3) scPWi.nd rfl (.inl rfl)) pgs_nil)))) (fun _ _ _ _ _ => pts_one (pt_cmpR (op_inK K rfl) (pv 3) (pv 1) (by rfl))) (fun _ _ _ _ _ => (pv 2))) pa_nil)))), ?_⟩
    refine ⟨_, rfl, p, rfl, hP.sq, fun L hL => lc_pl hP (fun i H1 => Same H H1 ∧ H1 L = some (.lst ((inside (P.take i) R).map V.str))) ⟨same_upd hL, upd_same⟩ (fun _ _ h => Tk.of h.1) ?_ ?_⟩
    · rintro k nm r H1 hk ⟨s1, e1⟩
      refine ⟨rfl, _, rfl, _, rfl, t, _, rfl, .inr (sqT_same s1 hR), rfl, flat_vi R, _, rfl, ?_⟩
      rw [if_neg (by decide), inV_vi, inside_snoc hk]
      refine ite2 (fun c => ?_) (fun c => ?_)
      · rw [if_pos (of_decide_eq_true c)]
        refine ⟨_, rfl, _, e1, ?_, same_put s1 hL, ?_⟩
        · rw [List.length_map]
          have h1 := inside_len (P.take k) R
          rw [List.length_take] at h1
          exact small1000 (by omega)
        · rw [upd_same, vs_app]
          rfl
      · rw [if_neg (fun z => c (decide_eq_true z)), List.append_nil]
        exact ⟨s1, e1⟩
    · rintro H1 ⟨s1, e1⟩
      rw [List.take_length] at e1
      exact ⟨L, _, rfl, .inl ⟨SqL.of e1, fun t ht => q _ t (s1.trans (same_upd ht)) upd_same⟩⟩

def spPIn : Sp := fun vs H Q _ => ∃ (p : Addr) (P : List (Str × Int)) (r : Int), vs = [.ref p, .int r] ∧ PlAt H p P ∧ P.length ≤ 100 ∧
  ∀ H' u, Same H H' → H' u = some (.tup ((inside P [r]).map V.str)) → Q (.ref u) H'
abbrev nPIn : List Str := ["placement", "room"]
theorem scPIn : FnScope nPIn ["placement", "room"] (defScope sPIn) := ⟨rfl, rfl, rfl, by decide +kernel, rfl, by decide +kernel, by decide +kernel⟩
theorem ok_pin {f : Addr} {fd : FuncData} {k : Nat} (F : Fun K "people_in" "people_in" sPIn f fd) (T : Nm mg) (Cpeople_within : Cal P w K mg base (k + 1) "people_within" pPWi (spPWi K)) : FnOk P w K mg base CX0 (k + 2) f fd pPIn spPIn := by
  refine F.ok scPIn (fun vs H Q E h => ?_) (fun cdv A outer s H vs Q E hr h => ?_)
  · obtain ⟨p, P, r, rfl, _⟩ := h
    rfl
  · obtain ⟨p, P, r, rfl, hP, hl, q⟩ := h
    refine ⟨_, (pss_one (ps_ret (pe_cal Cpeople_within hr (by rfl) (pa_cons (pv 0) (pa_cons (pe_tup (pa_cons (pv 1) pa_nil)) pa_nil))))), ?_⟩
    refine ⟨_, rfl, _, rfl, by show 1 ≤ sizeLine; decide, fun t ht => ⟨p, t, P, [r], rfl, hP.same (same_upd ht), SqT.of upd_same, hl, fun H' u s1 e1 => q _ u ((same_upd ht).trans s1) e1⟩⟩

def spRoomOf : Sp := fun vs H Q _ => ∃ (p : Addr) (P : List (Str × Int)) (nm : Str) (r : Int), vs = [.ref p, .str nm] ∧ PlAt H p P ∧ (nm, r) ∈ P ∧ (P.map (·.1)).Nodup ∧ Q (.int r) H
abbrev nRoomOf : List Str := ["placement", "name", "person", "room"]
theorem scRoomOf : FnScope nRoomOf ["placement", "name"] (defScope sRoomOf) := ⟨rfl, rfl, rfl, by decide +kernel, rfl, by decide +kernel, by decide +kernel⟩
theorem ok_roomof {f : Addr} {fd : FuncData} {k : Nat} (F : Fun K "room_of" "room_of" sRoomOf f fd) : FnOk P w K mg base CX0 (k + 1) f fd pRoomOf spRoomOf := by
  refine F.ok scRoomOf (fun vs H Q E h => ?_) (fun cdv A outer s H vs Q E hr h => ?_)
  · obtain ⟨p, P, nm, r, rfl, _⟩ := h
    rfl
  · obtain ⟨p, P, nm, r, rfl, hP, hm, nd, q⟩ := h
    refine ⟨_, (pss_cons (ps_for PassesOwn.never rfl (pi_tup (pv 0)) (pg_tup (by rfl) (pgs_cons (pg_name (i := 2) scRoomOf.nd rfl (.inl rfl)) (pgs_cons (pg_name (i := 3) scRoomOf.nd rfl (.inl rfl)) pgs_nil)))
      (pss_one (ps_if (pt_cmpR op_eq (pv 2) (pv 1) (nomark _))
       (pss_one (ps_ret (pv 3)))
       pss_nil)))
      pss_never), ?_⟩
    refine ⟨_, rfl, p, rfl, hP.sq, for_pl hP (fun i σ' H' => ∃ y2 y3, σ' = [some (.ref p), some (.str nm), y2, y3] ∧ H' = H ∧ ∀ x ∈ P.take i, x.1 ≠ nm) ⟨_, _, rfl, rfl, fun x hx => by cases hx⟩ ?_ ?_ ?_⟩
    · rintro k σ' H' ⟨_, _, _, rfl, _⟩
      exact Tk.refl
    · rintro k n' r' σ' H' hk ⟨y2, y3, rfl, rfl, hn⟩
      refine ⟨_, rfl, _, rfl, rfl, _, rfl, ?_⟩
      refine ite2 (fun c => ?_) (fun c => ?_)
      · have c : n' = nm := V.str.inj (of_decide_eq_true c)
        subst c
        have := key_uniq nd (List.mem_of_getElem? hk) hm rfl
        cases this
        exact ⟨_, rfl, q⟩
      · refine ⟨_, _, rfl, rfl, fun x hx => ?_⟩
        rw [take_snoc hk, List.mem_append] at hx
        rcases hx with hx | hx
        · exact hn x hx
        · rw [List.mem_singleton.mp hx]
          exact fun e => c (decide_eq_true (by rw [show n' = nm from e]))
    · rintro σ' H' ⟨y2, y3, rfl, rfl, hn⟩
      rw [List.take_length] at hn
      exact absurd rfl (hn _ hm)
end
end Fw
namespace Fw
open PySem PySem.Spec PyProof.Rows L2
/-! ### a list of pairs (name, room) -/
def LsAt (H : Hp) (l : Addr) (X : List (Str × Int)) : Prop := ∃ ps : List (Addr × Str × Int), H l = some (.lst (ps.map fun q => V.ref q.1)) ∧ X = ps.map (·.2) ∧ ∀ q ∈ ps, H q.1 = some (.tup [.str q.2.1, .int q.2.2])
theorem LsAt.nil {H : Hp} {l : Addr} (h : H l = some (.lst [])) : LsAt H l [] := ⟨[], h, rfl, fun q hq => absurd hq List.not_mem_nil⟩
theorem LsAt.same {H H' : Hp} {l : Addr} {X : List (Str × Int)} (x : LsAt H l X) (e : Same H H') : LsAt H' l X := by
  obtain ⟨ps, h1, h2, h3⟩ := x
  exact ⟨ps, e _ _ h1, h2, fun q hq => e _ _ (h3 q hq)⟩
theorem LsAt.fr {s A B : Addr} {c : Nat} {H H' : Hp} {l : Addr} {X : List (Str × Int)} (x : LsAt H l X) (hS : StreamAt H s A B c) (e : Fr s A H H') (z : s ≠ l ∧ A ≠ l ∧ B ≠ l) : LsAt H' l X := by
  obtain ⟨ps, h1, h2, h3⟩ := x
  exact ⟨ps, e _ _ z.1.symm z.2.1.symm h1, h2, fun q hq => e.tup hS (h3 q hq)⟩
theorem LsAt.snoc {H : Hp} {l t : Addr} {X : List (Str × Int)} {a : Str} {b : Int} (x : LsAt H l X) (ht : H t = some (.tup [.str a, .int b])) : ∃ acc, H l = some (.lst acc) ∧ acc.length = X.length ∧ LsAt (upd H l (.lst (acc ++ [.ref t]))) l (X ++ [(a, b)]) := by
  obtain ⟨ps, h1, h2, h3⟩ := x
  refine ⟨_, h1, by rw [h2, List.length_map, List.length_map], ps ++ [(t, a, b)], ?_, by rw [h2, List.map_append]; rfl, fun q hq => ?_⟩
  · rw [upd_same, List.map_append]
    rfl
  · have : H q.1 = some (.tup [.str q.2.1, .int q.2.2]) := by
      rcases List.mem_append.mp hq with hq | hq
      · exact h3 q hq
      · rw [List.mem_singleton.mp hq]
        exact ht
    rw [upd_ne (ne_of this h1 (by intro z; cases z))]
    exact this
theorem LsAt.tup {H : Hp} {l : Addr} {X : List (Str × Int)} (x : LsAt H l X) : ∃ xs, H l = some (.lst xs) ∧ ∀ (t : Addr) (ob : Obj), H t = none → ob.dict = none → PlD (upd H t (.frz ob (.tup xs))) t X := by
  obtain ⟨ps, h1, h2, h3⟩ := x
  exact ⟨_, h1, fun t ob ht od => ⟨ps, ob, od, upd_same, h2, fun q hq => same_upd ht _ _ (h3 q hq)⟩⟩
/-- the placement after a move -/
def mvd (P : List (Str × Int)) (nm : Str) (r : Int) : List (Str × Int) := P.map fun x => (x.1, if x.1 = nm then r else x.2)
theorem mvd_len (P : List (Str × Int)) (nm : Str) (r : Int) : (mvd P nm r).length = P.length := by unfold mvd; rw [List.length_map]
theorem mvd_names (P : List (Str × Int)) (nm : Str) (r : Int) : (mvd P nm r).map (·.1) = P.map (·.1) := by
  unfold mvd
  rw [List.map_map]
  rfl
theorem mvd_get {P : List (Str × Int)} {nm : Str} {r : Int} {k : Nat} {n' : Str} {r' : Int} (h : P[k]? = some (n', r')) : (mvd P nm r)[k]? = some (n', if n' = nm then r else r') := by
  unfold mvd
  rw [List.getElem?_map, h]
  rfl
theorem Pl.mvd {n : Int} {P : List (Str × Int)} (h : Pl n P) {nm : Str} {r : Int} (h0 : 0 ≤ r) (h1 : r < n) : Pl n (mvd P nm r) := by
  refine ⟨by rw [mvd_names]; exact h.nm, fun x hx => ?_⟩
  obtain ⟨y, hy, rfl⟩ := List.mem_map.mp hx
  show 0 ≤ (if y.1 = nm then r else y.2) ∧ (if y.1 = nm then r else y.2) < n
  split
  · exact ⟨h0, h1⟩
  · exact h.rm y hy
/-- all moves -/
def mvs (n : Int) (D : List (Int × Int)) (P : List (Str × Int)) (X : List (Str × Int)) : List (Str × Int) := X.flatMap fun x => ((nb n D x.2).filter fun t => decide (t ∈ P.map (·.2))).map fun t => (x.1, t)
theorem str_dec (a b : Str) : decide (V.str a = V.str b) = decide (a = b) := by
  rw [Bool.eq_iff_iff, decide_eq_true_eq, decide_eq_true_eq]
  exact ⟨V.str.inj, fun e => by rw [e]⟩
theorem k_ii' : kitB "int" "int" = some true := by decide +kernel
theorem k_ib' : kitB "int" "bool" = some false := by decide +kernel
section
variable {P : Program} {w : World} {K : PySem.W.Frag} {mg : Str → Option Value} {base : Heap}
def spLMoved : Sp := fun vs H Q _ => ∃ (p : Addr) (P : List (Str × Int)) (nm : Str) (r : Int), vs = [.ref p, .str nm, .int r] ∧ PlAt H p P ∧ P.length ≤ 100 ∧ ∀ H' u, Same H H' → PlD H' u (mvd P nm r) → Q (.ref u) H'
abbrev nLMoved : List Str := ["_law_placement_here", "_law_name", "_law_room", "_law_one", "_law_here"]
theorem scLMoved : FnScope nLMoved ["_law_placement_here", "_law_name", "_law_room"] (defScope sLMoved) := ⟨rfl, rfl, rfl, by decide +kernel, rfl, by decide +kernel, by decide +kernel⟩
theorem ok_lmoved {f : Addr} {fd : FuncData} {k : Nat} (F : Fun K "_law_moved" "_law_moved" sLMoved f fd) (T : Nm mg) : FnOk P w K mg base CX0 (k + 1) f fd pLMoved spLMoved := by
  refine F.ok scLMoved (fun vs H Q E h => ?_) (fun cdv A outer s H vs Q E hr h => ?_)
  · obtain ⟨p, P, nm, r, rfl, _⟩ := h
    rfl
  · obtain ⟨p, P, nm, r, rfl, hP, hl, q⟩ := h
    refine ⟨_, (pss_one (ps_ret (pe_callTy (call_tupleF K rfl) (by rfl) T.tuple (by decide +kernel) (pa_cons (pe_lc (own := [("_law_one", 3), ("_law_here", 4)]) (g := gTup K 2 (gCons (gName 3) (gCons (gName 4) gNil))) (by rfl) scLMoved.nd (pi_tup (pv 0))
 (blkOk_by (own := [("_law_one", 3), ("_law_here", 4)]) (N := nLMoved) (sc := defScope sLMoved) (by decide +kernel))
 (fun _ _ _ _ _ => (pg_tup (by rfl) (pgs_cons (pg_name (i := 3) scLMoved.nd rfl (.inl rfl)) (pgs_cons (pg_name (i := 4) scLMoved.nd rfl (.inl rfl)) pgs_nil)))) (fun _ _ _ _ _ => pts_nil) (fun _ _ _ _ _ => (pe_tup (pa_cons (pv 3) (pa_cons (pe_ix (ix_listK K rfl) (pe_lst (pa_cons (pv 4) (pa_cons (pv 2) pa_nil))) (pe_callTy call_int1 (by rfl) T.int (by decide +kernel) (pa_cons (pe_cmpR op_eq (pv 3) (pv 1) (nomark _)) pa_nil)) (fun _ _ => rfl)) pa_nil))))) pa_nil)))), ?_⟩
    refine ⟨_, rfl, p, rfl, hP.sq, fun L hL => lc_pl hP (fun i H1 => Same H H1 ∧ LsAt H1 L ((mvd P nm r).take i)) ⟨same_upd hL, .nil upd_same⟩ (fun _ _ h => Tk.of h.1) ?_ ?_⟩
    · rintro k n' r' H1 hk ⟨s1, e1⟩
      refine ⟨rfl, ?_⟩
      unfold tYes
      refine iteT ⟨_, rfl, _, rfl, _, rfl, by show 2 ≤ sizeLine; decide, fun a ha => ⟨_, rfl, _, rfl, rfl, .inr ⟨_, rfl, ?_⟩⟩⟩
      rw [str_dec]
      have ix : atI [V.int r', V.int r] (if decide (n' = nm) = true then 1 else 0) = some (.int (if n' = nm then r else r')) := by
        by_cases c : n' = nm
        · rw [if_pos (decide_eq_true c), if_pos c]
          exact atI1
        · rw [if_neg (by simpa using c), if_neg c]
          exact atI0
      refine ⟨a, _, _, _, rfl, rfl, SqL.of upd_same, ix, by show 2 ≤ sizeLine; decide, fun t ht => ?_⟩
      have sm := (same_upd (o := .lst [V.int r', V.int r]) ha).trans (same_upd (o := .tup [V.str n', V.int (if n' = nm then r else r')]) ht)
      obtain ⟨acc, e2, l2, e3⟩ := (e1.same sm).snoc (t := t) upd_same
      refine ⟨acc, e2, ?_, same_put (s1.trans sm) hL, ?_⟩
      · rw [l2, List.length_take, mvd_len]
        exact small1000 (by omega)
      · rw [take_snoc (mvd_get hk)]
        exact e3
    · rintro H1 ⟨s1, e1⟩
      rw [← mvd_len P nm r, List.take_length] at e1
      obtain ⟨xs, e2, e3⟩ := e1.tup
      exact ⟨L, _, rfl, SqL.of e2, fun t ob ht od => q _ t (s1.trans (same_upd ht)) (e3 t ob ht od)⟩
def spIsIntI : Sp := fun vs H Q _ => ∃ (i : Int), vs = [.int i] ∧ Q (.bl true) H
abbrev nIsInt : List Str := ["value"]
theorem scIsInt : FnScope nIsInt ["value"] (defScope sIsInt) := ⟨rfl, rfl, rfl, by decide +kernel, rfl, by decide +kernel, by decide +kernel⟩
theorem ok_isint {f : Addr} {fd : FuncData} {k : Nat} (F : Fun K "is_integer" "is_integer" sIsInt f fd) (T : Nm mg) : FnOk P w K mg base CX0 (k + 1) f fd pIsInt spIsIntI := by
  refine F.ok scIsInt (fun vs H Q E h => ?_) (fun cdv A outer s H vs Q E hr h => ?_)
  · obtain ⟨i, rfl, _⟩ := h
    rfl
  · obtain ⟨i, rfl, q⟩ := h
    refine ⟨_, (pss_one (ps_ret (pe_and (pe_callB call_isi (by rfl) T.isinstance (by decide +kernel) (pa_cons (pv 0) (pa_cons (pe_bltn (v := .ty "int") (by rfl) T.int (by decide +kernel) rfl) pa_nil))) (pe_one (pe_not (pe_callB call_isi (by rfl) T.isinstance (by decide +kernel) (pa_cons (pv 0) (pa_cons (pe_bltn (v := .ty "bool") (by rfl) T.bool (by decide +kernel) rfl) pa_nil)))))))), ?_⟩
    exact ⟨_, rfl, _, _, _, _, _, rfl, .ty _, .base (.int _), kit_ty k_ii', _, rfl, iteT ⟨_, rfl, _, _, _, _, _, rfl, .ty _, .base (.int _), kit_ty k_ib', _, rfl, q⟩⟩
def spIsRoom : Sp := fun vs H Q _ => ∃ (h : Addr) (n : Int) (D : List (Int × Int)) (i : Int), vs = [.ref h, .int i] ∧ HouseAt H h n D ∧ Q (.bl (decide (0 ≤ i ∧ i < n))) H
abbrev nIsRoom : List Str := ["house", "value"]
theorem scIsRoom : FnScope nIsRoom ["house", "value"] (defScope sIsRoom) := ⟨rfl, rfl, rfl, by decide +kernel, rfl, by decide +kernel, by decide +kernel⟩
theorem ok_isroom {f : Addr} {fd : FuncData} {k : Nat} (F : Fun K "is_room" "is_room" sIsRoom f fd) (T : Nm mg) (Cis_integer : Cal P w K mg base (k + 1) "is_integer" pIsInt spIsIntI) : FnOk P w K mg base CX0 (k + 2) f fd pIsRoom spIsRoom := by
  refine F.ok scIsRoom (fun vs H Q E h => ?_) (fun cdv A outer s H vs Q E hr h => ?_)
  · obtain ⟨h, n, D, i, rfl, _⟩ := h
    rfl
  · obtain ⟨h, n, D, i, rfl, hH, q⟩ := h
    refine ⟨_, (pss_one (ps_ret (pe_and (pe_cal Cis_integer hr (by rfl) (pa_cons (pv 1) pa_nil)) (pe_one (pe_chain op_le op_lt pe_int (pv 1) (pe_ix (ix_tupK K rfl) (pv 0) pe_int (fun _ _ => rfl))))))), ?_⟩
    obtain ⟨qd, eh⟩ := hH.room0
    refine ⟨_, rfl, i, rfl, _, rfl, iteT ⟨_, rfl, _, _, rfl, rfl, _, rfl, ?_⟩⟩
    refine ite2 (fun c => ?_) (fun c => ?_)
    · refine ⟨_, rfl, h, _, _, _, rfl, rfl, SqT.of eh, atI0, _, _, rfl, rfl, ?_⟩
      have c : 0 ≤ i := of_decide_eq_true c
      rw [show decide (0 ≤ i ∧ i < n) = decide (i < n) by simp [c]] at q
      exact q
    · have c : ¬ 0 ≤ i := fun e => c (decide_eq_true e)
      rw [show decide (0 ≤ i ∧ i < n) = false by simp [c]] at q
      exact q
def spWith : Sp := fun vs H Q _ => ∃ (p : Addr) (P : List (Str × Int)) (nm : Str) (r : Int), vs = [.ref p, .str nm, .int r] ∧ PlAt H p P ∧ P.length ≤ 100 ∧ ∀ H' u, Same H H' → PlD H' u (mvd P nm r) → Q (.ref u) H'
abbrev nWith : List Str := ["placement", "name", "room", "person", "other"]
theorem scWith : FnScope nWith ["placement", "name", "room"] (defScope sWith) := ⟨rfl, rfl, rfl, by decide +kernel, rfl, by decide +kernel, by decide +kernel⟩
theorem ok_with {f : Addr} {fd : FuncData} {k : Nat} (F : Fun K "with_person_in" "with_person_in" sWith f fd) (T : Nm mg) : FnOk P w K mg base CX0 (k + 1) f fd pWith spWith := by
  refine F.ok scWith (fun vs H Q E h => ?_) (fun cdv A outer s H vs Q E hr h => ?_)
  · obtain ⟨p, P, nm, r, rfl, _⟩ := h
    rfl
  · obtain ⟨p, P, nm, r, rfl, hP, lP, q⟩ := h
    refine ⟨_, (pss_one (ps_ret (pe_callTy (call_tupleF K rfl) (by rfl) T.tuple (by decide +kernel) (pa_cons (pe_lc (own := [("person", 3), ("other", 4)]) (g := gTup K 2 (gCons (gName 3) (gCons (gName 4) gNil))) (by rfl) scWith.nd (pi_tup (pv 0))
 (blkOk_by (own := [("person", 3), ("other", 4)]) (N := nWith) (sc := defScope sWith) (by decide +kernel))
 (fun _ _ _ _ _ => (pg_tup (by rfl) (pgs_cons (pg_name (i := 3) scWith.nd rfl (.inl rfl)) (pgs_cons (pg_name (i := 4) scWith.nd rfl (.inl rfl)) pgs_nil)))) (fun _ _ _ _ _ => pts_nil) (fun _ _ _ _ _ => (pe_tup (pa_cons (pv 3) (pa_cons (pe_ifExp (pt_cmpR op_eq (pv 3) (pv 1) (nomark _)) (pv 2) (pv 4)) pa_nil))))) pa_nil)))), ?_⟩
    refine ⟨_, rfl, p, rfl, hP.sq, fun L hL => lc_pl hP (fun i H1 => Same H H1 ∧ LsAt H1 L ((mvd P nm r).take i)) ⟨same_upd hL, .nil upd_same⟩ (fun _ _ h => Tk.of h.1) ?_ ?_⟩
    · rintro k n' r' H3 hk ⟨s3, e3⟩
      refine ⟨rfl, ?_⟩
      unfold tYes
      refine iteT ⟨_, rfl, _, rfl, _, rfl, rfl, _, rfl, ?_⟩
      rw [str_dec]
      have go : ∀ (v : Int), v = (if n' = nm then r else r') → ∀ t, H3 t = none → ∃ acc, (upd H3 t (.tup [.str n', .int v])) L = some (.lst acc) ∧ acc.length < sizeLine ∧ Same H (upd (upd H3 t (.tup [.str n', .int v])) L (.lst (acc ++ [.ref t]))) ∧ LsAt (upd (upd H3 t (.tup [.str n', .int v])) L (.lst (acc ++ [.ref t]))) L ((mvd P nm r).take (k + 1)) := by
        rintro v rfl t ht
        have sm := (same_upd (o := .tup [V.str n', V.int (if n' = nm then r else r')]) ht)
        obtain ⟨acc, e4, l4, e5⟩ := (e3.same sm).snoc (t := t) upd_same
        refine ⟨acc, e4, ?_, same_put (s3.trans sm) hL, ?_⟩
        · rw [l4, List.length_take, mvd_len]
          exact small1000 (by omega)
        · rw [take_snoc (mvd_get hk)]
          exact e5
      refine ite2 (fun c => ?_) (fun c => ?_)
      · have c : n' = nm := of_decide_eq_true c
        exact ⟨_, rfl, by show 2 ≤ sizeLine; decide, fun t ht => go r (by rw [if_pos c]) t ht⟩
      · have c : ¬ n' = nm := fun e => c (decide_eq_true e)
        exact ⟨_, rfl, by show 2 ≤ sizeLine; decide, fun t ht => go r' (by rw [if_neg c]) t ht⟩
    · rintro H3 ⟨s3, e3⟩
      rw [← mvd_len P nm r, List.take_length] at e3
      obtain ⟨xs, e4, e5⟩ := e3.tup
      exact ⟨L, _, rfl, SqL.of e4, fun t ob ht od => q _ t (s3.trans (same_upd ht)) (e5 t ob ht od)⟩
def spMove : Sp := fun vs H Q _ => ∃ (h p : Addr) (n : Int) (D : List (Int × Int)) (P : List (Str × Int)) (nm : Str) (r c : Int), vs = [.ref h, .ref p, .str nm, .int r] ∧ HouseAt H h n D ∧ Forest n D ∧ 0 ≤ n ∧ n ≤ 8 ∧ PlAt H p P ∧ Pl n P ∧ P.length ≤ 100 ∧ (nm, c) ∈ P ∧ r ∈ nb n D c ∧ r ∈ P.map (·.2) ∧
  ∀ H' u, Same H H' → PlD H' u (mvd P nm r) → Q (.ref u) H'
abbrev nMove : List Str := ["house", "placement", "name", "room", "current"]
theorem scMove : FnScope nMove ["house", "placement", "name", "room"] (defScope sMove) := ⟨rfl, rfl, rfl, by decide +kernel, rfl, by decide +kernel, by decide +kernel⟩
theorem ok_move {f : Addr} {fd : FuncData} {k : Nat} (F : Fun K "move_person" "move_person" sMove f fd) (T : Nm mg) (Croom_of : Cal P w K mg base (k + 2) "room_of" pRoomOf spRoomOf) (Cis_room : Cal P w K mg base (k + 2) "is_room" pIsRoom spIsRoom)
    (Cneighbors : Cal P w K mg base (k + 2) "neighbors" ["house", "room"] spNb) (Cpeople_in : Cal P w K mg base (k + 2) "people_in" pPIn spPIn) (Cwith : Cal P w K mg base (k + 2) "with_person_in" pWith spWith) : FnOk P w K mg base CX0 (k + 3) f fd pMove spMove := by
  refine F.ok scMove (fun vs H Q E h => ?_) (fun cdv A outer s H vs Q E hr h => ?_)
  · obtain ⟨h, p, n, D, P, nm, r, c, rfl, _⟩ := h
    rfl
  · obtain ⟨h, p, n, D, P, nm, r, c, rfl, hH, hF, n0, n1, hP, pl, lP, hm, hr1, hr2, q⟩ := h
    refine ⟨_, (pss_cons (ps_set (i := 4) scMove.nd rfl (.inl rfl) (pe_cal Croom_of hr (by rfl) (pa_cons (pv 1) (pa_cons (pv 2) pa_nil))))
      (pss_cons (ps_if (pt_not (pt_val (pe_cal Cis_room hr (by rfl) (pa_cons (pv 0) (pa_cons (pv 3) pa_nil)))))
      pss_never
      pss_nil)
      (pss_cons (ps_if (pt_cmpR (op_notInK K rfl) (pv 3) (pe_cal Cneighbors hr (by rfl) (pa_cons (pv 0) (pa_cons (pv 4) pa_nil))) (by rfl))
      pss_never
      pss_nil)
      (pss_cons (ps_if (pt_not (pt_truthK K rfl (pe_cal Cpeople_in hr (by rfl) (pa_cons (pv 1) (pa_cons (pv 3) pa_nil))) (by intro _; rfl)))
      pss_never
      pss_nil)
      (pss_one (ps_ret (pe_cal Cwith hr (by rfl) (pa_cons (pv 1) (pa_cons (pv 2) (pa_cons (pv 3) pa_nil)))))))))), ?_⟩
    obtain ⟨y, hy, ey⟩ := List.mem_map.mp hr2
    have rr : 0 ≤ r ∧ r < n := by rw [← ey]; exact pl.rm y hy
    refine ⟨_, rfl, _, rfl, p, P, nm, c, rfl, hP, hm, pl.nodup, ?_⟩
    refine ⟨_, rfl, _, rfl, h, n, D, r, rfl, hH, _, rfl, ?_⟩
    rw [decide_eq_true rr]
    refine iteF ⟨_, rfl, _, rfl, _, rfl, h, n, D, c, rfl, hH, hF, fun H1 t s1 e1 => ⟨t, _, rfl, .inr (SqT.of e1), rfl, flat_vi _, _, rfl, ?_⟩⟩
    rw [if_pos rfl, inV_vi, decide_eq_true hr1]
    refine iteF ⟨_, rfl, _, rfl, p, P, r, rfl, hP.same s1, lP, fun H2 u s2 e2 => ⟨_, .inr (.inl ⟨_, SqT.of e2, rfl⟩), ?_⟩⟩
    have ne : inside P [r] ≠ [] := fun e => (inside_nil.mp e) y hy (by rw [ey]; exact List.mem_singleton.mpr rfl)
    have ne' : ((inside P [r]).map V.str).isEmpty = false := by
      rw [List.isEmpty_eq_false_iff]
      exact fun e => ne (List.map_eq_nil_iff.mp e)
    rw [ne']
    have s2 := s1.trans s2
    exact iteF ⟨_, rfl, _, rfl, _, rfl, p, P, nm, r, rfl, hP.same s2, lP, fun H3 u s3 e3 => q _ u (s2.trans s3) e3⟩
end
end Fw
namespace Fw
open PySem PySem.Spec PyProof.Rows L2
theorem mvs_snoc {n : Int} {D : List (Int × Int)} {P X : List (Str × Int)} {k : Nat} {nm : Str} {r : Int} (h : X[k]? = some (nm, r)) : mvs n D P (X.take (k + 1)) = mvs n D P (X.take k) ++ ((nb n D r).filter fun t => decide (t ∈ P.map (·.2))).map fun t => (nm, t) := by
  unfold mvs
  rw [take_snoc h, List.flatMap_append]
  congr 1
  show List.flatMap _ [(nm, r)] = _
  rw [List.flatMap_cons, List.flatMap_nil, List.append_nil]
theorem mvs_len (n : Int) (D : List (Int × Int)) (P X : List (Str × Int)) (n1 : n ≤ 8) : (mvs n D P X).length ≤ 8 * X.length := by
  unfold mvs
  induction X with
  | nil => exact Nat.le_refl _
  | cons x X ih =>
    rw [List.flatMap_cons, List.length_append, List.length_map, List.length_cons]
    have h1 := List.length_filter_le (fun t => decide (t ∈ P.map (·.2))) (nb n D x.2)
    have h2 := nb_len n D x.2
    omega
theorem LsAt.app {H : Hp} {l m : Addr} {X Y : List (Str × Int)} (x : LsAt H l X) (y : LsAt H m Y) : ∃ xs ys, H l = some (.lst xs) ∧ H m = some (.lst ys) ∧ xs.length = X.length ∧ ys.length = Y.length ∧ LsAt (upd H l (.lst (xs ++ ys))) l (X ++ Y) := by
  obtain ⟨ps, h1, h2, h3⟩ := x
  obtain ⟨qs, g1, g2, g3⟩ := y
  refine ⟨_, _, h1, g1, by rw [h2, List.length_map, List.length_map], by rw [g2, List.length_map, List.length_map], ps ++ qs, ?_, by rw [h2, g2, List.map_append], fun q hq => ?_⟩
  · rw [upd_same, List.map_append]
  · have : H q.1 = some (.tup [.str q.2.1, .int q.2.2]) := by
      rcases List.mem_append.mp hq with hq | hq
      · exact h3 q hq
      · exact g3 q hq
    rw [upd_ne (ne_of this h1 (by intro z; cases z))]
    exact this
theorem rooms_snoc {P : List (Str × Int)} {k : Nat} {nm : Str} {r : Int} (h : P[k]? = some (nm, r)) : (P.take (k + 1)).map (·.2) = (P.take k).map (·.2) ++ [r] := by
  rw [take_snoc h, List.map_append]
  rfl
theorem mvs_mem {n : Int} {D : List (Int × Int)} {P X : List (Str × Int)} {nm : Str} {t : Int} (h : (nm, t) ∈ mvs n D P X) : ∃ c, (nm, c) ∈ X ∧ t ∈ nb n D c ∧ t ∈ P.map (·.2) := by
  unfold mvs at h
  obtain ⟨x, hx, h⟩ := List.mem_flatMap.mp h
  obtain ⟨t', ht, e⟩ := List.mem_map.mp h
  cases e
  obtain ⟨h1, h2⟩ := List.mem_filter.mp ht
  exact ⟨x.2, hx, h1, of_decide_eq_true h2⟩
/-- a loop over a list of pairs -/
theorem for_ls {K : PySem.W.Frag} {l : Addr} {X : List (Str × Int)} {i j : Nat} {tb : TS} {D : Ends} {σ : L2.St} {H0 H : Hp} (x : LsAt H0 l X) (Pv : Nat → L2.St → Hp → Prop) (h0 : Pv 0 σ H) (hl : ∀ k σ H, Pv k σ H → Same H0 H)
    (hs : ∀ k nm r σ H, X[k]? = some (nm, r) → Pv k σ H → tb { D with nx := Pv (k + 1), ct := Pv (k + 1), bk := D.nx } ((σ.set i (some (.str nm))).set j (some (.int r))) H) (hd : ∀ σ H, Pv X.length σ H → D.nx σ H) :
    ∃ W : Nat → Nat → L2.St → Hp → Prop, (∃ m, W 0 m σ H) ∧ ∀ k m σ H, W k m σ H →
      ((Itl K l).stop k H ∧ D.nx σ H) ∨ ((Itl K l).go k H ∧ ∃ N : L2.St → Hp → Prop, (∀ σ' H', N σ' H' → ∃ m', m' < m ∧ W (k + 1) m' σ' H') ∧ ∀ x H', (Itl K l).yld k H x H' → gTup K 2 (gCons (gName i) (gCons (gName j) gNil)) x σ H' fun σ2 H2 => tb { D with nx := N, ct := N, bk := D.nx } σ2 H2) := by
  obtain ⟨ps, h1, rfl, h3⟩ := x
  refine for_list (K := K) (a := l) (xs := ps.map fun q => V.ref q.1) Pv h0 (fun i σ H _ hp => SqL.of (hl i σ H hp _ _ h1)) (fun k x σ H hx hp => ?_) (fun σ H hp => hd σ H (by rw [List.length_map] at hp ⊢; exact hp))
  obtain ⟨q, hq, rfl⟩ := get_pl hx
  refine ⟨q.1, _, rfl, SqT.of (hl k σ H hp _ _ (h3 q (List.mem_of_getElem? hq))), rfl, _, _, rfl, _, _, rfl, rfl, ?_⟩
  exact hs k q.2.1 q.2.2 σ H (by rw [List.getElem?_map, hq]; rfl) hp
theorem LsAt.sq {K : PySem.W.Frag} {H : Hp} {l : Addr} {X : List (Str × Int)} (x : LsAt H l X) : ∃ xs, SqL K H l xs ∧ xs.length = X.length := by
  obtain ⟨ps, h1, h2, _⟩ := x
  exact ⟨_, SqL.of h1, by rw [h2, List.length_map, List.length_map]⟩
theorem LsAt.at {K : PySem.W.Frag} {H : Hp} {l : Addr} {X : List (Str × Int)} (x : LsAt H l X) {r : Int} (h0 : 0 ≤ r) (h1 : r < (X.length : Nat)) : ∃ xs t nm v, SqL K H l xs ∧ atI xs r = some (.ref t) ∧ H t = some (.tup [.str nm, .int v]) ∧ (nm, v) ∈ X := by
  obtain ⟨ps, e1, e2, e3⟩ := x
  have hj : r.toNat < ps.length := by rw [e2, List.length_map] at h1; omega
  have hm := List.getElem_mem hj
  refine ⟨_, ps[r.toNat].1, ps[r.toNat].2.1, ps[r.toNat].2.2, SqL.of e1, ?_, e3 _ hm, by rw [e2]; exact List.mem_map_of_mem (f := (·.2)) hm⟩
  have := atI_nat (xs := ps.map fun q => V.ref q.1) (j := r.toNat) (v := V.ref ps[r.toNat].1) (by rw [List.getElem?_map, List.getElem?_eq_getElem hj]; rfl)
  rw [show ((r.toNat : Nat) : Int) = r by omega] at this
  exact this
end Fw
namespace Fw
open PySem PySem.Spec PyProof.Rows L2
section
variable {P : Program} {w : World} {K : PySem.W.Frag} {mg : Str → Option Value} {base : Heap}
def spLMoves : Sp := fun vs H Q _ => ∃ (h p : Addr) (n : Int) (D : List (Int × Int)) (P : List (Str × Int)), vs = [.ref h, .ref p] ∧ HouseAt H h n D ∧ Forest n D ∧ n ≤ 8 ∧ PlAt H p P ∧ P.length ≤ 100 ∧
  ∀ H' l, Same H H' → H l = none → LsAt H' l (mvs n D P P) → Q (.ref l) H'
abbrev nLMoves : List Str := ["_law_house_here", "_law_placement_here", "_law_held", "_law_name", "_law_room", "_law_found", "_law_here", "_law_there"]
theorem scLMoves : FnScope nLMoves ["_law_house_here", "_law_placement_here"] (defScope sLMoves) := ⟨rfl, rfl, rfl, by decide +kernel, rfl, by decide +kernel, by decide +kernel⟩
theorem ok_lmoves {f : Addr} {fd : FuncData} {k : Nat} (F : Fun K "_law_moves" "_law_moves" sLMoves f fd) (T : Nm mg) (C_law_neighbors : Cal P w K mg base (k + 1) "_law_neighbors" pLNb spLNb) : FnOk P w K mg base CX0 (k + 2) f fd pLMoves spLMoves := by
  refine F.ok scLMoves (fun vs H Q E h => ?_) (fun cdv A outer s H vs Q E hr h => ?_)
  · obtain ⟨h, p, n, D, P, rfl, _⟩ := h
    rfl
  · obtain ⟨h, p, n, D, P, rfl, hH, hF, n1, hP, lP, q⟩ := h
    refine ⟨_, (pss_cons (ps_set (i := 2) scLMoves.nd rfl (.inr rfl) (pe_lc (own := [("_law_name", 3), ("_law_room", 4)]) (g := gTup K 2 (gCons (gName 3) (gCons (gName 4) gNil))) (by rfl) scLMoves.nd (pi_tup (pv 1))
 (blkOk_by (own := [("_law_name", 3), ("_law_room", 4)]) (N := nLMoves) (sc := defScope sLMoves) (by decide +kernel))
 (fun _ _ _ _ _ => (pg_tup (by rfl) (pgs_cons (pg_name (i := 3) scLMoves.nd rfl (.inl rfl)) (pgs_cons (pg_name (i := 4) scLMoves.nd rfl (.inl rfl)) pgs_nil)))) (fun _ _ _ _ _ => pts_nil) (fun _ _ _ _ _ => (pv 4))))
      (pss_cons (ps_set (i := 5) scLMoves.nd rfl (.inl rfl) (pe_lst pa_nil))
      (pss_cons (ps_for PassesOwn.never rfl (pi_tup (pv 1)) (pg_tup (by rfl) (pgs_cons (pg_name (i := 3) scLMoves.nd rfl (.inr rfl)) (pgs_cons (pg_name (i := 6) scLMoves.nd rfl (.inl rfl)) pgs_nil)))
      (pss_one (ps_expr (pe_bm PySem.F.plainAttrs_list PySem.F.slot_list_extend PySem.F.type_list_extend mt_extend (pv 5) (pa_cons (pe_lc (own := [("_law_there", 7)]) (g := gName 7) (by rfl) scLMoves.nd (pi_list (pe_cal C_law_neighbors hr (by rfl) (pa_cons (pv 0) (pa_cons (pv 6) pa_nil))))
 (blkOk_by (own := [("_law_there", 7)]) (N := nLMoves) (sc := defScope sLMoves) (by decide +kernel))
 (fun _ _ _ _ _ => (pg_name (i := 7) scLMoves.nd rfl (.inl rfl))) (fun _ _ _ _ _ => pts_one (pt_cmpR (op_inK K rfl) (pv 7) (pv 2) (by rfl))) (fun _ _ _ _ _ => (pe_tup (pa_cons (pv 3) (pa_cons (pv 7) pa_nil))))) pa_nil)))))
      (pss_one (ps_ret (pv 5)))))), ?_⟩
    refine ⟨_, rfl, p, rfl, hP.sq, fun L hL => lc_pl hP (fun i H1 => Same H H1 ∧ H1 L = some (.lst (vi ((P.take i).map (·.2))))) ⟨same_upd hL, upd_same⟩ (fun _ _ h => Tk.of h.1) ?_ ?_⟩
    · rintro k nm r H1 hk ⟨s1, e1⟩
      refine ⟨rfl, ?_⟩
      unfold tYes
      refine iteT ⟨_, rfl, _, e1, ?_, same_put s1 hL, ?_⟩
      · rw [List.length_map, List.length_map, List.length_take]
        exact small1000 (by omega)
      · rw [upd_same, rooms_snoc hk, vi_app]
        rfl
    rintro H1 ⟨s1, e1⟩
    rw [List.take_length] at e1
    refine ⟨Nat.zero_le _, fun R hR => ?_⟩
    have nLR : L ≠ R := ne_of_none e1 hR
    have gR := s1.free hR
    have sm := same_upd (o := .lst []) hR
    refine ⟨_, rfl, p, rfl, ((hP.same s1).same sm).sq, for_pl hP (fun i σ' H' => ∃ y3 y4 y6 y7, σ' = [some (.ref h), some (.ref p), some (.ref L), y3, y4, some (.ref R), y6, y7] ∧ Same H H' ∧ H' L = some (.lst (vi (P.map (·.2)))) ∧ LsAt H' R (mvs n D P (P.take i)))
      ⟨_, _, _, _, rfl, s1.trans sm, sm _ _ e1, .nil upd_same⟩ ?_ ?_ ?_⟩
    · rintro k σ' H' ⟨_, _, _, _, _, s', _⟩
      exact Tk.of s'
    · rintro k nm r σ' H2 hk ⟨y3, y4, y6, y7, rfl, s2, e2, x2⟩
      obtain ⟨xs2, er2, _⟩ := x2.tup
      refine ⟨_, rfl, .inl ⟨rfl, _, SqL.of er2⟩, _, rfl, _, rfl, h, n, D, r, rfl, hH.same s2, hF, fun H3 l s3 hl e3 => ?_⟩
      refine ⟨l, rfl, ⟨_, SqL.of e3⟩, fun M hM => lc_list (K := K) (a := l) (xs := vi (nb n D r)) (fun i H' => Same H3 H' ∧ LsAt H' M ((((nb n D r).take i).filter fun t => decide (t ∈ P.map (·.2))).map fun t => (nm, t)))
        ⟨same_upd hM, .nil upd_same⟩ (fun i H' _ hh => SqL.of (hh.1 _ _ e3)) ?_ ?_⟩
      · rintro i x H4 hx ⟨s4, x4⟩
        obtain ⟨t, ht, rfl⟩ := get_vi hx
        have e4 := (s3.trans s4) _ _ e2
        refine ⟨rfl, _, rfl, _, rfl, L, _, rfl, .inl (SqL.of e4), rfl, flat_vi _, _, rfl, ?_⟩
        have ef : (((nb n D r).take (i + 1)).filter fun t => decide (t ∈ P.map (·.2))).map (fun t => (nm, t)) = (((nb n D r).take i).filter fun t => decide (t ∈ P.map (·.2))).map (fun t => (nm, t)) ++ if t ∈ P.map (·.2) then [(nm, t)] else [] := by
          rw [take_snoc ht, filter_snoc, List.map_append]
          congr 1
          by_cases c : t ∈ P.map (·.2)
          · rw [if_pos c, if_pos (decide_eq_true c)]
            rfl
          · rw [if_neg c, if_neg (by simpa using c)]
            rfl
        rw [if_neg (by decide), inV_vi]
        refine ite2 (fun c => ?_) (fun c => ?_)
        · rw [if_pos (of_decide_eq_true c)] at ef
          refine ⟨_, rfl, _, rfl, by show 2 ≤ sizeLine; decide, fun u hu => ?_⟩
          have sm := same_upd (o := .tup [.str nm, .int t]) hu
          obtain ⟨acc, a1, a2, a3⟩ := (x4.same sm).snoc (t := u) upd_same
          refine ⟨acc, a1, ?_, same_put (s4.trans sm) hM, by rw [ef]; exact a3⟩
          rw [a2, List.length_map]
          have h1 := List.length_filter_le (fun t => decide (t ∈ P.map (·.2))) ((nb n D r).take i)
          have h2 := nb_len n D r
          rw [List.length_take] at h1
          exact small1000 (by omega)
        · rw [if_neg (fun z => c (decide_eq_true z)), List.append_nil] at ef
          rw [ef]
          exact ⟨s4, x4⟩
      · rintro H4 ⟨s4, x4⟩
        rw [List.length_map, List.take_length] at x4
        have s34 := s3.trans s4
        obtain ⟨xs, ys, a1, a2, a3, a4, a5⟩ := (x2.same s34).app x4
        refine ⟨R, M, _, _, rfl, rfl, a1, a2, ?_, ?_⟩
        · rw [a3, a4, List.length_map]
          have h1 := List.length_filter_le (fun t => decide (t ∈ P.map (·.2))) (nb n D r)
          have h2 := nb_len n D r
          have h3 := mvs_len n D P (P.take k) n1
          rw [List.length_take] at h3
          exact Nat.le_of_lt (small1000 (by omega))
        · refine ⟨_, _, _, _, rfl, same_put (s2.trans s34) gR, ?_, ?_⟩
          · rw [upd_ne nLR]
            exact s34 _ _ e2
          · rw [mvs_snoc hk]
            exact a5
    · rintro σ' H2 ⟨y3, y4, y6, y7, rfl, s2, e2, x2⟩
      rw [List.take_length] at x2
      exact ⟨_, rfl, q _ R s2 gR x2⟩
end
end Fw
namespace Fw
open PySem PySem.Spec PyProof.Rows L2

/-- what a dict of rooms holds at a room -/
def lk (kvs : List (Key × V)) (v : Int) : Option V := valV kvs (Sum.inl v)
theorem lk_put (kvs : List (Key × V)) (k j : Int) (y : V) : lk (putK kvs (Sum.inl k) y) j = if j = k then some y else lk kvs j := by
  unfold lk
  rw [valV_put]
  by_cases e : j = k
  · rw [if_pos e, if_pos (by rw [e])]
  · rw [if_neg e, if_neg (fun z => e (Sum.inl.inj z))]
def isK (kvs : List (Key × V)) (v : Int) : Bool := (lk kvs v).isSome
theorem isK_put (kvs : List (Key × V)) (k j : Int) (y : V) : isK (putK kvs (Sum.inl k) y) j = (decide (j = k) || isK kvs j) := by
  unfold isK
  rw [lk_put]
  by_cases e : j = k
  · rw [if_pos e, decide_eq_true e]; rfl
  · rw [if_neg e, decide_eq_false e]; rfl

/-- the way from a room along the steps -/
inductive Ch (D : List (Int × Int)) (L : Int → Option V) (g : Int) : Int → List Int → Prop
  | goal : L g = some .non → Ch D L g g [g]
  | step {v u : Int} {p : List Int} : L v = some (.int u) → adj D v u → Ch D L g u p → v ∉ p → Ch D L g v (v :: p)
theorem Ch.mono {D : List (Int × Int)} {L L' : Int → Option V} {g v : Int} {p : List Int} (h : Ch D L g v p) (m : ∀ y x, L y = some x → L' y = some x) : Ch D L' g v p := by
  induction h with
  | goal e => exact .goal (m _ _ e)
  | step e a _ n ih => exact .step (m _ _ e) a ih n
theorem Ch.keys {D : List (Int × Int)} {L : Int → Option V} {g v : Int} {p : List Int} (h : Ch D L g v p) : ∀ y ∈ p, (L y).isSome = true := by
  induction h with
  | goal e =>
    intro y hy
    rw [List.mem_singleton.mp hy, e]
    rfl
  | step e _ _ _ ih =>
    intro y hy
    rcases List.mem_cons.mp hy with rfl | hy
    · rw [e]; rfl
    · exact ih y hy
theorem Ch.sp {D : List (Int × Int)} {L : Int → Option V} {g v : Int} {p : List Int} (h : Ch D L g v p) : SP (adj D) v g p := by
  induction h with
  | goal _ => exact .one _
  | step _ a _ n ih => exact .cons a ih n

/-- the dict of steps, at any time -/
structure SInv (n : Int) (D : List (Int × Int)) (R : List Int) (g : Int) (kvs : List (Key × V)) : Prop where
  goal : lk kvs g = some .non
  way : ∀ v x, lk kvs v = some x → ∃ p, Ch D (lk kvs) g v p
  rng : ∀ v, isK kvs v = true → v = g ∨ v ∈ R
  keys : ∃ ks : List Int, kvs.map (·.1) = ks.map Sum.inl ∧ ks.Nodup ∧ ∀ v, v ∈ ks ↔ isK kvs v = true
  len : kvs.length + left n.toNat (isK kvs) ≤ n.toNat + 1
theorem SInv.start {n g : Int} {D : List (Int × Int)} {R : List Int} : SInv n D R g [(Sum.inl g, V.non)] := by
  have e0 : ∀ v, lk [(Sum.inl g, V.non)] v = if v = g then some .non else none := fun v => by
    unfold lk
    by_cases e : v = g
    · rw [if_pos e, e]; exact valV_pos rfl
    · rw [if_neg e, valV_neg (fun z => e (Sum.inl.inj z).symm)]; rfl
  have e1 : lk [(Sum.inl g, V.non)] g = some .non := by rw [e0, if_pos rfl]
  have e2 : ∀ v, isK [(Sum.inl g, V.non)] v = true → v = g := fun v h => by
    unfold isK at h
    rw [e0] at h
    by_cases e : v = g
    · exact e
    · rw [if_neg e] at h; cases h
  refine ⟨e1, fun v x h => ?_, fun v h => .inl (e2 v h), ⟨[g], rfl, by simp, fun v => ⟨fun h => ?_, fun h => ?_⟩⟩, ?_⟩
  · have : isK [(Sum.inl g, V.non)] v = true := by unfold isK; rw [h]; rfl
    rw [e2 v this]
    exact ⟨[g], .goal e1⟩
  · rw [List.mem_singleton.mp h]; unfold isK; rw [e1]; rfl
  · rw [e2 v h]; simp
  · have := left_le n.toNat (isK [(Sum.inl g, V.non)])
    simp only [List.length_cons, List.length_nil]
    omega
theorem SInv.put {n g o v : Int} {D : List (Int × Int)} {R : List Int} {kvs : List (Key × V)} (S : SInv n D R g kvs) (hv : isK kvs v = true) (ho : isK kvs o = false) (a : adj D v o) (hR : o ∈ R) (h0 : 0 ≤ o) (h1 : o < n) :
    SInv n D R g (putK kvs (Sum.inl o) (.int v)) ∧ left n.toNat (isK (putK kvs (Sum.inl o) (.int v))) < left n.toNat (isK kvs) := by
  have eo : lk kvs o = none := by
    unfold isK at ho
    cases e : lk kvs o with
    | none => rfl
    | some x => rw [e] at ho; cases ho
  have m : ∀ y x, lk kvs y = some x → lk (putK kvs (Sum.inl o) (.int v)) y = some x := fun y x h => by
    rw [lk_put, if_neg (fun e => ?_)]
    · exact h
    · rw [e, eo] at h; cases h
  have hl : left n.toNat (isK (putK kvs (Sum.inl o) (.int v))) < left n.toNat (isK kvs) := by
    refine left_lt (o := o) (fun x hx => ?_) h0 (by omega) ho ?_
    · rw [isK_put, hx, Bool.or_true]
    · rw [isK_put, decide_eq_true rfl, Bool.true_or]
  refine ⟨⟨m _ _ S.goal, fun y x h => ?_, fun y h => ?_, ?_, ?_⟩, hl⟩
  · rw [lk_put] at h
    by_cases e : y = o
    · subst e
      cases hx : lk kvs v with
      | none => unfold isK at hv; rw [hx] at hv; cases hv
      | some z =>
        obtain ⟨p, hp⟩ := S.way v z hx
        refine ⟨y :: p, .step (by rw [lk_put, if_pos rfl]) (adj_symm a) (hp.mono m) fun hm => ?_⟩
        have := hp.keys y hm
        rw [eo] at this
        cases this
    · rw [if_neg e] at h
      obtain ⟨p, hp⟩ := S.way y x h
      exact ⟨p, hp.mono m⟩
  · rw [isK_put, Bool.or_eq_true, decide_eq_true_eq] at h
    rcases h with h | h
    · exact .inr (h ▸ hR)
    · exact S.rng y h
  · obtain ⟨ks, e1, e2, e3⟩ := S.keys
    refine ⟨ks ++ [o], ?_, ?_, fun y => ?_⟩
    · rw [putK_new _ eo, List.map_append, e1, List.map_append]; rfl
    · rw [List.nodup_append]
      refine ⟨e2, by simp, fun x hx y hy e => ?_⟩
      rw [List.mem_singleton.mp hy] at e
      rw [e, e3, ho] at hx
      cases hx
    · rw [List.mem_append, List.mem_singleton, e3, isK_put, Bool.or_eq_true, decide_eq_true_eq]
      exact or_comm
  · have := length_putK kvs (Sum.inl o) (V.int v)
    have := S.len
    omega

theorem inV_ints (x : Int) (R : List Int) : inV (.int x) (vi R) = decide (x ∈ R) := by
  unfold inV
  rw [Bool.eq_iff_iff, List.any_eq_true, decide_eq_true_eq]
  constructor
  · rintro ⟨y, hy, e⟩
    obtain ⟨z, hz, rfl⟩ := List.mem_map.mp hy
    have e : (z == x) = true := e
    rw [beq_iff_eq] at e
    exact e ▸ hz
  · intro h
    exact ⟨.int x, List.mem_map_of_mem h, by show (x == x) = true; simp⟩
theorem flat_ints (R : List Int) : (vi R).all flatV = true := by
  rw [List.all_eq_true]
  intro y hy
  obtain ⟨z, hz, rfl⟩ := List.mem_map.mp hy
  rfl
theorem vi_snoc_last {xs : List Int} {x : Int} : (vi (xs ++ [x]))[(vi (xs ++ [x])).length - 1]? = some (.int x) := by
  rw [vi_app, List.length_append]
  show (vi xs ++ [V.int x])[(vi xs).length + 1 - 1]? = _
  rw [Nat.add_sub_cancel, List.getElem?_append_right (Nat.le_refl _), Nat.sub_self]
  rfl
theorem vi_dropLast {xs : List Int} {x : Int} : (vi (xs ++ [x])).dropLast = vi xs := by
  rw [vi_app]
  show (vi xs ++ [V.int x]).dropLast = _
  rw [List.dropLast_concat]
theorem snoc_cases : ∀ (xs : List Int), xs = [] ∨ ∃ ys y, xs = ys ++ [y]
  | [] => .inl rfl
  | x :: xs => by
    rcases snoc_cases xs with rfl | ⟨ys, y, rfl⟩
    · exact .inr ⟨[], x, rfl⟩
    · exact .inr ⟨x :: ys, y, rfl⟩

section
variable {P : Program} {w : World} {K : PySem.W.Frag} {mg : Str → Option Value} {base : Heap}
/-- what the finished steps are -/
structure SDone (n : Int) (D : List (Int × Int)) (R : List Int) (g : Int) (kvs : List (Key × V)) : Prop where
  inv : SInv n D R g kvs
  closed : ∀ v o, isK kvs v = true → adj D v o → o ∈ R → isK kvs o = true
theorem Same.sqT {K : PySem.W.Frag} {H H' : Hp} {a : Addr} {xs : List V} (e : Same H H') (h : SqT K H a xs) : SqT K H' a xs :=
  h.imp (Or.imp (e a _) fun ⟨o, x⟩ => ⟨o, e a _ x⟩) id
end
end Fw
namespace Fw
open PySem PySem.Spec PyProof.Rows L2
theorem HouseAt.top {H : Hp} {h : Addr} {n : Int} {D : List (Int × Int)} (x : HouseAt H h n D) : ∃ q, H h = some (.tup [.int n, .ref q]) := by
  obtain ⟨q, ps, h1, _⟩ := x
  exact ⟨q, h1⟩

/-- a nodup list of rooms below n is no longer than n -/
theorem short {n : Nat} : ∀ {p : List Int}, p.Nodup → (∀ x ∈ p, 0 ≤ x ∧ x < n) → p.length ≤ n := by
  induction n with
  | zero =>
    intro p _ h
    cases p with
    | nil => exact Nat.le_refl _
    | cons x r => have := h x (List.mem_cons_self ..); omega
  | succ n ih =>
    intro p nd h
    have h2 : (p.erase (n : Int)).length ≤ n := by
      refine ih (nd.erase _) fun x hx => ?_
      have hm := List.mem_of_mem_erase hx
      have hne : x ≠ (n : Int) := fun e => by
        subst e
        exact (List.Nodup.not_mem_erase nd) hx
      have := h x hm
      omega
    have h3 : p.length - 1 ≤ (p.erase (n : Int)).length := List.le_length_erase
    omega
theorem SP.all {R : Int → Int → Prop} {S : Int → Prop} (hs : ∀ x y, R x y → S y) {a b : Int} {p : List Int} (h : SP R a b p) (e : S a) : ∀ x ∈ p, S x := by
  induction h with
  | one a =>
    intro x hx
    rw [List.mem_singleton.mp hx]
    exact e
  | cons r _ _ ih =>
    intro x hx
    rcases List.mem_cons.mp hx with rfl | hx
    · exact e
    · exact ih (hs _ _ r) x hx
theorem Forest.short {n a b : Int} {D : List (Int × Int)} (f : Forest n D) (h8 : n ≤ 8) (h0 : 0 ≤ a) (h1 : a < n) {p : List Int} (h : SP (Fw.adj D) a b p) : p.length ≤ 8 := by
  have h2 : p.length ≤ n.toNat := Fw.short h.nodup fun x hx => by
    have := h.all (S := fun x => 0 ≤ x ∧ x < n) (fun x y r => ⟨(f.adj r).2.2.1, (f.adj r).2.2.2⟩) ⟨h0, h1⟩ x hx
    omega
  omega

end Fw
namespace Fw
open PySem PySem.Spec PyProof.Rows L2 SrtO

section
variable {P : Program} {w : World} {A : Around} {E : Value → Shared → Prop} {s : Shared}
/-- sorted of anything that can be collected, by an order -/
theorem sorted_any {a : Addr} {ltv : Value → Value → Bool} {Q : Value → Shared → Prop} (O : Swo ltv) (good : List Value → Shared → Prop) (col : wpAny (model P w) A.in1 (collect (.ref a)) good E s) (hz : ∀ vs z, good vs z → vs.length ≤ sizeLine)
    (hS : ∀ vs z, good vs z → 2 ≤ vs.length → SortableO P w A.in1.in1 { z with heap := z.heap.push (seqObj "list" vs.toArray 0) } z.heap.objs.size vs ltv)
    (fin : ∀ vs z out, good vs z → Srtd ltv out → Stb ltv out vs → Q (.ref z.heap.objs.size) { z with heap := sortedHeap (z.heap.push (seqObj "list" vs.toArray 0)) z.heap.objs.size vs out.toArray }) :
    wpAny (model P w) A (call (.builtin "sorted") [.ref a]) Q E s := by
  refine Calls.call_function_entry kind_sorted plain_sorted entry_sorted (args_sorted1 _) ?_
  show wpAny (model P w) A.in1 (Builtin.«sorted» _) _ _ _
  unfold Builtin.«sorted»
  refine wpAny_bind (m := checkCount "sorted" 1 1 _) (wpAny_pure (wpAny_bind (wpAny_mono col (fun vs z g => ?_) fun _ _ e => e)))
  refine wpAny_bind (wpAny_newList ?_ (hz vs z g))
  have at0 : (z.heap.push (seqObj "list" vs.toArray 0)).get? z.heap.objs.size = some (seqObj "list" vs.toArray 0) := Heap.get?_push_size _ rfl
  refine wpAny_bind (wpAny_holding (wpAny_call_entry slot_list_sort ⟨_, at0, rfl⟩ entry_list_sort (list_sort_ord O at0 (hz vs z g) (hS vs z g) fun out h1 h2 => ?_) (args_list_sort _)))
  exact ⟨_, rfl, wpAny_pure ⟨_, rfl, fin vs z out g h1 h2⟩⟩
end

/-- sorted(d), the keys of d ints -/
def rSortedDI : List V → Hp → VK → Prop := fun xs H Q => ∃ (a : Addr) (kvs : List (Key × V)) (ks : List Int), xs = [.ref a] ∧ H a = some (.dK kvs) ∧ kvs.map (·.1) = ks.map Sum.inl ∧
  ∀ (ys : List Int) (p : Addr), ys.Perm ks → ys.Pairwise (· ≤ ·) → H p = none → Q (.ref p) (upd H p (.lst (vi ys)))
theorem cr_sortedDI {X : Cx} (hc : X.calm = true) : CallR X (.builtin "sorted") rSortedDI := by
  intro pins s σ H xs us Q I r h
  obtain ⟨a, kvs, ks, rfl, ha, hk, q⟩ := h
  rw [Vals.ref1 r]
  obtain ⟨len, lo, vs, rel, dd⟩ := dk_of I.hok ha
  obtain ⟨ep, hat⟩ := dd.dictAt
  have ek : vs.map (·.1) = ks.map Sum.inl := rel.keys.symm.trans hk
  have el : vs.length = ks.length := by simpa using congrArg List.length ek
  have ez : ks.length ≤ sizeLine := by
    have := congrArg List.length hk
    rw [List.length_map, List.length_map] at this
    omega
  refine sorted_any swo_int (fun us z => IntsAre us ks ∧ Inv X pins σ H z ∧ z = { s with heap := z.heap, toks := z.toks }) ?_ ?_ ?_ ?_
  · refine PySem.W.kdu_collect (PySem.W.kdl_dict (knd := mixKind X.prog X.w) (kvs := vs) (ep := ep) lo) (I.ok.hd hc) hat (by omega) fun h' tk acc keep items => ⟨?_, I.kept keep, rfl⟩
    have lena : acc.toList.length = vs.length := by
      rw [Array.length_toList]
      exact items.1
    have rv := keys_at (us := acc.toList) (vs := vs) lena fun j v e => by
      obtain ⟨k, x, e1, e2⟩ := items.2 j v (by rw [← Array.getElem?_toList]; exact e)
      exact ⟨k, x, e1, e2⟩
    have e3 : (vs.map fun p => kV p.1) = ks.map V.int := by
      have := congrArg (List.map kV) ek
      rw [List.map_map, List.map_map] at this
      exact this
    rw [e3] at rv
    exact rv.ints
  · intro us z g
    rw [g.1.length]
    exact ez
  · intro us z g h2
    exact ints_sortable g.1 h2
  · rintro us z out ⟨hi, J, ez'⟩ h1 h2
    obtain ⟨k1, k2, k3⟩ := ints_out hi h1 h2
    have at0 : (z.heap.push (seqObj "list" us.toArray 0)).get? z.heap.objs.size = some (seqObj "list" us.toArray 0) := Heap.get?_push_size _ rfl
    obtain ⟨e', he'⟩ := sortedHeap_at (vs := us) (out := out.toArray) at0
    refine ⟨.ref z.heap.objs.size, upd H z.heap.objs.size (.lst (vi (out.map iv))), J.laid (t' := z.toks) (fun b u e => ?_) (Nat.le_refl _) ⟨?_, out, e', vals_of_ints k1, he'⟩, rfl, q _ _ k2 k3 (J.hok.fresh (Nat.le_refl _))⟩
    · have lt := Heap.lt_size e
      rw [sortedHeap_old (Nat.ne_of_lt lt) (by rw [size_push']; exact Nat.lt_succ_of_lt lt)]
      exact Heap.get?_push_of_some _ e
    · rw [List.length_map, k2.length_eq]
      exact ez
end Fw
namespace Fw
open PySem PySem.Spec PyProof.Rows L2 SrtO

/-! ### lists of ints in the order of tuples -/
def lexI : List Int → List Int → Bool
  | [], [] => false
  | [], _ :: _ => true
  | _ :: _, [] => false
  | x :: xs, y :: ys => if x = y then lexI xs ys else decide (x < y)
theorem lexI_asym : ∀ {xs ys : List Int}, lexI xs ys = true → lexI ys xs = false
  | [], [], h => by cases h
  | [], _ :: _, _ => rfl
  | _ :: _, [], h => by cases h
  | x :: xs, y :: ys, h => by
    unfold lexI at h ⊢
    by_cases e : x = y
    · rw [if_pos e] at h
      rw [if_pos e.symm]
      exact lexI_asym h
    · rw [if_neg e, decide_eq_true_eq] at h
      rw [if_neg (fun z => e z.symm)]
      exact decide_eq_false (by omega)
theorem lexI_tr : ∀ {xs ys zs : List Int}, lexI ys xs = false → lexI zs ys = false → lexI zs xs = false
  | [], [], [], _, _ => rfl
  | [], [], _ :: _, _, _ => rfl
  | [], _ :: _, [], _, h => by cases h
  | [], _ :: _, _ :: _, _, _ => rfl
  | _ :: _, [], _, h, _ => by cases h
  | _ :: _, _ :: _, [], _, h => by cases h
  | x :: xs, y :: ys, z :: zs, h1, h2 => by
    unfold lexI at h1 h2 ⊢
    by_cases e1 : y = x
    · rw [if_pos e1] at h1
      by_cases e2 : z = y
      · rw [if_pos e2] at h2
        rw [if_pos (e2.trans e1)]
        exact lexI_tr h1 h2
      · rw [if_neg e2, decide_eq_false_iff_not] at h2
        rw [if_neg (fun q => e2 (q.trans e1.symm))]
        exact decide_eq_false (by omega)
    · rw [if_neg e1, decide_eq_false_iff_not] at h1
      by_cases e2 : z = y
      · rw [if_neg (fun q => e1 (e2.symm.trans q))]
        exact decide_eq_false (by omega)
      · rw [if_neg e2, decide_eq_false_iff_not] at h2
        rw [if_neg (by omega)]
        exact decide_eq_false (by omega)
theorem lexI_total : ∀ {xs ys : List Int}, lexI xs ys = false → xs ≠ ys → lexI ys xs = true
  | [], [], _, h => absurd rfl h
  | [], _ :: _, h, _ => by cases h
  | _ :: _, [], _, _ => rfl
  | x :: xs, y :: ys, h, n => by
    unfold lexI at h ⊢
    by_cases e : x = y
    · rw [if_pos e] at h
      rw [if_pos e.symm]
      exact lexI_total h fun z => n (by rw [e, z])
    · rw [if_neg e, decide_eq_false_iff_not] at h
      rw [if_neg (fun z => e z.symm)]
      exact decide_eq_true (by omega)
theorem lexI_head {x y : Int} {xs ys : List Int} (h : x < y) : lexI (x :: xs) (y :: ys) = true := by
  unfold lexI
  rw [if_neg (by omega)]
  exact decide_eq_true h
/-- two lists that rise strictly, with the same members, are one -/
theorem rise_ext {α : Type} {lt : α → α → Prop} (as : ∀ a b, lt a b → ¬ lt b a) : ∀ {xs ys : List α}, xs.Pairwise lt → ys.Pairwise lt → (∀ x, x ∈ xs ↔ x ∈ ys) → xs = ys
  | [], [], _, _, _ => rfl
  | [], y :: ys, _, _, h => absurd ((h y).mpr (List.mem_cons_self ..)) (by simp)
  | x :: xs, [], _, _, h => absurd ((h x).mp (List.mem_cons_self ..)) (by simp)
  | x :: xs, y :: ys, hx, hy, h => by
    obtain ⟨hx1, hx2⟩ := List.pairwise_cons.mp hx
    obtain ⟨hy1, hy2⟩ := List.pairwise_cons.mp hy
    have e : x = y := by
      rcases List.mem_cons.mp ((h x).mp (List.mem_cons_self ..)) with h1 | h1
      · exact h1
      · rcases List.mem_cons.mp ((h y).mpr (List.mem_cons_self ..)) with h2 | h2
        · exact h2.symm
        · exact absurd (hy1 _ h1) (as _ _ (hx1 _ h2))
    subst e
    rw [rise_ext as hx2 hy2 fun z => ?_]
    constructor
    · intro m
      rcases List.mem_cons.mp ((h z).mp (List.mem_cons_of_mem _ m)) with e | e
      · subst e; exact absurd (hx1 _ m) (as _ _ (hx1 _ m))
      · exact e
    · intro m
      rcases List.mem_cons.mp ((h z).mpr (List.mem_cons_of_mem _ m)) with e | e
      · subst e; exact absurd (hy1 _ m) (as _ _ (hy1 _ m))
      · exact e

/-! ### the machine's comparison of two tuples of ints -/
def lexF (fin : Bool) : List Int → List Int → Bool
  | x :: xs, y :: ys => if x = y then lexF fin xs ys else decide (x < y)
  | _, _ => fin
theorem lexF_eq : ∀ (xs ys : List Int), lexF (decide (xs.length < ys.length)) xs ys = lexI xs ys
  | [], [] => rfl
  | [], _ :: _ => by unfold lexF lexI; simp
  | _ :: _, [] => by unfold lexF lexI; simp
  | x :: xs, y :: ys => by
    unfold lexF lexI
    have e : decide ((x :: xs).length < (y :: ys).length) = decide (xs.length < ys.length) := by simp
    rw [e, lexF_eq xs ys]
section
variable {P : Program} {w : World} {A : Around} {s : Shared}
theorem kat_ints {fin : Bool} : ∀ {xs ys : List Value} {ns ms : List Int} (i : Nat), IntsAre xs ns → IntsAre ys ms → PySem.W.KatLex P w A true fin (fun r s' => s' = s ∧ r = lexF fin ns ms) (xs.zip ys) i s := by
  intro xs ys ns ms i hx
  induction hx generalizing ys ms i with
  | nil => intro _; exact PySem.W.kat_nil ⟨rfl, by cases ms <;> rfl⟩
  | cons x t hx ih =>
    intro hy
    cases hy with
    | nil => exact PySem.W.kat_nil ⟨rfl, rfl⟩
    | cons y u hy =>
      refine PySem.W.kat_cons (SeqAt.EqAt.int_int x t y u P w _ _ (PySem.W.kat_go (fun e => ?_) fun e => ?_))
      · have e : x = y := by simpa using e
        subst e
        unfold lexF
        rw [if_pos rfl]
        exact PySem.W.kat_yes (ih (i + 1) hy)
      · have e : ¬ x = y := by simpa using e
        unfold lexF
        rw [if_neg e]
        refine PySem.W.kat_no ?_
        cases hb : (true && i == 0) with
        | true => exact oneLt_int ⟨rfl, rfl⟩
        | false => exact PySem.W.kat_one _ _ (PyProof.Rows.lt_int (show s = s ∧ decide (x < y) = decide (x < y) from ⟨rfl, rfl⟩))
theorem swo_lexI (k : Value → List Int) : Swo fun v u => lexI (k v) (k u) := ⟨fun _ _ h => lexI_asym h, fun _ _ _ h1 h2 => lexI_tr h1 h2⟩
/-- tuples of ints, none empty, sort by their order -/
theorem tups_sortable {a : Addr} {vs : List Value} {k : Value → List Int} (h0 : 0 < vs.length) (hp : ∀ v ∈ vs, TS.TupInts s.heap v (k v) ∧ k v ≠ []) (ha : ∀ o, s.heap.get? a = some o → o.cls ≠ .type "tuple") : SortableO P w A s a vs fun v u => lexI (k v) (k u) := by
  intro h' keep
  have hp' : ∀ v ∈ vs, TS.TupInts h' v (k v) := fun v hv => (hp v hv).1.keeps fun b o e c => keep b o (fun z => ha o (z ▸ e) c) e
  have firsts : ∀ us : List Value, (∀ v ∈ us, v ∈ vs) → ∃ fs : List Value, PySem.W.KatTups h' us fs ∧ fs.length = us.length ∧ ∀ f ∈ fs, ∃ x t, f = Value.int x t := by
    intro us
    induction us with
    | nil => exact fun _ => ⟨[], PySem.W.KatTups.nil, rfl, fun _ hm => nomatch hm⟩
    | cons v us ih =>
      intro hu
      obtain ⟨fs, g1, g2, g3⟩ := ih fun z hz => hu z (List.mem_cons_of_mem _ hz)
      have hv := hu v (List.mem_cons_self ..)
      obtain ⟨b, xs, rfl, ⟨o, ho, hc, n, hd⟩, hi⟩ := hp' v hv
      have ne := (hp _ hv).2
      generalize k (.ref b) = kb at hi ne
      obtain ⟨l⟩ := xs
      cases l with
      | nil =>
        have hi : IntsAre [] kb := hi
        cases hi
        exact absurd rfl ne
      | cons f l =>
        have hf : ∃ x t, f = Value.int x t := by
          have hi : IntsAre (f :: l) kb := hi
          cases hi
          exact ⟨_, _, rfl⟩
        refine ⟨f :: fs, PySem.W.KatTups.cons ho hc hd rfl g1, by rw [List.length_cons, List.length_cons, g2], fun z hz => ?_⟩
        rcases List.mem_cons.mp hz with rfl | hz
        · exact hf
        · exact g3 z hz
  obtain ⟨fs, g1, g2, g3⟩ := firsts vs fun _ h => h
  refine ⟨tuples' true, fun Q E hq => ?_, fun p q hm hm' => ?_⟩
  · refine PySem.W.kat_kind (T := .type "int") g1 (by omega) (fun f hf => ?_) (by rfl) ?_
    · obtain ⟨x, t, rfl⟩ := g3 f hf
      exact PySem.W.Looks.now
    · rw [show (Value.type "int" != Value.type "tuple") = true by decide +kernel]
      exact hq
  · obtain ⟨b, xs, e1, ⟨o, ho, hc, n, hd⟩, hi⟩ := hp' p.1 hm
    obtain ⟨b2, xs2, e2, ⟨o2, ho2, hc2, n2, hd2⟩, hi2⟩ := hp' q.1 hm'
    have fe : (lt2 fun v u => lexI (k v) (k u)) p q = lexI (k p.1) (k q.1) := rfl
    rw [fe, ← lexF_eq]
    have l1 : (k p.1).length = xs.size := by rw [← hi.length]; simp
    have l2 : (k q.1).length = xs2.size := by rw [← hi2.length]; simp
    rw [l1, l2]
    generalize k p.1 = ns at hi
    generalize k q.1 = ms at hi2
    rw [e1, e2]
    exact PySem.W.kat_lt ho hd ho2 hd2 (kat_ints 0 hi hi2)
end

/-- sorted(set), the members tuples of ints, none empty -/
def rSortedTV (K : PySem.W.Frag) (P : Program) (w : World) : List V → Hp → VK → Prop := fun vs H Q => ∃ (a : Addr) (L : List (Addr × List Int)), vs = [V.ref a] ∧ H a = some (SetTO P w a L) ∧ (∀ p ∈ L, SqT K H p.1 (vi p.2) ∧ p.2 ≠ []) ∧
  ∀ (L' : List (Addr × List Int)) (p : Addr), (∀ q, q ∈ L' ↔ q ∈ L) → (L'.map (·.2)).Pairwise (fun x y => lexI x y = true) → H p = none → Q (.ref p) (upd H p (.lst (L'.map fun q => V.ref q.1)))
theorem cr_sortedTV {X : Cx} (hc : X.calm = true) : CallR X (.builtin "sorted") (rSortedTV X.K X.prog X.w) := by
  intro pins s σ H vs us Q I r h
  obtain ⟨a, L, rfl, ha, hk, q⟩ := h
  rw [Vals.ref1 r]
  have R0 : SetT0 X.prog X.w s.heap a L := (I.hok a _ ha).1
  obtain ⟨es, ep, t, R⟩ := R0.full fun p hp => I.isT (hk p hp).1
  have few := R.few
  have rows : es.toList.map (·.2) = L.map fun q => Value.ref q.1 := by
    rw [R.rows]
    unfold rowsOf
    rw [List.map_map]
    rfl
  have one : ∀ q ∈ L, ∀ r ∈ L, q.1 = r.1 → q = r := fun q hq r hr e => by
    have a1 := R.tup q hq
    rw [e] at a1
    exact Prod.ext e (a1.inj (R.tup r hr))
  have tup : ∀ (h' : Heap), (∀ b o, s.heap.get? b = some o → h'.get? b = some o) → ∀ q ∈ L, TS.TupInts h' (.ref q.1) q.2 := fun h' kk q hq => tupInts_of (P := X.prog) (w := X.w) (isT_keep (R.tup q hq) kk)
  obtain ⟨o, ho, hex, hd⟩ := R.ob
  have hsz := R.size
  refine sorted_any (swo_lexI (TS.intsOf s.heap)) (fun us z => (∀ b o, s.heap.get? b = some o → z.heap.get? b = some o) ∧ s.heap.objs.size ≤ z.heap.objs.size ∧ z.gens = s.gens ∧ z.os = s.os ∧ us.Perm (L.map fun q => Value.ref q.1))
    (collect_set (A := X.A.in1) (I.ok.hd hc) ⟨o, ho, hex.1, hd⟩ R.fits (by unfold scanBound; omega) R.tab.ris R.led fun z out k1 k2 k3 k4 k5 => ⟨k1, k2, k3, k4, by rw [← rows]; exact k5⟩) ?_ ?_ ?_
  · rintro us z ⟨_, _, _, _, pm⟩
    rw [pm.length_eq, List.length_map, sizeLine_eq]
    omega
  · rintro us z ⟨k1, _, _, _, pm⟩ h2
    refine tups_sortable (by omega) (fun v hv => ?_) fun o' e => ?_
    · obtain ⟨p, hp, rfl⟩ := List.mem_map.mp (pm.mem_iff.mp hv)
      have e0 : TS.intsOf s.heap (.ref p.1) = p.2 := (tup s.heap (fun _ _ e => e) p hp).ints
      rw [e0]
      exact ⟨tup _ (fun b o e => Heap.get?_push_of_some _ (k1 b o e)) p hp, (hk p hp).2⟩
    · have e' : some o' = some (seqObj "list" us.toArray 0) := e.symm.trans (Heap.get?_push_size _ rfl)
      cases e'
      intro c
      exact absurd (Value.type.inj c) (by decide)
  · rintro us z out ⟨k1, k2, k3, k4, pm⟩ h1 h2
    have pm2 := h2.perm.trans pm
    obtain ⟨L', pL, eL⟩ := perm_map_inv pm2 rfl
    have at0 : (z.heap.push (seqObj "list" us.toArray 0)).get? z.heap.objs.size = some (seqObj "list" us.toArray 0) := Heap.get?_push_size _ rfl
    obtain ⟨e', he'⟩ := sortedHeap_at (vs := us) (out := out.toArray) at0
    have hn : H z.heap.objs.size = none := I.hok.fresh k2
    have kk : ∀ b o, s.heap.get? b = some o → (sortedHeap (z.heap.push (seqObj "list" us.toArray 0)) z.heap.objs.size us out.toArray).get? b = some o := fun b o e => by
      have lt := Heap.lt_size (k1 b o e)
      rw [sortedHeap_old (Nat.ne_of_lt lt) (by rw [size_push']; exact Nat.lt_succ_of_lt lt)]
      exact Heap.get?_push_of_some _ (k1 b o e)
    have rise : (L'.map (·.2)).Pairwise (fun x y => lexI x y = true) := by
      rw [eL] at h1
      have p1 := List.pairwise_map.mp h1
      have nd : (L'.map (·.2)).Nodup := (pL.map _).nodup_iff.mpr R.nd
      refine List.pairwise_map.mpr (List.Pairwise.imp_of_mem ?_ (p1.and (List.pairwise_map.mp nd)))
      rintro q r hq hr ⟨g1, g2⟩
      have f1 : TS.intsOf s.heap (.ref q.1) = q.2 := (tup s.heap (fun _ _ e => e) q (pL.mem_iff.mp hq)).ints
      have f2 : TS.intsOf s.heap (.ref r.1) = r.2 := (tup s.heap (fun _ _ e => e) r (pL.mem_iff.mp hr)).ints
      have g1 : lexI (TS.intsOf s.heap (.ref r.1)) (TS.intsOf s.heap (.ref q.1)) = false := g1
      rw [f1, f2] at g1
      exact lexI_total g1 fun e => g2 e.symm
    have J : Inv X pins σ (upd H z.heap.objs.size (.lst (L'.map fun q => V.ref q.1))) { s with heap := sortedHeap (z.heap.push (seqObj "list" us.toArray 0)) z.heap.objs.size us out.toArray, gens := z.gens, drawn := z.drawn, toks := z.toks } :=
      I.call (ch := []) (Un.laid kk k2 hn) (I.hok.laid kk k2 ⟨by rw [List.length_map, pL.length_eq, sizeLine_eq]; omega, out, e', by rw [eL]; exact vals_of_refs L', he'⟩) (by rw [k3]; exact I.bare) (fun _ z => nomatch z)
    have ez : ({ z with heap := sortedHeap (z.heap.push (seqObj "list" us.toArray 0)) z.heap.objs.size us out.toArray } : Shared) = { s with heap := sortedHeap (z.heap.push (seqObj "list" us.toArray 0)) z.heap.objs.size us out.toArray, gens := z.gens, drawn := z.drawn, toks := z.toks } := by
      cases z
      cases k4
      rfl
    rw [ez]
    exact ⟨.ref z.heap.objs.size, _, J, rfl, q L' _ (fun x => pL.mem_iff) rise hn⟩
end Fw
namespace Fw
open PySem PySem.Spec PyProof.Rows L2

/-- what can be reached from g over rooms of R -/
inductive Wk (D : List (Int × Int)) (R : List Int) (g : Int) : Int → Prop
  | base : Wk D R g g
  | step {v o : Int} : Wk D R g v → adj D v o → o ∈ R → Wk D R g o
section
variable {D : List (Int × Int)} {R : List Int} {g : Int}
theorem Wk.mem {v : Int} (h : Wk D R g v) : v = g ∨ v ∈ R := by
  cases h with
  | base => exact .inl rfl
  | step _ _ m => exact .inr m
theorem Wk.trans {a b c : Int} (h : Wk D R a b) (k : Wk D R b c) : Wk D R a c := by
  induction k with
  | base => exact h
  | step _ r m ih => exact .step ih r m
theorem Wk.symm {v : Int} (hg : g ∈ R) (h : Wk D R g v) : Wk D R v g := by
  induction h with
  | base => exact .base
  | @step v o k r m ih =>
    have mv : v ∈ R := by
      rcases k.mem with e | e
      · rw [e]; exact hg
      · exact e
    exact (Wk.step .base (adj_symm r) mv).trans ih
theorem SDone.wk {n : Int} {kvs : List (Key × V)} (S : SDone n D R g kvs) (v : Int) : isK kvs v = true ↔ Wk D R g v := by
  constructor
  · intro h
    unfold isK at h
    cases e : lk kvs v with
    | none => rw [e] at h; cases h
    | some x =>
      obtain ⟨p, c⟩ := S.inv.way v x e
      clear e h
      induction c with
      | goal _ => exact .base
      | @step v u p e a _ _ ih =>
        rcases S.inv.rng v (by unfold isK; rw [e]; rfl) with e2 | m
        · rw [e2]; exact .base
        · exact .step ih (adj_symm a) m
  · intro h
    induction h with
    | base => unfold isK; rw [S.inv.goal]; rfl
    | step _ r m ih => exact S.closed _ _ ih r m
/-- the component of g, ascending -/
structure IsC (D : List (Int × Int)) (R : List Int) (g : Int) (l : List Int) : Prop where
  up : l.Pairwise (· < ·)
  mem : ∀ v, v ∈ l ↔ Wk D R g v
theorem IsC.one {l l' : List Int} (a : IsC D R g l) (b : IsC D R g l') : l = l' := up_ext a.up b.up fun v => (a.mem v).trans (b.mem v).symm
theorem IsC.of {l ks : List Int} (p : l.Perm ks) (s : l.Pairwise (· ≤ ·)) (n : ks.Nodup) (m : ∀ v, v ∈ ks ↔ Wk D R g v) : IsC D R g l := ⟨up_of s (p.nodup_iff.mpr n), fun v => by rw [p.mem_iff]; exact m v⟩
end
theorem rg_filter_len {n : Int} {p : Int → Bool} : ((rg n).filter p).length ≤ n.toNat := by
  refine Nat.le_trans (List.length_filter_le _ _) ?_
  rw [rg_len]
  exact Nat.le_refl _

end Fw
namespace Fw
open PySem PySem.Spec PyProof.Rows L2
/-- the components of the first i rooms -/
structure CInv (D : List (Int × Int)) (R : List Int) (i : Nat) (Cs : List (Addr × List Int)) : Prop where
  a : ∀ c ∈ Cs, ∃ r ∈ R.take i, IsC D R r c.2
  b : ∀ r ∈ R.take i, ∃ c ∈ Cs, r ∈ c.2
  up : (Cs.map (·.2)).Pairwise (fun x y => lexI x y = true)
  n : Cs.length ≤ i
section
variable {D : List (Int × Int)} {R : List Int}
theorem IsC.has {g : Int} {l : List Int} (h : IsC D R g l) : g ∈ l := (h.mem g).mpr .base
theorem take_succ_mem {R : List Int} {i : Nat} {r x : Int} (e : R[i]? = some r) : x ∈ R.take (i + 1) ↔ x ∈ R.take i ∨ x = r := by
  rw [List.take_add_one, e, List.mem_append]
  simp
theorem CInv.skip {i : Nat} {Cs : List (Addr × List Int)} (C : CInv D R i Cs) {r : Int} (e : R[i]? = some r) (h : ∃ c ∈ Cs, r ∈ c.2) : CInv D R (i + 1) Cs := by
  refine ⟨fun c hc => ?_, fun x hx => ?_, C.up, Nat.le_succ_of_le C.n⟩
  · obtain ⟨r', h1, h2⟩ := C.a c hc
    exact ⟨r', (take_succ_mem e).mpr (.inl h1), h2⟩
  · rcases (take_succ_mem e).mp hx with hx | hx
    · exact C.b x hx
    · rw [hx]; exact h
theorem CInv.add {i : Nat} {Cs : List (Addr × List Int)} (C : CInv D R i Cs) {r : Int} (e : R[i]? = some r) (upR : R.Pairwise (· < ·)) (no : ∀ c ∈ Cs, r ∉ c.2) {t : Addr} {l : List Int} (hl : IsC D R r l) : CInv D R (i + 1) (Cs ++ [(t, l)]) := by
  have hi : i < R.length := (List.getElem?_eq_some_iff.mp e).1
  have er : R[i] = r := (List.getElem?_eq_some_iff.mp e).2
  have mr : r ∈ R := List.mem_of_getElem? e
  have low : ∀ v ∈ R, v < r → v ∈ R.take i := fun v hv hlt => by
    obtain ⟨j, hj, ej⟩ := List.mem_iff_getElem.mp hv
    refine List.mem_take_iff_getElem.mpr ⟨j, ?_, ej⟩
    have : ¬ i ≤ j := fun hij => by
      rcases Nat.lt_or_eq_of_le hij with h | h
      · have := (List.pairwise_iff_getElem.mp upR) i j hi hj h
        omega
      · subst h; omega
    omega
  have least : ∀ v ∈ l, r ≤ v := fun v hv => by
    by_cases hlt : v < r
    · have wv := (hl.mem v).mp hv
      have mv : v ∈ R := by
        rcases wv.mem with z | z
        · omega
        · exact z
      obtain ⟨c, hc, hvc⟩ := C.b v (low v mv hlt)
      obtain ⟨r', h1, h2⟩ := C.a c hc
      have w2 : Wk D R r' r := ((h2.mem v).mp hvc).trans (wv.symm mr)
      exact absurd ((h2.mem r).mpr w2) (no c hc)
    · omega
  refine ⟨fun c hc => ?_, fun x hx => ?_, ?_, ?_⟩
  · rcases List.mem_append.mp hc with hc | hc
    · obtain ⟨r', h1, h2⟩ := C.a c hc
      exact ⟨r', (take_succ_mem e).mpr (.inl h1), h2⟩
    · rw [List.mem_singleton.mp hc]
      exact ⟨r, (take_succ_mem e).mpr (.inr rfl), hl⟩
  · rcases (take_succ_mem e).mp hx with hx | hx
    · obtain ⟨c, hc, h⟩ := C.b x hx
      exact ⟨c, List.mem_append_left _ hc, h⟩
    · exact ⟨(t, l), List.mem_append_right _ (List.mem_singleton.mpr rfl), by rw [hx]; exact hl.has⟩
  · rw [List.map_append, List.pairwise_append]
    refine ⟨C.up, List.pairwise_singleton _ _, fun x hx y hy => ?_⟩
    have ey : y = l := List.mem_singleton.mp hy
    obtain ⟨c, hc, ec⟩ := List.mem_map.mp hx
    obtain ⟨r', h1, h2⟩ := C.a c hc
    have rr : r' < r := by
      obtain ⟨j, hj, ej⟩ := List.mem_take_iff_getElem.mp h1
      have := (List.pairwise_iff_getElem.mp upR) j i (by omega) hi (by omega)
      omega
    subst ey
    subst ec
    have hr' := h2.has
    have u2 := h2.up
    have hr := hl.has
    revert hr' u2 hr least
    cases c.2 with
    | nil => intro _ h; cases h
    | cons a as =>
      cases y with
      | nil => intro _ _ _ h; cases h
      | cons b bs =>
        intro ls hr' u2 _
        refine lexI_head ?_
        have h1 : r ≤ b := ls b (List.mem_cons_self ..)
        have h2 : a ≤ r' := by
          rcases List.mem_cons.mp hr' with z | z
          · omega
          · exact Int.le_of_lt ((List.pairwise_cons.mp u2).1 r' z)
        omega
  · rw [List.length_append, List.length_singleton]
    exact Nat.succ_le_succ C.n
theorem CInv.done {Cs : List (Addr × List Int)} (C : CInv D R R.length Cs) (l : List Int) : l ∈ Cs.map (·.2) ↔ ∃ r ∈ R, IsC D R r l := by
  have ha := C.a
  have hb := C.b
  rw [List.take_length] at ha hb
  constructor
  · intro h
    obtain ⟨c, hc, e⟩ := List.mem_map.mp h
    subst e
    exact ha c hc
  · rintro ⟨r, hr, h⟩
    obtain ⟨c, hc, hrc⟩ := hb r hr
    obtain ⟨r', h1, h2⟩ := ha c hc
    have w := (h2.mem r).mp hrc
    have : c.2 = l := up_ext h2.up h.up fun v => by
      rw [h2.mem, h.mem]
      exact ⟨fun k => (w.symm h1).trans k, fun k => w.trans k⟩
    exact this ▸ List.mem_map_of_mem hc
end

section
variable {P : Program} {w : World} {K : PySem.W.Frag} {mg : Str → Option Value} {base : Heap}
def refs (Cs : List (Addr × List Int)) : List V := Cs.map fun c => V.ref c.1
def TupsAt (H : Hp) (Cs : List (Addr × List Int)) : Prop := ∀ c ∈ Cs, H c.1 = some (.tup (vi c.2)) ∧ c.2.length ≤ 20
theorem TupsAt.same {H H' : Hp} {Cs : List (Addr × List Int)} (h : TupsAt H Cs) (e : Same H H') : TupsAt H' Cs := fun c hc => ⟨e _ _ (h c hc).1, (h c hc).2⟩
theorem get_refs {Cs : List (Addr × List Int)} {i : Nat} {x : V} (h : (refs Cs)[i]? = some x) : ∃ c, Cs[i]? = some c ∧ x = .ref c.1 := by
  unfold refs at h
  rw [List.getElem?_map] at h
  cases e : Cs[i]? with
  | none => rw [e] at h; cases h
  | some v => rw [e] at h; exact ⟨v, rfl, (Option.some.inj h).symm⟩
end
end Fw
namespace Fw
open PySem PySem.Spec PyProof.Rows L2

/-- the rooms with people; the rooms without -/
def occ (n : Int) (P : List (Str × Int)) : List Int := (rg n).filter fun r => decide (r ∈ P.map (·.2))
def emp (n : Int) (P : List (Str × Int)) : List Int := (rg n).filter fun r => !decide (r ∈ P.map (·.2))
theorem rg_snoc (i : Nat) : (List.range (i + 1)).map (fun (j : Nat) => 0 + (j : Int)) = (List.range i).map (fun (j : Nat) => 0 + (j : Int)) ++ [0 + (i : Int)] := by
  rw [List.range_succ, List.map_append]
  rfl
theorem rg0 (n : Int) : (List.range n.toNat).map (fun (j : Nat) => 0 + (j : Int)) = rg n := List.map_congr_left fun i _ => by omega
theorem mem_occ {n : Int} {P : List (Str × Int)} {r : Int} : r ∈ occ n P ↔ (0 ≤ r ∧ r < n) ∧ r ∈ P.map (·.2) := by
  unfold occ
  rw [List.mem_filter, mem_rg, decide_eq_true_eq]
theorem mem_emp {n : Int} {P : List (Str × Int)} {r : Int} : r ∈ emp n P ↔ (0 ≤ r ∧ r < n) ∧ r ∉ P.map (·.2) := by
  unfold emp
  rw [List.mem_filter, mem_rg, Bool.not_eq_true', decide_eq_false_iff_not]
theorem Pl.mem_occ {n : Int} {P : List (Str × Int)} (h : Pl n P) {r : Int} : r ∈ occ n P ↔ r ∈ P.map (·.2) := by
  rw [Fw.mem_occ]
  refine ⟨fun x => x.2, fun x => ⟨?_, x⟩⟩
  obtain ⟨y, hy, e⟩ := List.mem_map.mp x
  rw [← e]
  exact h.rm y hy
theorem rg_up (n : Int) : (rg n).Pairwise (· < ·) := range_up n.toNat
theorem occ_up (n : Int) (P : List (Str × Int)) : (occ n P).Pairwise (· < ·) := (rg_up n).filter _
theorem emp_up (n : Int) (P : List (Str × Int)) : (emp n P).Pairwise (· < ·) := (rg_up n).filter _
theorem occ_len (n : Int) (P : List (Str × Int)) : (occ n P).length ≤ n.toNat := rg_filter_len
theorem emp_len (n : Int) (P : List (Str × Int)) : (emp n P).length ≤ n.toNat := rg_filter_len
theorem in_empty (P : List (Str × Int)) (r : Int) : ((inside P [r]).map V.str).isEmpty = !decide (r ∈ P.map (·.2)) := by
  rw [Bool.eq_iff_iff, List.isEmpty_iff, List.map_eq_nil_iff, inside_nil, Bool.not_eq_true', decide_eq_false_iff_not]
  constructor
  · intro h m
    obtain ⟨y, hy, e⟩ := List.mem_map.mp m
    exact h y hy (List.mem_singleton.mpr e)
  · intro h x hx m
    rw [List.mem_singleton] at m
    exact h (m ▸ List.mem_map_of_mem (f := (·.2)) hx)
/-- the regions of the rooms R -/
structure Regs (D : List (Int × Int)) (R : List Int) (Ls : List (List Int)) : Prop where
  up : Ls.Pairwise (fun x y => lexI x y = true)
  mem : ∀ l, l ∈ Ls ↔ ∃ r ∈ R, IsC D R r l
def RegsAt (H : Hp) (t : Addr) (D : List (Int × Int)) (R : List Int) (Cs : List (Addr × List Int)) : Prop := H t = some (.tup (refs Cs)) ∧ TupsAt H Cs ∧ Cs.length ≤ 8 ∧ Regs D R (Cs.map (·.2))
theorem RegsAt.same {H H' : Hp} {t : Addr} {D : List (Int × Int)} {R : List Int} {Cs : List (Addr × List Int)} (x : RegsAt H t D R Cs) (e : Same H H') : RegsAt H' t D R Cs := ⟨e _ _ x.1, x.2.1.same e, x.2.2⟩
theorem RegsAt.tk {H H' : Hp} {t : Addr} {D : List (Int × Int)} {R : List Int} {Cs : List (Addr × List Int)} (x : RegsAt H t D R Cs) (e : Tk H H') : RegsAt H' t D R Cs := ⟨e.t x.1, fun c hc => ⟨e.t (x.2.1 c hc).1, (x.2.1 c hc).2⟩, x.2.2⟩
theorem Wk.mono {D : List (Int × Int)} {R R' : List Int} {g v : Int} (h : Wk D R g v) (m : ∀ x ∈ R, x ∈ R') : Wk D R' g v := by
  induction h with
  | base => exact .base
  | step _ a o ih => exact .step ih a (m _ o)
theorem Wk.congr {D : List (Int × Int)} {R R' : List Int} (h : ∀ x, x ∈ R ↔ x ∈ R') {g v : Int} : Wk D R g v ↔ Wk D R' g v := ⟨fun w => w.mono fun x hx => (h x).mp hx, fun w => w.mono fun x hx => (h x).mpr hx⟩
theorem IsC.congr {D : List (Int × Int)} {R R' : List Int} (h : ∀ x, x ∈ R ↔ x ∈ R') {g : Int} {l : List Int} (i : IsC D R g l) : IsC D R' g l := ⟨i.up, fun v => (i.mem v).trans (Wk.congr h)⟩
theorem IsC.re {D : List (Int × Int)} {R : List Int} {g r : Int} {l : List Int} (h : IsC D R g l) (hg : g ∈ R) (hr : r ∈ l) : IsC D R r l := by
  refine ⟨h.up, fun v => ?_⟩
  have w := (h.mem r).mp hr
  rw [h.mem]
  exact ⟨fun k => (w.symm hg).trans k, fun k => w.trans k⟩
theorem IsC.sub {D : List (Int × Int)} {R : List Int} {g : Int} {l : List Int} (h : IsC D R g l) (hg : g ∈ R) : ∀ x ∈ l, x ∈ R := fun x hx => by
  rcases ((h.mem x).mp hx).mem with e | e
  · rw [e]; exact hg
  · exact e
section
variable {D : List (Int × Int)} {R : List Int} {Ls : List (List Int)}
theorem Regs.has (h : Regs D R Ls) {l : List Int} (hl : l ∈ Ls) {r : Int} (hr : r ∈ l) : r ∈ R ∧ IsC D R r l := by
  obtain ⟨g, hg, hc⟩ := (h.mem l).mp hl
  exact ⟨hc.sub hg r hr, hc.re hg hr⟩
theorem Regs.one (h : Regs D R Ls) {l m : List Int} (hl : l ∈ Ls) (hm : m ∈ Ls) {r : Int} (h1 : r ∈ l) (h2 : r ∈ m) : l = m := (h.has hl h1).2.one (h.has hm h2).2
/-- the list of the component of a room: by what can be reached -/
theorem isC_ex (D : List (Int × Int)) {R : List Int} (upR : R.Pairwise (· < ·)) {r : Int} (hr : r ∈ R) : ∃ l, IsC D R r l := by
  classical
  refine ⟨R.filter fun v => decide (Wk D R r v), upR.filter _, fun v => ?_⟩
  rw [List.mem_filter, decide_eq_true_eq]
  refine ⟨fun h => h.2, fun h => ⟨?_, h⟩⟩
  rcases h.mem with e | e
  · rw [e]; exact hr
  · exact e
theorem Regs.ex (h : Regs D R Ls) (upR : R.Pairwise (· < ·)) {r : Int} (hr : r ∈ R) : ∃ l ∈ Ls, r ∈ l := by
  obtain ⟨l, hl⟩ := isC_ex D upR hr
  exact ⟨l, (h.mem l).mpr ⟨r, hr, hl⟩, hl.has⟩
end
theorem IsC.len {D : List (Int × Int)} {n : Int} {P : List (Str × Int)} {r : Int} {l : List Int} (h : IsC D (occ n P) r l) (hr : r ∈ occ n P) (n1 : n ≤ 8) : l.length ≤ 8 := by
  have h1 : l.length ≤ n.toNat := short (h.up.imp fun {a b} z => by omega) fun x hx => by
    have := (Fw.mem_occ.mp (h.sub hr x hx)).1
    omega
  omega
section
variable {P : Program} {w : World} {K : PySem.W.Frag} {mg : Str → Option Value} {base : Heap}

end
end Fw
namespace Fw
open PySem PySem.Spec PyProof.Rows L2
theorem upS_ext : ∀ {xs ys : List Str}, xs.Pairwise ltS → ys.Pairwise ltS → (∀ x, x ∈ xs ↔ x ∈ ys) → xs = ys
  | [], [], _, _, _ => rfl
  | [], y :: ys, _, _, h => absurd ((h y).mpr (List.mem_cons_self ..)) List.not_mem_nil
  | x :: xs, [], _, _, h => absurd ((h x).mp (List.mem_cons_self ..)) List.not_mem_nil
  | x :: xs, y :: ys, hx, hy, h => by
    obtain ⟨hx1, hx2⟩ := List.pairwise_cons.mp hx
    obtain ⟨hy1, hy2⟩ := List.pairwise_cons.mp hy
    have e : x = y := by
      rcases List.mem_cons.mp ((h x).mp (List.mem_cons_self ..)) with e | m
      · exact e
      · rcases List.mem_cons.mp ((h y).mpr (List.mem_cons_self ..)) with e | m'
        · exact e.symm
        · exact absurd (ltS_trans (hy1 x m) (hx1 y m')) (ltS_irr y)
    subst e
    rw [upS_ext hx2 hy2 fun z => ?_]
    constructor
    · intro m
      rcases List.mem_cons.mp ((h z).mp (List.mem_cons_of_mem _ m)) with e | m'
      · rw [e] at m
        exact absurd (hx1 x m) (ltS_irr x)
      · exact m'
    · intro m
      rcases List.mem_cons.mp ((h z).mpr (List.mem_cons_of_mem _ m)) with e | m'
      · rw [e] at m
        exact absurd (hy1 x m) (ltS_irr x)
      · exact m'
theorem sorted_same {ns ys : List Str} (h : Names ns) (p : ys.Perm ns) (s : sortedS ys = true) : ys = ns :=
  upS_ext (sorted_names p s h.nodup h.nam).up h.up fun x => p.mem_iff
theorem subset_len {α : Type} [DecidableEq α] : ∀ {xs ys : List α}, xs.Nodup → (∀ x ∈ xs, x ∈ ys) → xs.length ≤ ys.length
  | [], _, _, _ => Nat.zero_le _
  | x :: xs, ys, nd, h => by
    obtain ⟨h1, h2⟩ := List.nodup_cons.mp nd
    have hx := h x (List.mem_cons_self ..)
    have := subset_len (ys := ys.erase x) h2 fun z hz => (List.mem_erase_of_ne (show z ≠ x from fun e => h1 (e ▸ hz))).mpr (h z (List.mem_cons_of_mem _ hz))
    rw [List.length_erase_of_mem hx] at this
    have := List.length_pos_of_mem hx
    simp only [List.length_cons]
    omega
theorem split_len {α : Type} (p : α → Bool) : ∀ xs : List α, (xs.filter p).length + (xs.filter fun x => !p x).length = xs.length
  | [] => rfl
  | x :: xs => by
    have := split_len p xs
    cases h : p x with
    | true =>
      rw [List.filter_cons_of_pos h, List.filter_cons_of_neg (by simp [h])]
      simp only [List.length_cons]
      omega
    | false =>
      rw [List.filter_cons_of_neg (by simp [h]), List.filter_cons_of_pos (by simp [h])]
      simp only [List.length_cons]
      omega
theorem occ_emp (n : Int) (P : List (Str × Int)) : (occ n P).length + (emp n P).length = n.toNat := by
  have := split_len (fun r => decide (r ∈ P.map (·.2))) (rg n)
  rw [rg_len] at this
  exact this
section
variable {D : List (Int × Int)} {R : List Int} {Ls : List (List Int)}
theorem up_nodup {l : List Int} (h : l.Pairwise (· < ·)) : l.Nodup := List.nodup_iff_pairwise_ne.mpr (h.imp fun {a b} z => by omega)
theorem lex_irr : ∀ l : List Int, lexI l l = false
  | [] => rfl
  | x :: l => by
    rw [lexI, if_pos rfl]
    exact lex_irr l
theorem Regs.flat_nodup (h : Regs D R Ls) : Ls.flatten.Nodup := by
  rw [List.nodup_iff_pairwise_ne, List.pairwise_flatten]
  refine ⟨fun l hl => ?_, ?_⟩
  · obtain ⟨g, _, hc⟩ := (h.mem l).mp hl
    exact List.nodup_iff_pairwise_ne.mp (up_nodup hc.up)
  · refine h.up.imp_of_mem fun {a b} ha hb lt x hx y hy e => ?_
    subst e
    have := h.one ha hb hx hy
    subst this
    rw [lex_irr] at lt
    cases lt
theorem Regs.flat_mem (h : Regs D R Ls) (upR : R.Pairwise (· < ·)) (x : Int) : x ∈ Ls.flatten ↔ x ∈ R := by
  rw [List.mem_flatten]
  constructor
  · rintro ⟨l, hl, hx⟩
    exact (h.has hl hx).1
  · intro hx
    exact h.ex upR hx
theorem Regs.total (h : Regs D R Ls) (upR : R.Pairwise (· < ·)) : (Ls.map List.length).sum = R.length := by
  rw [← List.length_flatten]
  have h1 := subset_len h.flat_nodup fun x hx => (h.flat_mem upR x).mp hx
  have h2 := subset_len (up_nodup upR) fun x hx => (h.flat_mem upR x).mpr hx
  omega
theorem lex_ext : ∀ {xs ys : List (List Int)}, xs.Pairwise (fun a b => lexI a b = true) → ys.Pairwise (fun a b => lexI a b = true) → (∀ x, x ∈ xs ↔ x ∈ ys) → xs = ys
  | [], [], _, _, _ => rfl
  | [], y :: ys, _, _, h => absurd ((h y).mpr (List.mem_cons_self ..)) List.not_mem_nil
  | x :: xs, [], _, _, h => absurd ((h x).mp (List.mem_cons_self ..)) List.not_mem_nil
  | x :: xs, y :: ys, hx, hy, h => by
    obtain ⟨hx1, hx2⟩ := List.pairwise_cons.mp hx
    obtain ⟨hy1, hy2⟩ := List.pairwise_cons.mp hy
    have e : x = y := by
      rcases List.mem_cons.mp ((h x).mp (List.mem_cons_self ..)) with e | m
      · exact e
      · rcases List.mem_cons.mp ((h y).mpr (List.mem_cons_self ..)) with e | m'
        · exact e.symm
        · have a := lexI_asym (hy1 x m)
          rw [hx1 y m'] at a
          cases a
    subst e
    rw [lex_ext hx2 hy2 fun z => ?_]
    constructor
    · intro m
      rcases List.mem_cons.mp ((h z).mp (List.mem_cons_of_mem _ m)) with e | m'
      · rw [e] at m
        have a := hx1 x m
        rw [lex_irr] at a
        cases a
      · exact m'
    · intro m
      rcases List.mem_cons.mp ((h z).mpr (List.mem_cons_of_mem _ m)) with e | m'
      · rw [e] at m
        have a := hy1 x m
        rw [lex_irr] at a
        cases a
      · exact m'
theorem Regs.uniq {Ls' : List (List Int)} (h : Regs D R Ls) (k : Regs D R Ls') : Ls = Ls' := lex_ext h.up k.up fun l => (h.mem l).trans (k.mem l).symm
end
/-- a move takes nobody to an empty room -/
theorem mvd_rooms {P : List (Str × Int)} {nm : Str} {t r : Int} (ht : t ∈ P.map (·.2)) (h : r ∈ (mvd P nm t).map (·.2)) : r ∈ P.map (·.2) := by
  obtain ⟨x, hx, e⟩ := List.mem_map.mp h
  obtain ⟨y, hy, rfl⟩ := List.mem_map.mp hx
  have e : (if y.1 = nm then t else y.2) = r := e
  by_cases c : y.1 = nm
  · rw [if_pos c] at e
    rw [← e]
    exact ht
  · rw [if_neg c] at e
    rw [← e]
    exact List.mem_map_of_mem (f := (·.2)) hy
theorem nil_ne {K : PySem.W.Frag} {σ : L2.St} {L : Addr} {H : Hp} {Q : Bool → Hp → Prop} (e : H L = some (.lst [])) (h : ∀ H', Same H H' → Q false H') : tLst tNil σ H fun y H2 => rNeD K (.ref L) y H2 fun x H3 => ∃ k, x = .bl k ∧ Q k H3 :=
  ⟨Nat.zero_le _, fun p hp => ⟨.list [], .list [], .lst (SqL.of (same_upd hp _ _ e)) .nil, .lst (SqL.of upd_same) .nil, shaped_list [], shaped_list [], false, rfl, h _ (same_upd hp)⟩⟩
theorem nil_eq {K : PySem.W.Frag} {σ : L2.St} {L : Addr} {H : Hp} {Q : Bool → Hp → Prop} (e : H L = some (.lst [])) (h : ∀ H', Same H H' → Q true H') : tLst tNil σ H fun y H2 => rEqD K (.ref L) y H2 fun x H3 => ∃ k, x = .bl k ∧ Q k H3 :=
  ⟨Nat.zero_le _, fun p hp => ⟨.list [], .list [], .lst (SqL.of (same_upd hp _ _ e)) .nil, .lst (SqL.of upd_same) .nil, shaped_list [], shaped_list [], true, rfl, h _ (same_upd hp)⟩⟩
/-- texts as data -/
theorem dp_strs {K : PySem.W.Frag} {H : Hp} : ∀ ns : List Str, DpAll K H (ns.map V.str) (ns.map PyData.str)
  | [] => .nil
  | n :: ns => .cons (.str n) (dp_strs ns)
theorem strs_lay {ns : List Str} (h : ∀ x ∈ ns, PyData.strOk x = true) : PyData.canLayAll0 (ns.map PyData.str) = true := by
  rw [canLayAll_strs', List.all_eq_true]
  exact h
theorem strs_deep : ∀ ns : List Str, PyData.depthAll (ns.map PyData.str) = 0
  | [] => by simp [PyData.depthAll]
  | n :: ns => by
    rw [List.map_cons, PyData.depthAll, strs_deep ns, PyData.depth]
    rfl
theorem strs_shaped {ns : List Str} (h : ∀ x ∈ ns, PyData.strOk x = true) : SeqAt.shaped (.list (ns.map PyData.str)) = true := by
  unfold SeqAt.shaped
  rw [PyData.canLay0, strs_lay h, PyData.depth, strs_deep]
  decide
/-- tuples of ints as data -/
theorem dpR {K : PySem.W.Frag} {H : Hp} : ∀ {Cs : List (Addr × List Int)}, (∀ c ∈ Cs, H c.1 = some (.tup (vi c.2))) → DpAll K H (refs Cs) (Cs.map fun c => PyData.tuple (c.2.map PyData.int))
  | [], _ => .nil
  | c :: Cs, h => .cons (.tup (SqT.of (h c (List.mem_cons_self ..))) (dp_ints _)) (dpR fun q hq => h q (List.mem_cons_of_mem _ hq))
theorem layR : ∀ Cs : List (Addr × List Int), PyData.canLayAll0 (Cs.map fun c => PyData.tuple (c.2.map PyData.int)) = true ∧ PyData.depthAll (Cs.map fun c => PyData.tuple (c.2.map PyData.int)) ≤ 1
  | [] => by simp [PyData.canLayAll0, PyData.depthAll]
  | c :: Cs => by
    obtain ⟨h1, h2⟩ := layR Cs
    rw [List.map_cons, PyData.canLayAll0, PyData.depthAll, h1, PyData.canLay0, lay_ints, PyData.depth, deep_ints]
    exact ⟨rfl, by omega⟩
theorem shapedR (Cs : List (Addr × List Int)) : SeqAt.shaped (.tuple (Cs.map fun c => PyData.tuple (c.2.map PyData.int))) = true := by
  obtain ⟨h1, h2⟩ := layR Cs
  unfold SeqAt.shaped
  rw [PyData.canLay0, h1, PyData.depth]
  simp
  omega
theorem shapedRL (Cs : List (Addr × List Int)) : SeqAt.shaped (.list (Cs.map fun c => PyData.tuple (c.2.map PyData.int))) = true := by
  obtain ⟨h1, h2⟩ := layR Cs
  unfold SeqAt.shaped
  rw [PyData.canLay0, h1, PyData.depth]
  simp
  omega
end Fw
namespace Fw
open PySem PySem.Spec PyProof.Rows L2
section
variable {P : Program} {w : World} {K : PySem.W.Frag} {mg : Str → Option Value} {base : Heap}
def spConn (K : PySem.W.Frag) : Sp := fun vs H Q _ => ∃ (h rl : Addr) (n : Int) (D : List (Int × Int)) (R : List Int) (g : Int), vs = [.ref h, .ref rl, .int g] ∧ HouseAt H h n D ∧ Forest n D ∧ n ≤ 8 ∧ (SqL K H rl (vi R) ∨ SqT K H rl (vi R)) ∧ 0 ≤ g ∧ g < n ∧
  ∀ H' t l, Same H H' → H' t = some (.tup (vi l)) → IsC D R g l → l.length ≤ 20 → Q (.ref t) H'
def newp (R fnd : List Int) : Int → Bool := fun o => decide (o ∈ R) && !decide (o ∈ fnd)
theorem filter_take_succ {p : Int → Bool} {xs : List Int} {j : Nat} {x : Int} (e : xs[j]? = some x) : (xs.take (j + 1)).filter p = (xs.take j).filter p ++ if p x = true then [x] else [] := by
  rw [List.take_add_one, e, List.filter_append]
  congr 1
  by_cases c : p x = true
  · rw [if_pos c]
    show List.filter p [x] = _
    rw [List.filter_cons_of_pos c]
    rfl
  · rw [if_neg c]
    show List.filter p [x] = _
    rw [List.filter_cons_of_neg c]
    rfl
/-- what the search keeps -/
structure CAt (D : List (Int × Int)) (R : List Int) (n g : Int) (fnd : List Int) (sp : Nat) : Prop where
  nd : fnd.Nodup
  ok : ∀ v ∈ fnd, Wk D R g v ∧ 0 ≤ v ∧ v < n
  one : g ∈ fnd
  cl : ∀ v ∈ fnd.take sp, ∀ o, adj D v o → o ∈ R → o ∈ fnd
  le : sp ≤ fnd.length
theorem CAt.len {D : List (Int × Int)} {R : List Int} {n g : Int} {fnd : List Int} {sp : Nat} (C : CAt D R n g fnd sp) (h : n ≤ 8) : fnd.length ≤ 8 := by
  have : fnd.length ≤ n.toNat := short C.nd fun x hx => by have := (C.ok x hx).2; omega
  omega
theorem CAt.next {D : List (Int × Int)} {R : List Int} {n g : Int} {fnd : List Int} {sp : Nat} {v : Int} (C : CAt D R n g fnd sp) (hF : Forest n D) (e : fnd[sp]? = some v) : CAt D R n g (fnd ++ (nb n D v).filter (newp R fnd)) (sp + 1) := by
  have hs : sp < fnd.length := (List.getElem?_eq_some_iff.mp e).1
  have mv := List.mem_of_getElem? e
  have mem : ∀ o, o ∈ (nb n D v).filter (newp R fnd) ↔ adj D v o ∧ o ∈ R ∧ o ∉ fnd := fun o => by
    rw [List.mem_filter, hF.mem_nb]
    unfold newp
    simp
  refine ⟨?_, fun x hx => ?_, List.mem_append_left _ C.one, fun x hx o r m => ?_, ?_⟩
  · rw [List.nodup_append]
    refine ⟨C.nd, ((nb_up n D v).imp fun h => by omega).filter _, fun x hx y hy z => ?_⟩
    rw [z] at hx
    exact ((mem y).mp hy).2.2 hx
  · rcases List.mem_append.mp hx with hx | hx
    · exact C.ok x hx
    · obtain ⟨h1, h2, _⟩ := (mem x).mp hx
      exact ⟨.step (C.ok v mv).1 h1 h2, (hF.adj h1).2.2.1, (hF.adj h1).2.2.2⟩
  · rw [List.take_append_of_le_length (by omega)] at hx
    rcases (take_succ_mem e).mp hx with hx | hx
    · exact List.mem_append_left _ (C.cl x hx o r m)
    · rw [hx] at r
      by_cases c : o ∈ fnd
      · exact List.mem_append_left _ c
      · exact List.mem_append_right _ ((mem o).mpr ⟨r, m, c⟩)
  · rw [List.length_append]
    omega
theorem CAt.done {D : List (Int × Int)} {R : List Int} {n g : Int} {fnd : List Int} {sp : Nat} (C : CAt D R n g fnd sp) (h : ¬ sp < fnd.length) (v : Int) : v ∈ fnd ↔ Wk D R g v := by
  have cl := C.cl
  rw [List.take_of_length_le (by omega)] at cl
  refine ⟨fun m => (C.ok v m).1, fun k => ?_⟩
  induction k with
  | base => exact C.one
  | step _ r m ih => exact cl _ ih _ r m

abbrev nConn : List Str := ["_law_house_here", "_law_rooms", "_law_room", "_law_found", "_law_spot", "_law_there"]
theorem scConn : FnScope nConn ["_law_house_here", "_law_rooms", "_law_room"] (defScope sConn) := ⟨rfl, rfl, rfl, by decide +kernel, rfl, by decide +kernel, by decide +kernel⟩
theorem ok_conn {f fN : Addr} {fd fdN : FuncData} (F : Fun K "_law_connected" "_law_connected" sConn f fd) (T : Nm mg) (DN : Def K mg "_law_neighbors" sLNb fN fdN ["_law_house_here", "_law_room"]) : FnOk P w K mg base CX0 2 f fd ["_law_house_here", "_law_rooms", "_law_room"] (spConn K) := by
  have GN : FnOk P w K mg base CX0 1 fN fdN ["_law_house_here", "_law_room"] spLNb := ok_lnb DN.F T
  refine F.ok scConn (fun vs H Q E h => ?_) (fun cdv A outer s H vs Q E hr h => ?_)
  · obtain ⟨h, rl, n, D, R, g, rfl, _⟩ := h
    rfl
  · obtain ⟨h, rl, n, D, R, g, rfl, hH, hF, hn, hR, g0, g1, q⟩ := h
    refine ⟨_, pss_cons (ps_asg (pe_tup (pa_cons (pe_lst (pa_cons (pv 2) pa_nil)) (pa_cons pe_int pa_nil))) (pg_tup (by rfl) (pgs_cons (pg_name (i := 3) scConn.nd rfl (.inr rfl)) (pgs_cons (pg_name (i := 4) scConn.nd rfl (.inl rfl)) pgs_nil))))
      (pss_cons (ps_while PassesOwn.never (pt_cmpR op_lt (pv 4) (pe_callB call_len_seq (by rfl) T.len PySem.boot_len (pa_cons (pv 3) pa_nil)) (nomark _))
        (pss_cons (ps_expr (pe_bm PySem.F.plainAttrs_list PySem.F.slot_list_extend PySem.F.type_list_extend mt_extend (pv 3) (pa_cons
          (pe_lc (own := [("_law_there", 5)]) (g := gName 5) (tt := tAnd (tTest (tOp (rIn K false) (tVar 5) (tVar 1))) (tTest (tOp (rIn K true) (tVar 5) (tVar 3)))) (by rfl) scConn.nd
            (pi_list (pe_call GN hr (by rfl) DN.g DN.F.kp DN.b .nil pass0 (pa_cons (pv 0) (pa_cons (pe_ix ix_list (pv 3) (pv 4) (fun _ _ => rfl)) pa_nil))))
            (blkOk_by (own := [("_law_there", 5)]) (N := nConn) (sc := defScope sConn) (by decide +kernel)) (fun _ _ _ _ _ => pg_name (i := 5) scConn.nd rfl (Or.inl rfl))
            (fun _ _ _ _ _ => pts_one (PW.pt (pw_and (pt_cmpR op_in_seq (pv 5) (pv 1) (by rfl)) (pw_and1 (pt_cmpR op_notIn_seq (pv 5) (pv 3) (by rfl)))))) (fun _ _ _ _ _ => pv 5)) pa_nil)))
        (pss_one (ps_set (i := 4) scConn.nd rfl (.inl rfl) (pe_op op_add (pv 4) pe_int)))))
      (pss_one (ps_ret (pe_callTy call_tuple_of (by rfl) T.tuple (by decide +kernel) (pa_cons (pe_callB cr_sortedI (by rfl) T.sorted (by decide +kernel) (pa_cons (pv 3) pa_nil)) pa_nil))))), ?_⟩
    refine ⟨_, rfl, by show 1 ≤ sizeLine; decide, fun fl hfl => ⟨by show 2 ≤ sizeLine; decide, fun tp htp => ?_⟩⟩
    refine ⟨tp, _, rfl, SqT.of upd_same, rfl, _, _, rfl, _, _, rfl, rfl, ?_⟩
    have C0 : CAt D R n g [g] 0 := ⟨by simp, fun v hv => by rw [List.mem_singleton.mp hv]; exact ⟨.base, g0, g1⟩, by simp, fun v hv => (by simp at hv), Nat.zero_le _⟩
    refine ⟨fun m σ H' => ∃ (fnd : List Int) (sp : Nat) (y5 : Option V), σ = [some (.ref h), some (.ref rl), some (.int g), some (.ref fl), some (.int (sp : Int)), y5] ∧ Same H H' ∧ H' fl = some (.lst (vi fnd)) ∧ CAt D R n g fnd sp ∧ m = 9 - sp,
      ⟨_, [g], 0, none, rfl, (same_upd hfl).trans (same_upd htp), same_upd htp _ _ upd_same, C0, rfl⟩, ?_⟩
    rintro m σ H1 ⟨fnd, sp, y5, rfl, s1, ef, C, rfl⟩
    have hlen := C.len hn
    refine ⟨_, rfl, _, rfl, fl, _, rfl, .inl (SqL.of ef), _, _, rfl, rfl, _, rfl, ?_⟩
    refine ite2 (fun c => ?_) (fun c => ?_)
    · have c : sp < fnd.length := by
        have := of_decide_eq_true c
        rw [List.length_map] at this
        omega
      refine ⟨_, fun _ _ hh => hh, ?_⟩
      have ev : fnd[sp]? = some fnd[sp] := List.getElem?_eq_getElem c
      have hat : atI (vi fnd) (sp : Int) = some (V.int fnd[sp]) := atI_nat (by rw [List.getElem?_map, ev]; rfl)
      generalize fnd[sp] = v at ev hat
      refine ⟨_, rfl, .inl ⟨rfl, _, SqL.of ef⟩, _, rfl, _, rfl, _, rfl, fl, _, _, _, rfl, rfl, SqL.of ef, hat, h, n, D, v, rfl, hH.same s1, hF, fun H2 l s2 hl el => ?_⟩
      have ef2 := s2 _ _ ef
      have hR2 : SqL K H2 rl (vi R) ∨ SqT K H2 rl (vi R) := hR.imp (fun z => (s1.trans s2).seq z) (fun z => Same.sqT (s1.trans s2) z)
      refine ⟨l, rfl, ⟨_, SqL.of el⟩, fun L hL => lc_list (K := K) (a := l) (xs := vi (nb n D v)) (fun j H3 => Same H2 H3 ∧ H3 L = some (.lst (vi (((nb n D v).take j).filter (newp R fnd))))) ⟨same_upd hL, upd_same⟩ (fun j H3 _ hh => SqL.of (hh.1 _ _ el)) ?_ ?_⟩
      · rintro j x H3 hx ⟨s3, e3⟩
        obtain ⟨o, eo, rfl⟩ := get_vi hx
        refine ⟨rfl, ?_⟩
        refine tt_by (fun b H4 => H4 = H3 ∧ b = newp R fnd o) ?_ ?_
        · intro QQ hQ
          have hR3 : SqL K H3 rl (vi R) ∨ SqT K H3 rl (vi R) := hR2.imp (fun z => s3.seq z) (fun z => Same.sqT s3 z)
          refine ⟨_, rfl, _, rfl, rl, _, rfl, hR3, rfl, flat_ints R, _, rfl, ?_⟩
          show if (inV (.int o) (vi R)) = true then _ else _
          rw [inV_ints]
          refine ite2 (fun c1 => ?_) (fun c1 => ?_)
          · refine ⟨_, rfl, _, rfl, fl, _, rfl, .inl (SqL.of (s3 _ _ ef2)), rfl, flat_ints fnd, _, rfl, hQ _ _ ⟨rfl, ?_⟩⟩
            show (!inV (.int o) (vi fnd)) = _
            rw [inV_ints]
            unfold newp
            rw [c1, Bool.true_and]
          · refine hQ _ _ ⟨rfl, ?_⟩
            unfold newp
            rw [Bool.eq_false_iff.mpr c1, Bool.false_and]
        · rintro b H4 ⟨rfl, rfl⟩
          have jl : j < (nb n D v).length := (List.getElem?_eq_some_iff.mp eo).1
          have nl := nb_len n D v
          refine ite2 (fun c1 => ?_) (fun c1 => ?_)
          · refine ⟨_, rfl, _, e3, ?_, same_put s3 hL, ?_⟩
            · rw [List.length_map]
              refine small1000 (Nat.le_trans (List.length_filter_le _ _) ?_)
              rw [List.length_take]
              omega
            · rw [upd_same, filter_take_succ eo, if_pos c1, vi_app]
              rfl
          · refine ⟨s3, ?_⟩
            rw [filter_take_succ eo, if_neg c1, List.append_nil]
            exact e3
      · rintro H3 ⟨s3, e3⟩
        rw [List.length_map, List.take_length] at e3
        have ef3 := s3 _ _ ef2
        have C2 := C.next hF ev
        have len2 := C2.len hn
        refine ⟨fl, L, _, _, rfl, rfl, ef3, e3, ?_, ?_⟩
        · rw [List.length_append] at len2
          rw [List.length_map, List.length_map]
          exact Nat.le_of_lt (small1000 (by omega))
        refine ⟨_, rfl, _, _, rfl, rfl, ?_⟩
        refine ⟨9 - (sp + 1), by omega, fnd ++ (nb n D v).filter (newp R fnd), sp + 1, _, rfl, same_put (s1.trans (s2.trans s3)) hfl, ?_, C2, rfl⟩
        rw [upd_same, vi_app]
    · have c : ¬ sp < fnd.length := fun z => c (decide_eq_true (by rw [List.length_map]; omega))
      refine ⟨_, rfl, fl, _, rfl, SqL.of ef, fun ys p pm up hp => ⟨p, _, rfl, .inl ⟨SqL.of upd_same, fun t ht => ?_⟩⟩⟩
      exact q _ t ys (s1.trans ((same_upd hp).trans (same_upd ht))) upd_same (IsC.of pm up C.nd (C.done c)) (by rw [pm.length_eq]; omega)
end
end Fw
namespace Fw
open PySem PySem.Spec PyProof.Rows L2
open RZ
/-- the same value, to a depth -/
inductive Eqs (H : Hp) : Nat → V → V → Prop
  | non (k : Nat) : Eqs H k .non .non
  | int (k : Nat) (i : Int) : Eqs H k (.int i) (.int i)
  | bl (k : Nat) (b : Bool) : Eqs H k (.bl b) (.bl b)
  | str (k : Nat) (z : Str) : Eqs H k (.str z) (.str z)
  | tup {k : Nat} {a b : Addr} {xs ys : List V} : TpAt H a xs → TpAt H b ys → xs.length = ys.length → xs.length ≤ 500 → (∀ (i : Nat) x y, xs[i]? = some x → ys[i]? = some y → Eqs H k x y) → Eqs H (k + 1) (.ref a) (.ref b)
theorem Eqs.same {H H' : Hp} {k : Nat} {x y : V} (h : Eqs H k x y) (e : Same H H') : Eqs H' k x y := by
  induction h with
  | non k => exact .non k
  | int k i => exact .int k i
  | bl k i => exact .bl k i
  | str k i => exact .str k i
  | tup h1 h2 h3 h4 _ ih => exact .tup (h1.same e) (h2.same e) h3 h4 ih
theorem Eqs.ints {H : Hp} {k : Nat} {a b : Addr} {ns : List Int} (h1 : H a = some (.tup (vi ns))) (h2 : H b = some (.tup (vi ns))) (hl : ns.length ≤ 500) : Eqs H (k + 1) (.ref a) (.ref b) :=
  .tup (.inl h1) (.inl h2) rfl (by rw [List.length_map]; exact hl) fun i x y hx hy => by
    obtain ⟨v, _, rfl⟩ := get_vi hx
    rw [hx] at hy
    cases hy
    exact .int _ v
theorem Eqs.strs {H : Hp} {k : Nat} {a b : Addr} {ns : List Str} (h1 : H a = some (.tup (ns.map V.str))) (h2 : H b = some (.tup (ns.map V.str))) (hl : ns.length ≤ 500) : Eqs H (k + 1) (.ref a) (.ref b) :=
  .tup (.inl h1) (.inl h2) rfl (by rw [List.length_map]; exact hl) fun i x y hx hy => by
    obtain ⟨v, _, rfl⟩ := get_vs hx
    rw [hx] at hy
    cases hy
    exact .str _ v
theorem Eqs.pl {H : Hp} {k : Nat} {a b : Addr} {P : List (Str × Int)} (h1 : PlAt H a P) (h2 : PlAt H b P) (hl : P.length ≤ 500) : Eqs H (k + 2) (.ref a) (.ref b) := by
  obtain ⟨ps, e1, e2, e3⟩ := h1
  obtain ⟨qs, f1, f2, f3⟩ := h2
  have el : ps.length = qs.length := by
    have := congrArg List.length (e2.symm.trans f2)
    rw [List.length_map, List.length_map] at this
    exact this
  refine .tup e1 f1 (by rw [List.length_map, List.length_map, el]) (by rw [List.length_map]; rw [e2, List.length_map] at hl; exact hl) fun i x y hx hy => ?_
  rw [List.getElem?_map] at hx hy
  cases u : ps[i]? with
  | none => rw [u] at hx; cases hx
  | some p =>
    cases v : qs[i]? with
    | none => rw [v] at hy; cases hy
    | some q =>
      rw [u] at hx
      rw [v] at hy
      cases hx
      cases hy
      have e : p.2 = q.2 := by
        have h1 : P[i]? = some p.2 := by rw [e2, List.getElem?_map, u]; rfl
        have h2 : P[i]? = some q.2 := by rw [f2, List.getElem?_map, v]; rfl
        rw [h1] at h2
        exact Option.some.inj h2
      have g1 := e3 p (List.mem_of_getElem? u)
      have g2 := f3 q (List.mem_of_getElem? v)
      rw [← e] at g2
      refine .tup (.inl g1) (.inl g2) rfl (by show 2 ≤ 500; decide) fun j x y hx hy => ?_
      rw [hx] at hy
      cases hy
      match j, hx with
      | 0, hx => cases hx; exact .str _ _
      | 1, hx => cases hx; exact .int _ _
/-- how a zip of two tuples of one length walks -/
theorem both_walk {K : PySem.W.Frag} {a b : Addr} {xs ys : List V} (same : ys.length = xs.length) : Walk (ItzT K a b) xs.length (fun H => SqT K H a xs ∧ SqT K H b ys) (YPair (fun i => xs[i]?) fun i => ys[i]?) where
  goes i H lt q := ⟨_, _, _, _, q.1, q.2, List.getElem?_eq_getElem lt, List.getElem?_eq_getElem (same ▸ lt)⟩
  stops H q := ⟨_, _, q.1, q.2, .inl (Nat.le_refl _)⟩
  yields i H v H' _ q y := by
    obtain ⟨t, x, z, e1, e2, e3, e4, e5⟩ := y
    exact ⟨t, x, z, e1, e2, e3, e4 _ q.1, e5 _ q.2⟩

section
variable {P : Program} {w : World} {K : PySem.W.Frag} {mg : Str → Option Value} {base : Heap}
theorem tp_tyS {K : PySem.W.Frag} {H : Hp} {p : Addr} {xs : List V} (h : TpAt H p xs) : TyX K H (.ref p) (.type "tuple") := h.elim (fun h => .base (.tup h)) fun ⟨_, _, h⟩ => .fTuple h
theorem k_it : kitB "int" "tuple" = some false := by decide +kernel
theorem k_ib : kitB "int" "bool" = some false := by decide +kernel
theorem k_ii : kitB "int" "int" = some true := by decide +kernel
theorem k_nt : kitB "NoneType" "tuple" = some false := by decide +kernel
theorem k_tt : kitB "tuple" "tuple" = some true := by decide +kernel
theorem k_bt : kitB "bool" "tuple" = some false := by decide +kernel
theorem k_bb : kitB "bool" "bool" = some true := by decide +kernel
theorem k_st : kitB "str" "tuple" = some false := by decide +kernel
theorem k_sb : kitB "str" "bool" = some false := by decide +kernel
theorem k_si : kitB "str" "int" = some false := by decide +kernel
theorem k_ss2 : kitB "str" "str" = some true := by decide +kernel
end
end Fw
namespace Fw
open PySem PySem.Spec PyProof.Rows L2
/-- data that can be shown -/
structure Sw (b : Nat) (d : PyData) : Prop where
  s : d.showable = true
  n : d.hasDict = false
  p : d.depth ≤ 10
  l : d.leavesShort 13 = true
  k : d.bulk ≤ b
theorem Sw.shows {b : Nat} {d : PyData} (h : Sw b d) (hb : b ≤ 2 ^ 20) : Shows d := ⟨h.s, h.n, Nat.le_trans h.p (by decide), PyData.shown_fits_bulk (B := 13) (by decide) (by decide) h.l (Nat.le_trans h.k hb)⟩
def pp (x : Str × Int) : PyData := .tuple [.str x.1, .int x.2]
def pld (P : List (Str × Int)) : PyData := .tuple (P.map pp)
theorem pps_all {P : List (Str × Int)} (h : ∀ x ∈ P, Nam x.1 ∧ 0 ≤ x.2 ∧ x.2 ≤ 100) : PyData.showableAll (P.map pp) = true ∧ PyData.hasDictAll (P.map pp) = false ∧ PyData.depthAll (P.map pp) ≤ 1 ∧ PyData.leavesShortAll 13 (P.map pp) = true ∧ PyData.bulkAll (P.map pp) ≤ 20 * P.length := by
  induction P with
  | nil => simp [PyData.showableAll, PyData.hasDictAll, PyData.depthAll, PyData.leavesShortAll, PyData.bulkAll]
  | cons x P ih =>
    obtain ⟨i1, i2, i3, i4, i5⟩ := ih fun y hy => h y (List.mem_cons_of_mem _ hy)
    obtain ⟨hn, a0, a1⟩ := h x (List.mem_cons_self ..)
    have s1 := PyData.shown_int_le2 (i := x.2) (by omega) (by omega)
    have sz : x.1.cps.size ≤ 8 := hn.2.1
    have al : (x.1.cps.toList.all fun c => decide (c < 16 ^ 8)) = true := by
      rw [List.all_eq_true]
      intro c hc
      have := hn.2.2 c hc
      exact decide_eq_true (by omega)
    rw [List.map_cons]
    refine ⟨?_, ?_, ?_, ?_, ?_⟩
    · simp only [pp, PyData.showableAll, PyData.showable, i1, Bool.and_true]
      rw [decide_eq_true (log_small a0 a1)]
      rfl
    · simp only [pp, PyData.hasDictAll, PyData.hasDict, i2, Bool.or_false]
    · simp only [pp, PyData.depthAll, PyData.depth]
      omega
    · simp only [pp, PyData.leavesShortAll, PyData.leavesShort, i4, Bool.and_true]
      rw [decide_eq_true s1, al]
      rfl
    · simp only [pp, PyData.bulkAll, PyData.bulk, List.length_cons]
      omega
theorem pld_sw {P : List (Str × Int)} (h : ∀ x ∈ P, Nam x.1 ∧ 0 ≤ x.2 ∧ x.2 ≤ 100) : Sw (20 * P.length) (pld P) := by
  obtain ⟨i1, i2, i3, i4, i5⟩ := pps_all h
  exact ⟨by simp only [pld, PyData.showable, i1], by simp only [pld, PyData.hasDict, i2], by simp only [pld, PyData.depth]; omega, by simp only [pld, PyData.leavesShort, i4], by simp only [pld, PyData.bulk]; exact i5⟩
theorem Pl.sw {n : Int} {P : List (Str × Int)} (h : Pl n P) (hn : n ≤ 8) (lP : P.length ≤ 100) : Sw 2000 (pld P) := by
  have := pld_sw (P := P) fun x hx => ⟨h.nm.nam _ (List.mem_map_of_mem (f := (·.1)) hx), (h.rm x hx).1, by have := (h.rm x hx).2; omega⟩
  exact ⟨this.s, this.n, this.p, this.l, Nat.le_trans this.k (by omega)⟩
theorem hd_sw {n : Int} {D : List (Int × Int)} (f : Forest n D) (n0 : 0 ≤ n) (n1 : n ≤ 8) : Sw 100 (hd n D) := by
  have h : ∀ d ∈ D, 0 ≤ d.1 ∧ d.1 ≤ 100 ∧ 0 ≤ d.2 ∧ d.2 ≤ 100 := fun d hd => by
    have := f.ends (a := d.1) (b := d.2) hd
    omega
  have hl : D.length ≤ 8 := f.len
  obtain ⟨i1, i2⟩ := pds_show h
  have s1 := PyData.shown_int_le2 (i := n) (by omega) (by omega)
  have dp := pd_deep D
  refine ⟨?_, ?_, ?_, ?_, ?_⟩
  · simp only [hd, PyData.showable, PyData.showableAll, Bool.and_true, i1]
    rw [decide_eq_true (log_small n0 (by omega))]
  · simp only [hd, PyData.hasDict, PyData.hasDictAll, Bool.or_false, Bool.false_or]
    exact pds_nodict D
  · simp only [hd, PyData.depth, PyData.depthAll]
    omega
  · simp only [hd, PyData.leavesShort, PyData.leavesShortAll, Bool.and_true, i2]
    rw [decide_eq_true s1]
  · simp only [hd, PyData.bulk, PyData.bulkAll, pds_bulk]
    omega
theorem sw2 {b c : Nat} {d e : PyData} (x : Sw b d) (y : Sw c e) (h1 : d.depth ≤ 8) (h2 : e.depth ≤ 8) : Sw (b + c + 2) (.list [d, e]) := by
  refine ⟨?_, ?_, ?_, ?_, ?_⟩
  · simp only [PyData.showable, PyData.showableAll, x.s, y.s, Bool.and_true]
  · simp only [PyData.hasDict, PyData.hasDictAll, x.n, y.n, Bool.or_false]
  · simp only [PyData.depth, PyData.depthAll]
    omega
  · simp only [PyData.leavesShort, PyData.leavesShortAll, x.l, y.l, Bool.and_true]
  · simp only [PyData.bulk, PyData.bulkAll]
    have := x.k
    have := y.k
    omega
theorem sw3 {a b c : Nat} {d e f : PyData} (x : Sw a d) (y : Sw b e) (z : Sw c f) (h1 : d.depth ≤ 8) (h2 : e.depth ≤ 8) (h3 : f.depth ≤ 8) : Sw (a + b + c + 3) (.list [d, e, f]) := by
  refine ⟨?_, ?_, ?_, ?_, ?_⟩
  · simp only [PyData.showable, PyData.showableAll, x.s, y.s, z.s, Bool.and_true]
  · simp only [PyData.hasDict, PyData.hasDictAll, x.n, y.n, z.n, Bool.or_false]
  · simp only [PyData.depth, PyData.depthAll]
    omega
  · simp only [PyData.leavesShort, PyData.leavesShortAll, x.l, y.l, z.l, Bool.and_true]
  · simp only [PyData.bulk, PyData.bulkAll]
    have := x.k
    have := y.k
    have := z.k
    omega
theorem hd_deep (n : Int) (D : List (Int × Int)) : (hd n D).depth ≤ 8 := by
  have dp := pd_deep D
  simp only [hd, PyData.depth, PyData.depthAll]
  omega
theorem pps_deep (P : List (Str × Int)) : PyData.depthAll (P.map pp) ≤ 1 := by
  induction P with
  | nil => simp [PyData.depthAll]
  | cons x P ih =>
    rw [List.map_cons]
    simp only [pp, PyData.depthAll, PyData.depth]
    omega
theorem pld_deep (P : List (Str × Int)) : (pld P).depth ≤ 8 := by
  have := pps_deep P
  simp only [pld, PyData.depth]
  omega
theorem dp_pps {K : PySem.W.Frag} {H : Hp} : ∀ {ps : List (Addr × Str × Int)}, (∀ p ∈ ps, H p.1 = some (.tup [.str p.2.1, .int p.2.2])) → DpAll K H (ps.map fun p => V.ref p.1) ((ps.map (·.2)).map pp)
  | [], _ => .nil
  | p :: ps, h => .cons (.tup (SqT.of (h p (List.mem_cons_self ..))) (.cons (.str _) (.cons (.int _) .nil))) (dp_pps fun q hq => h q (List.mem_cons_of_mem _ hq))
theorem PlAt.dp {K : PySem.W.Frag} {H : Hp} {p : Addr} {P : List (Str × Int)} (x : PlAt H p P) : Dp K H (.ref p) (pld P) := by
  obtain ⟨ps, h1, h2, h3⟩ := x
  rw [h2]
  exact .tup h1.sq (dp_pps h3)
theorem sw2T {b c : Nat} {d e : PyData} (x : Sw b d) (y : Sw c e) (h1 : d.depth ≤ 8) (h2 : e.depth ≤ 8) : Sw (b + c + 2) (.tuple [d, e]) := by
  refine ⟨?_, ?_, ?_, ?_, ?_⟩
  · simp only [PyData.showable, PyData.showableAll, x.s, y.s, Bool.and_true]
  · simp only [PyData.hasDict, PyData.hasDictAll, x.n, y.n, Bool.or_false]
  · simp only [PyData.depth, PyData.depthAll]
    omega
  · simp only [PyData.leavesShort, PyData.leavesShortAll, x.l, y.l, Bool.and_true]
  · simp only [PyData.bulk, PyData.bulkAll]
    have := x.k
    have := y.k
    omega
/-- (house, placement) -/
def hpT (n : Int) (D : List (Int × Int)) (P : List (Str × Int)) : PyData := .tuple [hd n D, pld P]
theorem hpT_shows {n : Int} {D : List (Int × Int)} {P : List (Str × Int)} (f : Forest n D) (n0 : 0 ≤ n) (n1 : n ≤ 8) (h : Pl n P) (lP : P.length ≤ 100) : Shows (hpT n D P) :=
  (sw2T (hd_sw f n0 n1) (h.sw n1 lP) (hd_deep _ _) (pld_deep _)).shows (by decide)
theorem hpT_dp {K : PySem.W.Frag} {H : Hp} {l h p : Addr} {n : Int} {D : List (Int × Int)} {P : List (Str × Int)} (e : H l = some (.tup [.ref h, .ref p])) (x : HouseAt H h n D) (y : PlAt H p P) : Dp K H (.ref l) (hpT n D P) :=
  .tup (SqT.of e) (.cons x.dp (.cons y.dp .nil))
/-- [house, placement] -/
def hpd (n : Int) (D : List (Int × Int)) (P : List (Str × Int)) : PyData := .list [hd n D, pld P]
theorem hp_shows {n : Int} {D : List (Int × Int)} {P : List (Str × Int)} (f : Forest n D) (n0 : 0 ≤ n) (n1 : n ≤ 8) (h : Pl n P) (lP : P.length ≤ 100) : Shows (hpd n D P) :=
  (sw2 (hd_sw f n0 n1) (h.sw n1 lP) (hd_deep _ _) (pld_deep _)).shows (by decide)
theorem hp_dp {K : PySem.W.Frag} {H : Hp} {l h p : Addr} {n : Int} {D : List (Int × Int)} {P : List (Str × Int)} (e : H l = some (.lst [.ref h, .ref p])) (x : HouseAt H h n D) (y : PlAt H p P) : Dp K H (.ref l) (hpd n D P) :=
  .lst (SqL.of e) (.cons x.dp (.cons y.dp .nil))
theorem pps_lay : ∀ {X : List (Str × Int)}, (∀ x ∈ X, Nam x.1) → PyData.canLayAll0 (X.map pp) = true
  | [], _ => by simp [PyData.canLayAll0]
  | x :: X, h => by
    rw [List.map_cons, PyData.canLayAll0, pps_lay fun y hy => h y (List.mem_cons_of_mem _ hy)]
    simp [pp, PyData.canLay0, PyData.canLayAll0, nam_ok (h x (List.mem_cons_self ..))]
theorem pps_shapedL {X : List (Str × Int)} (h : ∀ x ∈ X, Nam x.1) : SeqAt.shaped (.list (X.map pp)) = true := by
  unfold SeqAt.shaped
  rw [PyData.canLay0, pps_lay h, PyData.depth]
  have := pps_deep X
  simp
  omega
theorem pld_shaped {X : List (Str × Int)} (h : ∀ x ∈ X, Nam x.1) : SeqAt.shaped (pld X) = true := by
  unfold SeqAt.shaped pld
  rw [PyData.canLay0, pps_lay h, PyData.depth]
  have := pps_deep X
  simp
  omega
theorem Pl.nams {n : Int} {P : List (Str × Int)} (h : Pl n P) : ∀ x ∈ P, Nam x.1 := fun x hx => h.nm.nam _ (List.mem_map_of_mem (f := (·.1)) hx)
theorem eqv_nilP (X : List (Str × Int)) : PyData.eqv (.list (X.map pp)) (.list []) = X.isEmpty := by
  rw [PyData.eqv]
  cases X with
  | nil => rw [List.map_nil, PyData.eqvAll]; rfl
  | cons n ns => rw [List.map_cons, PyData.eqvAll]; rfl
/-- [house, placement, target] -/
def hptd (n : Int) (D : List (Int × Int)) (P G : List (Str × Int)) : PyData := .list [hd n D, pld P, pld G]
theorem hpt_shows {n : Int} {D : List (Int × Int)} {P G : List (Str × Int)} (f : Forest n D) (n0 : 0 ≤ n) (n1 : n ≤ 8) (h : Pl n P) (lP : P.length ≤ 100) (k : Pl n G) (lG : G.length ≤ 100) : Shows (hptd n D P G) :=
  (sw3 (hd_sw f n0 n1) (h.sw n1 lP) (k.sw n1 lG) (hd_deep _ _) (pld_deep _) (pld_deep _)).shows (by decide)
theorem hpt_dp {K : PySem.W.Frag} {H : Hp} {l h p g : Addr} {n : Int} {D : List (Int × Int)} {P G : List (Str × Int)} (e : H l = some (.lst [.ref h, .ref p, .ref g])) (x : HouseAt H h n D) (y : PlAt H p P) (z : PlAt H g G) : Dp K H (.ref l) (hptd n D P G) :=
  .lst (SqL.of e) (.cons x.dp (.cons y.dp (.cons z.dp .nil)))
end Fw
namespace Fw
open PySem PySem.Spec PyProof.Rows L2
/-! ### dicts by names -/
def dk (F : List (Str × V)) : List (Key × V) := F.map fun x => (Sum.inr x.1, x.2)
theorem valV_none {F : List (Str × V)} {nm : Str} (h : nm ∉ F.map (·.1)) : valV (dk F) (Sum.inr nm) = none := by
  induction F with
  | nil => rfl
  | cons x F ih =>
    rw [List.map_cons, List.mem_cons, not_or] at h
    show valV ((Sum.inr x.1, x.2) :: dk F) _ = none
    rw [valV_neg (fun e => h.1 (Sum.inr.inj e).symm)]
    exact ih h.2
theorem valV_dk {F : List (Str × V)} (nd : (F.map (·.1)).Nodup) {nm : Str} {v : V} (h : (nm, v) ∈ F) : valV (dk F) (Sum.inr nm) = some v := by
  induction F with
  | nil => cases h
  | cons x F ih =>
    rw [List.map_cons, List.nodup_cons] at nd
    rcases List.mem_cons.mp h with e | m
    · subst e
      exact valV_pos rfl
    · show valV ((Sum.inr x.1, x.2) :: dk F) _ = _
      rw [valV_neg (fun e => nd.1 (by rw [Sum.inr.inj e]; exact List.mem_map_of_mem (f := (·.1)) m))]
      exact ih nd.2 m
theorem merge_app : ∀ {F G : List (Str × V)}, ((F ++ G).map (·.1)).Nodup → mergeK (dk F) (dk G) = dk (F ++ G)
  | F, [], _ => by rw [List.append_nil]; rfl
  | F, x :: G, nd => by
    have n1 : x.1 ∉ F.map (·.1) := fun m => by
      rw [List.map_append, List.map_cons, List.nodup_append] at nd
      exact nd.2.2 x.1 m x.1 (List.mem_cons_self ..) rfl
    show mergeK (putK (dk F) (Sum.inr x.1) x.2) (dk G) = _
    rw [putK_new _ (valV_none n1)]
    have e : dk F ++ [(Sum.inr x.1, x.2)] = dk (F ++ [x]) := by unfold dk; rw [List.map_append]; rfl
    rw [e, merge_app (by rw [List.append_assoc]; exact nd), List.append_assoc]
    rfl
theorem merge_dk {F : List (Str × V)} (nd : (F.map (·.1)).Nodup) : mergeK [] (dk F) = dk F := merge_app (F := []) nd
theorem dk_keys (F : List (Str × V)) : (dk F).map (·.1) = (F.map (·.1)).map Sum.inr := by
  unfold dk
  rw [List.map_map, List.map_map]
  rfl
theorem dk_len (F : List (Str × V)) : (dk F).length = F.length := by unfold dk; rw [List.length_map]
/-- dict(list of pairs) -/
theorem call_dictK {X : Cx} (K : PySem.W.Frag) (h : X.K = K) (hc : X.calm = true) : CallR X (.type "dict") (fun xs H Q => ∃ (a : Addr) (ps : List Addr) (kvs : List (Key × V)), xs = [.ref a] ∧ SqL K H a (ps.map V.ref) ∧ Paired (fun p kv => SqT K H p [kV kv.1, kv.2]) ps kvs ∧
    ∀ p, H p = none → Q (.ref p) (upd H p (.dK (mergeK [] kvs)))) := by subst h; exact call_dictP hc
theorem paired_of {K : PySem.W.Frag} {H : Hp} : ∀ {ps : List (Addr × Str × V)}, (∀ q ∈ ps, H q.1 = some (.tup [.str q.2.1, q.2.2])) → Paired (fun p kv => SqT K H p [kV kv.1, kv.2]) (ps.map (·.1)) (dk (ps.map (·.2)))
  | [], _ => .nil
  | p :: ps, h => .cons (SqT.of (h p (List.mem_cons_self ..))) (paired_of fun q hq => h q (List.mem_cons_of_mem _ hq))
theorem eqv_nilT (X : List (Str × Int)) : PyData.eqv (pld X) (.tuple []) = X.isEmpty := by
  unfold pld
  rw [PyData.eqv]
  cases X with
  | nil => rw [List.map_nil, PyData.eqvAll]; rfl
  | cons n ns => rw [List.map_cons, PyData.eqvAll]; rfl
theorem PlAt.at {K : PySem.W.Frag} {H : Hp} {l : Addr} {X : List (Str × Int)} (x : PlAt H l X) {r : Int} (h0 : 0 ≤ r) (h1 : r < (X.length : Nat)) : ∃ xs t nm v, SqT K H l xs ∧ atI xs r = some (.ref t) ∧ H t = some (.tup [.str nm, .int v]) ∧ (nm, v) ∈ X := by
  obtain ⟨ps, e1, e2, e3⟩ := x
  have hj : r.toNat < ps.length := by rw [e2, List.length_map] at h1; omega
  have hm := List.getElem_mem hj
  refine ⟨_, ps[r.toNat].1, ps[r.toNat].2.1, ps[r.toNat].2.2, e1.sq, ?_, e3 _ hm, by rw [e2]; exact List.mem_map_of_mem (f := (·.2)) hm⟩
  have := atI_nat (xs := ps.map fun q => V.ref q.1) (j := r.toNat) (v := V.ref ps[r.toNat].1) (by rw [List.getElem?_map, List.getElem?_eq_getElem hj]; rfl)
  rw [show ((r.toNat : Nat) : Int) = r by omega] at this
  exact this
theorem PlAt.sq' {K : PySem.W.Frag} {H : Hp} {l : Addr} {X : List (Str × Int)} (x : PlAt H l X) : ∃ xs, SqT K H l xs ∧ xs.length = X.length := by
  obtain ⟨ps, h1, h2, _⟩ := x
  exact ⟨_, h1.sq, by rw [h2, List.length_map, List.length_map]⟩
/-! ### dict(placement) -/
def dkI (P : List (Str × Int)) : List (Key × V) := dk (P.map fun x => (x.1, V.int x.2))
theorem dkI_keys (P : List (Str × Int)) : (P.map fun x => (x.1, V.int x.2)).map (·.1) = P.map (·.1) := by
  rw [List.map_map]
  rfl
theorem valV_dkI {P : List (Str × Int)} (nd : (P.map (·.1)).Nodup) {nm : Str} {r : Int} (h : (nm, r) ∈ P) : valV (dkI P) (Sum.inr nm) = some (.int r) :=
  valV_dk (by rw [dkI_keys]; exact nd) (List.mem_map.mpr ⟨(nm, r), h, rfl⟩)
theorem valV_dkI_none {P : List (Str × Int)} {nm : Str} (h : nm ∉ P.map (·.1)) : valV (dkI P) (Sum.inr nm) = none := valV_none (by rw [dkI_keys]; exact h)
theorem pairs_in {X : Cx} {pins : List (Addr × Obj)} {σ : L2.St} {H : Hp} {s : Shared} (I : Inv X pins σ H s) : ∀ {ps : List (Addr × Str × Int)}, (∀ q ∈ ps, H q.1 = some (.tup [.str q.2.1, .int q.2.2])) →
    ∃ (vs : List (Value × Value)) (kv : List (Key × Value)), vs.length = ps.length ∧ KV (dkI (ps.map (·.2))) kv ∧ kv.length = ps.length ∧
      ∀ (j : Nat) (u v : Value), vs[j]? = some (u, v) → ∃ q k, ps[j]? = some q ∧ PairAt s.heap q.1 u v ∧ kv[j]? = some (k, v) ∧ (mixKind X.prog X.w).is k u = true
  | [], _ => ⟨[], [], rfl, .nil, rfl, fun j u v e => by cases e⟩
  | p :: ps, h => by
    obtain ⟨vs, kv, l1, rel, l2, f⟩ := pairs_in I fun q hq => h q (List.mem_cons_of_mem _ hq)
    obtain ⟨its, rv, ht, _⟩ := I.tuple (SqT.of (h p (List.mem_cons_self ..)))
    obtain ⟨u, y, ei, ru, ry⟩ := vals2 rv
    subst ei
    refine ⟨(u, y) :: vs, (Sum.inr p.2.1, y) :: kv, by rw [List.length_cons, List.length_cons, l1], .cons ⟨rfl, ry⟩ rel, by rw [List.length_cons, List.length_cons, l2], fun j u' v' e => ?_⟩
    cases j with
    | zero =>
      cases e
      exact ⟨p, _, rfl, .inl ht, rfl, kV_is (P := X.prog) (w := X.w) (k := Sum.inr p.2.1) ru⟩
    | succ j => exact f j u' v' (by simpa using e)
theorem call_dictT {X : Cx} (hcalm : X.calm = true) : CallR X (.type "dict") (fun xs H Q => ∃ (a : Addr) (P : List (Str × Int)), xs = [.ref a] ∧ PlD H a P ∧ (P.map (·.1)).Nodup ∧ P.length ≤ 1000 ∧ ∀ p, H p = none → Q (.ref p) (upd H p (.dK (dkI P)))) := by
  intro pins s σ H xs us Q I r q
  obtain ⟨a, P, rfl, ⟨ps, ob, od, hp, eP, hps⟩, nd, lP, q⟩ := q
  obtain ⟨u, rfl, ru⟩ := vals1 r
  obtain rfl : u = Value.ref a := ru
  obtain ⟨ho, hz, its, rel, ⟨o2, ho2, hc2, n2, hd2⟩⟩ := (show ObjOk X.prog X.w H s.heap a (.frz ob (.tup (ps.map fun q => V.ref q.1))) from I.hok a _ hp)
  have e2 : o2 = ob := by
    rw [ho] at ho2
    exact (Option.some.inj ho2).symm
  subst e2
  have ei : its = (ps.map (·.1)).map Value.ref := refs_at (by rw [List.map_map]; exact rel)
  obtain ⟨vs, kv, l1, rk, l2, f⟩ := pairs_in I hps
  have lp : ps.length = P.length := by rw [eP, List.length_map]
  have hlen : (dkI P).length ≤ sizeLine := by
    unfold dkI
    rw [dk_len, List.length_map]
    exact Nat.le_of_lt (small1000 lP)
  have hsz : vs.length ≤ sizeLine := by
    rw [l1, lp]
    exact Nat.le_of_lt (small1000 lP)
  refine PySem.call_dict_pairs (knd := mixKind X.prog X.w) (kvs := kv) (PairArg.tuple a its.toArray (fun j => (ps.map (·.1)).getD j 0) vs) (I.ok.hd hcalm) ⟨⟨o2, n2, ho, hc2, od, hd2⟩, ?_, fun j k v e => ?_⟩ ⟨by rw [l2, l1], fun j key v e => ?_⟩ hsz fun h' tk hd' k => ?_
  · rw [ei, List.size_toArray, List.length_map, List.length_map, l1]
  · obtain ⟨q', k', hq, hpa, _, _⟩ := f j k v e
    have hg : (ps.map (·.1))[j]? = some q'.1 := by rw [List.getElem?_map, hq]; rfl
    have hT : (ps.map (·.1)).getD j 0 = q'.1 := by rw [List.getD_eq_getElem?_getD, hg]; rfl
    show its.toArray[j]? = some (Value.ref ((ps.map (·.1)).getD j 0)) ∧ PairAt s.heap ((ps.map (·.1)).getD j 0) k v
    rw [hT]
    refine ⟨?_, hpa⟩
    rw [ei, List.getElem?_toArray, List.getElem?_map, hg]
    rfl
  · obtain ⟨q', k', _, _, hk, hi⟩ := f j key v e
    exact ⟨k', hk, hi⟩
  · have hm : (s.heap.objs.size == sysModules) = false := beq_eq_false_iff_ne.mpr (Nat.ne_of_gt I.big)
    have em : mergeK [] (dkI P) = dkI P := merge_dk (by rw [dkI_keys]; exact nd)
    have rk' : KV (dkI P) (merged [] kv) := by
      have := KV.merge (kvs := []) (vs := []) rk .nil
      rw [← eP, em] at this
      exact this
    exact ⟨.ref s.heap.objs.size, upd H s.heap.objs.size (.dK (dkI P)), I.laid (t' := tk) (fun b o e => k b o List.not_mem_nil e) (Nat.le_refl _) (show ObjOk X.prog X.w _ _ _ (.dK (dkI P)) from ⟨hlen, hm, merged [] kv, rk', hd'⟩), rfl, q _ (I.hok.fresh (Nat.le_refl _))⟩
end Fw
namespace Fw
open PySem PySem.Spec PyProof.Rows L2

/-- possible moves, one after another -/
inductive Wlk (n : Int) (D : List (Int × Int)) (P : List (Str × Int)) : List (Str × Int) → List (Str × Int) → Prop
  | nil : Wlk n D P [] P
  | snoc {ms P1 : List (Str × Int)} {nm : Str} {t : Int} : Wlk n D P ms P1 → (nm, t) ∈ mvs n D P1 P1 → Wlk n D P (ms ++ [(nm, t)]) (mvd P1 nm t)
theorem Wlk.keep {n : Int} {D : List (Int × Int)} {P ms P' : List (Str × Int)} (w : Wlk n D P ms P') (pl : Pl n P) : Pl n P' ∧ P'.length = P.length ∧ P'.map (·.1) = P.map (·.1) ∧ (∀ r, r ∈ P'.map (·.2) → r ∈ P.map (·.2)) ∧ ∀ x ∈ ms, Nam x.1 ∧ 0 ≤ x.2 ∧ x.2 < n := by
  induction w with
  | nil => exact ⟨pl, rfl, rfl, fun r hr => hr, fun x hx => absurd hx List.not_mem_nil⟩
  | @snoc ms P1 nm t w hm ih =>
    obtain ⟨i1, i2, i3, i4, i5⟩ := ih
    obtain ⟨c, hc, hr1, hr2⟩ := mvs_mem hm
    obtain ⟨y, hy, ey⟩ := List.mem_map.mp hr2
    have rr : 0 ≤ t ∧ t < n := by rw [← ey]; exact i1.rm y hy
    have nn : Nam nm := i1.nm.nam nm (List.mem_map.mpr ⟨(nm, c), hc, rfl⟩)
    refine ⟨i1.mvd rr.1 rr.2, by rw [mvd_len]; exact i2, by rw [mvd_names]; exact i3, fun r hr => i4 r ?_, fun x hx => ?_⟩
    · obtain ⟨z, hz, rfl⟩ := List.mem_map.mp hr
      obtain ⟨z', hz', rfl⟩ := List.mem_map.mp hz
      show (if z'.1 = nm then t else z'.2) ∈ _
      split
      · exact hr2
      · exact List.mem_map_of_mem (f := (·.2)) hz'
    · rcases List.mem_append.mp hx with hx | hx
      · exact i5 x hx
      · rw [List.mem_singleton.mp hx]
        exact ⟨nn, rr⟩
theorem LsAt.dp {K : PySem.W.Frag} {H : Hp} {l : Addr} {X : List (Str × Int)} (x : LsAt H l X) : Dp K H (.ref l) (.list (X.map pp)) := by
  obtain ⟨ps, h1, h2, h3⟩ := x
  rw [h2]
  exact .lst (SqL.of h1) (dp_pps h3)
theorem mvs_nams {n : Int} {D : List (Int × Int)} {P : List (Str × Int)} (pl : Pl n P) : ∀ x ∈ mvs n D P P, Nam x.1 := fun x hx => by
  obtain ⟨c, hc, _⟩ := mvs_mem (nm := x.1) (t := x.2) hx
  exact pl.nams (x.1, c) hc
section
variable {P : Program} {w : World} {K : PySem.W.Frag} {mg : Str → Option Value} {base : Heap}

def spLWalk : Sp := fun vs H Q _ => ∃ (s A B h p : Addr) (c : Nat) (n : Int) (D : List (Int × Int)) (P : List (Str × Int)) (m : Int), vs = [.ref s, .ref h, .ref p, .int m] ∧ StreamAt H s A B c ∧ c < 2 ^ 30 ∧ HouseAt H h n D ∧ Forest n D ∧ n ≤ 8 ∧ PlD H p P ∧ Pl n P ∧ P.length ≤ 12 ∧ 0 ≤ m ∧ m ≤ 50 ∧
  ∀ H' l t p' ms P', StreamAt H' s A B (c + m.toNat) → Fr s A H H' → H' l = some (.lst [.ref t, .ref p']) → PlD H' t ms → PlD H' p' P' → Wlk n D P ms P' → ms.length ≤ m.toNat → Q (.ref l) H'
abbrev nLWalk : List Str := ["_law_stream_here", "_law_house_here", "_law_placement_here", "_law_many", "_law_done", "_law_k", "_law_some"]
theorem scLWalk : FnScope nLWalk ["_law_stream_here", "_law_house_here", "_law_placement_here", "_law_many"] (defScope sLWalk) := ⟨rfl, rfl, rfl, by decide +kernel, rfl, by decide +kernel, by decide +kernel⟩
theorem ok_lwalk {f : Addr} {fd : FuncData} (F : Fun K "_law_random_walk" "_law_random_walk" sLWalk f fd) (T : Nm mg) (C_law_draw : Cal P w K mg base 2 "_law_draw" pDraw spDraw) (C_law_moves : Cal P w K mg base 2 "_law_moves" pLMoves spLMoves) (C_law_moved : Cal P w K mg base 2 "_law_moved" pLMoved spLMoved) : FnOk P w K mg base CX0 3 f fd pLWalk spLWalk := by
  refine F.ok scLWalk (fun vs H Q E h => ?_) (fun cdv A outer s H vs Q E hr h => ?_)
  · obtain ⟨s, A, B, h, p, c, n, D, P, m, rfl, _⟩ := h
    rfl
  · obtain ⟨s, A, B, h, p, c, n, D, P, m, rfl, hS, hc, hH, hF, n1, hP, pl, lP, m0, m1, q⟩ := h
    refine ⟨_, (pss_cons (ps_set (i := 4) scLWalk.nd rfl (.inl rfl) (pe_lst pa_nil))
      (pss_cons (ps_for PassesOwn.never rfl (pi_range1 (by rfl) T.range (pa_cons (pv 3) pa_nil)) (pg_name (i := 5) scLWalk.nd rfl (.inl rfl))
      (pss_cons (ps_set (i := 6) scLWalk.nd rfl (.inl rfl) (pe_cal C_law_moves hr (by rfl) (pa_cons (pv 1) (pa_cons (pv 2) pa_nil))))
       (pss_one (ps_if (pt_cmpR (op_neDK K rfl hr.units) (pv 6) (pe_lst pa_nil) (nomark _))
       (pss_cons (ps_expr (pe_bm PySem.F.plainAttrs_list PySem.F.slot_list_append PySem.F.type_list_append mt_append (pv 4) (pa_cons (pe_ix (ix_listK K rfl) (pv 6) (pe_cal C_law_draw hr (by rfl) (pa_cons (pv 0) (pa_cons (pe_callB (call_lenK K rfl) (by rfl) T.len (by decide +kernel) (pa_cons (pv 6) pa_nil)) pa_nil))) (fun _ _ => rfl)) pa_nil)))
        (pss_one (ps_set (i := 2) scLWalk.nd rfl (.inl rfl) (pe_cal C_law_moved hr (by rfl) (pa_cons (pv 2) (pa_cons (pe_ix (ix_tupK K rfl) (pe_ix (ix_listK K rfl) (pv 4) (pe_un un_neg pe_int) (fun _ _ => rfl)) pe_int (fun _ _ => rfl)) (pa_cons (pe_ix (ix_tupK K rfl) (pe_ix (ix_listK K rfl) (pv 4) (pe_un un_neg pe_int) (fun _ _ => rfl)) pe_int (fun _ _ => rfl)) pa_nil)))))))
       pss_nil))))
      (pss_one (ps_ret (pe_lst (pa_cons (pe_callTy (call_tupleF K rfl) (by rfl) T.tuple (by decide +kernel) (pa_cons (pv 4) pa_nil)) (pa_cons (pv 2) pa_nil))))))), ?_⟩
    refine ⟨Nat.zero_le _, fun R hR => ?_⟩
    have zR := hS.ne hR
    have sm := same_upd (o := .lst []) hR
    refine ⟨_, rfl, m, rfl, by omega, by omega, for_range (lo := 0) (n := m.toNat) (fun i σ' H' => ∃ (y5 y6 : Option V) (p' : Addr) (ms P' : List (Str × Int)), σ' = [some (.ref s), some (.ref h), some (.ref p'), some (.int m), some (.ref R), y5, y6] ∧ StreamAt H' s A B (c + i) ∧ Fr s A H H' ∧ HouseAt H' h n D ∧ LsAt H' R ms ∧ PlD H' p' P' ∧ Wlk n D P ms P' ∧ ms.length ≤ i)
      ⟨_, _, p, [], P, rfl, hS.same sm, Fr.of sm, hH.same sm, .nil upd_same, hP.same sm, .nil, Nat.le_refl _⟩ ?_ ?_⟩
    · rintro i σ' H1 hi ⟨y5, y6, p', ms, P', rfl, hS1, fr1, hH1, x1, hP1, wl, lm⟩
      obtain ⟨pl', lP', _, _, _⟩ := wl.keep pl
      refine ⟨_, rfl, _, rfl, h, p', n, D, P', rfl, hH1, hF, n1, hP1.pl, by omega, fun H2 l s2 hl x2 => ?_⟩
      have zl := hS1.ne hl
      refine ⟨_, rfl, Nat.zero_le _, fun e he => ?_⟩
      have s3 := s2.trans (same_upd (o := .lst []) he)
      have x3 := x2.same (same_upd (o := .lst []) he)
      refine ⟨.list ((mvs n D P' P').map pp), .list [], x3.dp, .lst (SqL.of upd_same) .nil, pps_shapedL (mvs_nams pl'), shaped_list [], _, rfl, ?_⟩
      rw [eqv_nilP]
      have hS3 := hS1.same s3
      have hH3 := hH1.same s3
      have hP3 := hP1.same s3
      have xR3 := x1.same s3
      have fr3 := fr1.trans (Fr.of s3)
      generalize upd H2 e (.lst []) = H3 at *
      have lmv := mvs_len n D P' P' n1
      by_cases em : (mvs n D P' P').isEmpty = true
      · rw [em]
        refine iteF ?_
        exact ⟨_, _, p', ms, P', rfl, hS3.mono (by omega), fr3, hH3, xR3, hP3, wl, by omega⟩
      · rw [Bool.eq_false_iff.mpr em]
        have l0 : 0 < (mvs n D P' P').length := by
          rw [List.length_pos_iff]
          exact fun e => em (by rw [e]; rfl)
        obtain ⟨xs, sq, lx⟩ := x3.sq (K := K)
        obtain ⟨rs, sqR, _⟩ := xR3.sq (K := K)
        refine iteT ⟨_, rfl, .inl ⟨rfl, _, sqR⟩, _, rfl, _, rfl, _, rfl, l, _, rfl, .inl sq, s, A, B, c + i, _, rfl, hS3, by omega, ?_, ?_, fun H4 v hS4 fr4 v0 v1 => ?_⟩
        · rw [lx]; omega
        · rw [lx]; omega
        rw [lx] at v1
        have x4 := x3.fr hS3 fr4 zl
        obtain ⟨xs', t, nm, r, sq', at', et, mem⟩ := x4.at (K := K) v0 v1
        obtain ⟨acc, a1, a2, a3⟩ := (xR3.fr hS3 fr4 zR).snoc (t := t) et
        refine ⟨l, _, _, _, rfl, rfl, sq', at', R, _, _, rfl, rfl, a1, ?_, ?_⟩
        · rw [a2]
          exact small1000 (by omega)
        have hS5 := hS4.put (o := .lst (acc ++ [.ref t])) zR
        have fr5 := (fr3.trans fr4).put (o := .lst (acc ++ [.ref t])) hR
        have tk5 : Tk H3 (upd H4 R (.lst (acc ++ [.ref t]))) := (Tk.fr fr4 hS3).put a1
        have et5 : (upd H4 R (.lst (acc ++ [.ref t]))) t = some (.tup [.str nm, .int r]) := by
          rw [upd_ne (ne_of et a1 (by intro z; cases z))]
          exact et
        have eR5 : (upd H4 R (.lst (acc ++ [.ref t]))) R = some (.lst (acc ++ [.ref t])) := upd_same
        generalize upd H4 R (.lst (acc ++ [.ref t])) = H5 at *
        refine ⟨_, rfl, _, rfl, _, rfl, R, _, _, _, rfl, rfl, SqL.of eR5, atI_last _ _, t, _, _, _, rfl, rfl, SqT.of et5, atI0, _, rfl, _, rfl, R, _, _, _, rfl, rfl, SqL.of eR5, atI_last _ _, t, _, _, _, rfl, rfl, SqT.of et5, atI1, ?_⟩
        refine ⟨p', P', nm, r, rfl, (hP3.tk tk5).pl, by omega, fun H6 u s6 pu => ?_⟩
        exact ⟨_, _, u, ms ++ [(nm, r)], _, rfl, hS5.same s6, fr5.trans (Fr.of s6), (hH3.tk tk5).same s6, a3.same s6, pu, wl.snoc mem, by rw [List.length_append, List.length_singleton]; omega⟩
    · rintro σ' H1 ⟨y5, y6, p', ms, P', rfl, hS1, fr1, hH1, x1, hP1, wl, lm⟩
      obtain ⟨xs, e1, e2⟩ := x1.tup
      refine ⟨_, rfl, R, _, rfl, SqL.of e1, fun t ob ht od => ⟨_, rfl, by show 2 ≤ sizeLine; decide, fun l hl => ?_⟩⟩
      have s2 := same_upd (o := .frz ob (.tup xs)) ht
      have s3 := same_upd (o := .lst [.ref t, .ref p']) hl
      exact q _ l t p' ms P' (hS1.same (s2.trans s3)) (fr1.trans (Fr.of (s2.trans s3))) upd_same ((e2 t ob ht od).same s3) (hP1.same (s2.trans s3)) wl lm
end
end Fw
namespace Fw
open PySem PySem.Spec PyProof.Rows L2

theorem put_new {G : List (Str × Int)} {nm : Str} {v : Int} (h : nm ∉ G.map (·.1)) : putK (dkI G) (Sum.inr nm) (.int v) = dkI (G ++ [(nm, v)]) := by
  rw [putK_new _ (valV_dkI_none h)]
  unfold dkI dk
  rw [List.map_append, List.map_append]
  rfl
theorem put_old {G : List (Str × Int)} {nm : Str} {v : Int} (h : nm ∈ G.map (·.1)) : putK (dkI G) (Sum.inr nm) (.int v) = dkI (mvd G nm v) := by
  unfold putK
  rw [if_pos]
  · unfold dkI dk mvd
    rw [List.map_map, List.map_map, List.map_map, List.map_map]
    refine List.map_congr_left fun x _ => ?_
    show (if (Sum.inr x.1 : Key) = Sum.inr nm then (Sum.inr x.1, V.int v) else (Sum.inr x.1, V.int x.2)) = (Sum.inr x.1, V.int (if x.1 = nm then v else x.2))
    by_cases c : x.1 = nm
    · rw [if_pos (by rw [c]), if_pos c]
    · rw [if_neg (fun e => c (Sum.inr.inj e)), if_neg c]
  · obtain ⟨x, hx, e⟩ := List.mem_map.mp h
    rw [List.any_eq_true]
    refine ⟨(Sum.inr x.1, V.int x.2), ?_, decide_eq_true (by rw [← e])⟩
    unfold dkI dk
    rw [List.map_map]
    exact List.mem_map.mpr ⟨x, hx, rfl⟩
theorem dkI_len (G : List (Str × Int)) : (dkI G).length = G.length := by
  unfold dkI
  rw [dk_len, List.length_map]
def InR (n : Int) (G : List (Str × Int)) : Prop := ∀ x ∈ G, 0 ≤ x.2 ∧ x.2 < n
theorem InR.mvd {n : Int} {G : List (Str × Int)} (h : InR n G) {nm : Str} {v : Int} (h0 : 0 ≤ v) (h1 : v < n) : InR n (mvd G nm v) := fun x hx => by
  obtain ⟨y, hy, rfl⟩ := List.mem_map.mp hx
  show 0 ≤ (if y.1 = nm then v else y.2) ∧ (if y.1 = nm then v else y.2) < n
  split
  · exact ⟨h0, h1⟩
  · exact h y hy
theorem InR.snoc {n : Int} {G : List (Str × Int)} (h : InR n G) {nm : Str} {v : Int} (h0 : 0 ≤ v) (h1 : v < n) : InR n (G ++ [(nm, v)]) := fun x hx => by
  rcases List.mem_append.mp hx with hx | hx
  · exact h x hx
  · rw [List.mem_singleton.mp hx]
    exact ⟨h0, h1⟩
theorem key_val {G : List (Str × Int)} {nm : Str} (h : nm ∈ G.map (·.1)) : ∃ r, (nm, r) ∈ G := by
  obtain ⟨x, hx, e⟩ := List.mem_map.mp h
  exact ⟨x.2, by rw [← e]; exact hx⟩
theorem two_at {a b : Int} {k : Bool} : ∃ v, atI [V.int a, V.int b] (if k = true then 1 else 0) = some (.int v) ∧ (v = a ∨ v = b) := by
  cases k with
  | true => exact ⟨b, atI1, .inr rfl⟩
  | false => exact ⟨a, atI0, .inl rfl⟩
theorem at_str {xs : List Str} {r : Int} (h0 : 0 ≤ r) (h1 : r < (xs.length : Nat)) : ∃ x, x ∈ xs ∧ atI (xs.map V.str) r = some (V.str x) := by
  have hj : r.toNat < xs.length := by omega
  refine ⟨xs[r.toNat], List.getElem_mem hj, ?_⟩
  have := atI_nat (xs := xs.map V.str) (j := r.toNat) (v := V.str xs[r.toNat]) (by rw [List.getElem?_map, List.getElem?_eq_getElem hj]; rfl)
  rw [show ((r.toNat : Nat) : Int) = r by omega] at this
  exact this
section
variable {P : Program} {w : World} {K : PySem.W.Frag} {mg : Str → Option Value} {base : Heap}

def spLTarget : Sp := fun vs H Q _ => ∃ (s A B h p : Addr) (c : Nat) (n : Int) (D : List (Int × Int)) (P : List (Str × Int)), vs = [.ref s, .ref h, .ref p] ∧ StreamAt H s A B c ∧ c < 2 ^ 29 ∧ HouseAt H h n D ∧ Forest n D ∧ 1 ≤ n ∧ n ≤ 8 ∧ PlD H p P ∧ Pl n P ∧ P.length ≤ 12 ∧
  ∀ H' t G, StreamAt H' s A B (c + 80) → Fr s A H H' → PlD H' t G → Pl n G → G.map (·.1) = P.map (·.1) → Q (.ref t) H'
abbrev nLTarget : List Str := ["_law_stream_here", "_law_house_here", "_law_placement_here", "_law_way", "_law_held", "_law_found", "_law_name", "_law_room", "_law_region", "_law_some", "_law_one", "_law_names_here", "_law_other", "_law_own"]
theorem scLTarget : FnScope nLTarget ["_law_stream_here", "_law_house_here", "_law_placement_here"] (defScope sLTarget) := ⟨rfl, rfl, rfl, by decide +kernel, rfl, by decide +kernel, by decide +kernel⟩
theorem ok_ltarget {f : Addr} {fd : FuncData} (F : Fun K "_law_target" "_law_target" sLTarget f fd) (T : Nm mg) (Tdict : mg "dict" = none) (C_law_draw : Cal P w K mg base 3 "_law_draw" pDraw spDraw) (C_law_random_walk : Cal P w K mg base 3 "_law_random_walk" pLWalk spLWalk) (C_law_connected : Cal P w K mg base 3 "_law_connected" pConn (spConn K)) (C_law_neighbors : Cal P w K mg base 3 "_law_neighbors" pLNb spLNb) : FnOk P w K mg base CX0 4 f fd pLTarget spLTarget := by
  refine F.ok scLTarget (fun vs H Q E h => ?_) (fun cdv A outer s H vs Q E hr h => ?_)
  · obtain ⟨s, A, B, h, p, c, n, D, P, rfl, _⟩ := h
    rfl
  · obtain ⟨s, A, B, h, p, c, n, D, P, rfl, hS, hc, hH, hF, n0, n1, hP, pl, lP, q⟩ := h
    refine ⟨_, (pss_cons (ps_set (i := 3) scLTarget.nd rfl (.inl rfl) (pe_cal C_law_draw hr (by rfl) (pa_cons (pv 0) (pa_cons pe_int pa_nil))))
      (pss_cons (ps_if (PW.pt (pw_or (pt_cmpR (op_eqDK K rfl hr.units) (pv 2) (pe_tup pa_nil) (nomark _)) (pw_or1 (pt_cmpR op_eq (pv 3) pe_int (nomark _)))))
      (pss_one (ps_ret (pe_ix (ix_listK K rfl) (pe_cal C_law_random_walk hr (by rfl) (pa_cons (pv 0) (pa_cons (pv 1) (pa_cons (pv 2) (pa_cons (pe_cal C_law_draw hr (by rfl) (pa_cons (pv 0) (pa_cons pe_int pa_nil))) pa_nil))))) pe_int (fun _ _ => rfl))))
      pss_nil)
      (pss_cons (ps_asg (pe_tup (pa_cons (pe_lc (own := [("_law_name", 6), ("_law_room", 7)]) (g := gTup K 2 (gCons (gName 6) (gCons (gName 7) gNil))) (by rfl) scLTarget.nd (pi_tupK K rfl (pv 2))
 (blkOk_by (own := [("_law_name", 6), ("_law_room", 7)]) (N := nLTarget) (sc := defScope sLTarget) (by decide +kernel))
 (fun _ _ _ _ _ => (pg_tup (by rfl) (pgs_cons (pg_name (i := 6) scLTarget.nd rfl (.inl rfl)) (pgs_cons (pg_name (i := 7) scLTarget.nd rfl (.inl rfl)) pgs_nil)))) (fun _ _ _ _ _ => pts_nil) (fun _ _ _ _ _ => (pv 7))) (pa_cons pe_dnewK pa_nil))) (pg_tup (by rfl) (pgs_cons (pg_name (i := 4) scLTarget.nd rfl (.inl rfl)) (pgs_cons (pg_name (i := 5) scLTarget.nd rfl (.inr rfl)) pgs_nil))))
      (pss_cons (ps_for PassesOwn.never rfl (pi_tupK K rfl (pv 2)) (pg_tup (by rfl) (pgs_cons (pg_name (i := 6) scLTarget.nd rfl (.inl rfl)) (pgs_cons (pg_name (i := 7) scLTarget.nd rfl (.inl rfl)) pgs_nil)))
      (pss_cons (ps_set (i := 8) scLTarget.nd rfl (.inr rfl) (pe_cal C_law_connected hr (by rfl) (pa_cons (pv 1) (pa_cons (pv 4) (pa_cons (pv 7) pa_nil)))))
       (pss_cons (ps_set (i := 9) scLTarget.nd rfl (.inl rfl) (pe_op op_cat (pe_lc (own := [("_law_one", 10)]) (g := gName 10) (by rfl) scLTarget.nd (pi_listK K rfl (pe_cal C_law_neighbors hr (by rfl) (pa_cons (pv 1) (pa_cons (pv 7) pa_nil))))
 (blkOk_by (own := [("_law_one", 10)]) (N := nLTarget) (sc := defScope sLTarget) (by decide +kernel))
 (fun _ _ _ _ _ => (pg_name (i := 10) scLTarget.nd rfl (.inl rfl))) (fun _ _ _ _ _ => pts_one (pt_cmpR (op_inK K rfl) (pv 10) (pv 8) (by rfl))) (fun _ _ _ _ _ => (pv 10))) (pe_lst (pa_cons (pv 7) pa_nil))))
       (pss_cons (ps_asg (pe_ix (ix_listK K rfl) (pe_lst (pa_cons (pv 7) (pa_cons (pe_ix (ix_listK K rfl) (pv 9) (pe_cal C_law_draw hr (by rfl) (pa_cons (pv 0) (pa_cons (pe_callB (call_lenK K rfl) (by rfl) T.len (by decide +kernel) (pa_cons (pv 9) pa_nil)) pa_nil))) (fun _ _ => rfl)) pa_nil))) (pe_callTy call_int1 (by rfl) T.int (by decide +kernel) (pa_cons (pe_cmpR op_eq (pe_cal C_law_draw hr (by rfl) (pa_cons (pv 0) (pa_cons pe_int pa_nil))) pe_int (nomark _)) pa_nil)) (fun _ _ => rfl)) (pg_sub (pv 5) (pv 6) (set_dict (hu_of hr))))
       (pss_cons (ps_if (PW.pt (pw_or (pt_cmpR op_eq (pv 3) pe_int (nomark _)) (pw_or1 (pt_cmpR op_eq (pv 3) pe_int (nomark _)))))
       (pss_one (ps_asg (pe_ix (ix_tupK K rfl) (pv 8) (pe_cal C_law_draw hr (by rfl) (pa_cons (pv 0) (pa_cons (pe_callB (call_lenK K rfl) (by rfl) T.len (by decide +kernel) (pa_cons (pv 8) pa_nil)) pa_nil))) (fun _ _ => rfl)) (pg_sub (pv 5) (pv 6) (set_dict (hu_of hr)))))
       pss_nil)
       (pss_one (ps_if (PW.pt (pw_and (pt_cmpR op_eq (pv 3) pe_int (nomark _)) (pw_and1 (pt_cmpR op_eq (pe_cal C_law_draw hr (by rfl) (pa_cons (pv 0) (pa_cons pe_int pa_nil))) pe_int (nomark _)))))
       (pss_one (ps_asg (pe_cal C_law_draw hr (by rfl) (pa_cons (pv 0) (pa_cons (pe_ix (ix_tupK K rfl) (pv 1) pe_int (fun _ _ => rfl)) pa_nil))) (pg_sub (pv 5) (pv 6) (set_dict (hu_of hr)))))
       pss_nil)))))))
      (pss_cons (ps_set (i := 11) scLTarget.nd rfl (.inl rfl) (pe_callB (call_sortedD rfl) (by rfl) T.sorted (by decide +kernel) (pa_cons (pv 5) pa_nil)))
      (pss_cons (ps_par (i := 10) (j := 12) (by rfl) scLTarget.nd rfl rfl (by decide) rfl rfl (pa_cons (pe_ix (ix_listK K rfl) (pv 11) (pe_cal C_law_draw hr (by rfl) (pa_cons (pv 0) (pa_cons (pe_callB (call_lenK K rfl) (by rfl) T.len (by decide +kernel) (pa_cons (pv 11) pa_nil)) pa_nil))) (fun _ _ => rfl)) (pa_cons (pe_ix (ix_listK K rfl) (pv 11) (pe_cal C_law_draw hr (by rfl) (pa_cons (pv 0) (pa_cons (pe_callB (call_lenK K rfl) (by rfl) T.len (by decide +kernel) (pa_cons (pv 11) pa_nil)) pa_nil))) (fun _ _ => rfl)) pa_nil)) (by rfl))
      (pss_cons (ps_set (i := 13) scLTarget.nd rfl (.inl rfl) (pe_cal C_law_connected hr (by rfl) (pa_cons (pv 1) (pa_cons (pv 4) (pa_cons (pe_dget (hu_of hr) (pe_callTy (call_dictT rfl) (by rfl) Tdict (by decide +kernel) (pa_cons (pv 2) pa_nil)) (pv 10) (fun _ _ => rfl)) pa_nil)))))
      (pss_cons (ps_if (PW.pt (pw_and (pt_cmpR op_gt (pv 3) pe_int (nomark _)) (pw_and1 (pt_cmpR (op_inK K rfl) (pe_dget (hu_of hr) (pv 5) (pv 12) (fun _ _ => rfl)) (pv 13) (by rfl)))))
      (pss_one (ps_asg (pe_tup (pa_cons (pe_dget (hu_of hr) (pv 5) (pv 12) (fun _ _ => rfl)) (pa_cons (pe_dget (hu_of hr) (pv 5) (pv 10) (fun _ _ => rfl)) pa_nil))) (pg_tup (by rfl) (pgs_cons (pg_sub (pv 5) (pv 10) (set_dict (hu_of hr))) (pgs_cons (pg_sub (pv 5) (pv 12) (set_dict (hu_of hr))) pgs_nil)))))
      pss_nil)
      (pss_one (ps_ret (pe_callTy (call_tupleF K rfl) (by rfl) T.tuple (by decide +kernel) (pa_cons (pe_lc (own := [("_law_name", 6)]) (g := gName 6) (by rfl) scLTarget.nd (pi_listK K rfl (pv 11))
 (blkOk_by (own := [("_law_name", 6)]) (N := nLTarget) (sc := defScope sLTarget) (by decide +kernel))
 (fun _ _ _ _ _ => (pg_name (i := 6) scLTarget.nd rfl (.inl rfl))) (fun _ _ _ _ _ => pts_nil) (fun _ _ _ _ _ => (pe_tup (pa_cons (pv 6) (pa_cons (pe_dget (hu_of hr) (pv 5) (pv 6) (fun _ _ => rfl)) pa_nil))))) pa_nil)))))))))))), ?_⟩
    refine ⟨_, rfl, s, A, B, c, _, rfl, hS, by omega, by decide, by decide, fun H1 way hS1 fr1 w0 w1 => ?_⟩
    have hH1 := hH.fr hS fr1
    have hP1 := hP.fr hS fr1
    dsimp only [gName]
    refine if_by (fun b H' => StreamAt H' s A B (c + 1) ∧ Fr s A H H' ∧ HouseAt H' h n D ∧ PlD H' p P ∧ (b = false → P ≠ [])) ?_ ?_ ?_
    · rintro H2 ⟨hS2, fr2, hH2, hP2, _⟩
      refine ⟨_, rfl, _, rfl, _, rfl, _, rfl, s, A, B, c + 1, _, rfl, hS2, by omega, by decide, by decide, fun H3 m hS3 fr3 m0 m1 => ?_⟩
      refine ⟨s, A, B, h, p, c + 1 + 1, n, D, P, m, rfl, hS3, by omega, hH2.fr hS2 fr3, hF, n1, hP2.fr hS2 fr3, pl, lP, m0, by omega, fun H4 l t p' ms P' hS4 fr4 el pt pp wl lm => ?_⟩
      obtain ⟨pl', _, nm', _, _⟩ := wl.keep pl
      refine ⟨l, _, _, _, rfl, rfl, SqL.of el, atI1, q _ p' P' (hS4.mono (by omega)) ((fr2.trans fr3).trans fr4) pp pl' nm'⟩
    · rintro H2 ⟨hS2, fr2, hH2, hP2, ne⟩
      have ne := ne rfl
      have lp0 : 0 < P.length := List.length_pos_iff.mpr ne
      -- held, found = [room ..], {}
      refine ⟨_, rfl, p, rfl, hP2.pl.sq, fun L hL => lc_pl hP2.pl (fun i H' => Same H2 H' ∧ H' L = some (.lst (vi ((P.take i).map (·.2))))) ⟨same_upd hL, upd_same⟩ (fun _ _ h => Tk.of h.1) ?_ ?_⟩
      · rintro k nm r H3 hk ⟨s3, e3⟩
        refine ⟨rfl, ?_⟩
        unfold tYes
        refine iteT ⟨_, rfl, _, e3, ?_, same_put s3 hL, ?_⟩
        · rw [List.length_map, List.length_map, List.length_take]
          exact small1000 (by omega)
        · rw [upd_same, rooms_snoc hk, vi_app]
          rfl
      rintro H3 ⟨s3, e3⟩ fo hfo
      rw [List.take_length] at e3
      have zL := hS2.ne hL
      have gL := fr2.free hS2 hL
      have zF := (hS2.same s3).ne hfo
      have gF := (fr2.trans (Fr.of s3)).free (hS2.same s3) hfo
      have nLF : L ≠ fo := ne_of_none e3 hfo
      refine ⟨by show 2 ≤ sizeLine; decide, fun t ht => ⟨t, _, rfl, SqT.of upd_same, rfl, _, _, rfl, _, _, rfl, rfl, ?_⟩⟩
      have s4 := (s3.trans (same_upd (o := .dK []) hfo)).trans (same_upd (o := .tup [.ref L, .ref fo]) ht)
      have eL4 := same_upd (o := .tup [.ref L, .ref fo]) ht _ _ (same_upd (o := .dK []) hfo _ _ e3)
      have eF4 : (upd (upd H3 fo (.dK [])) t (.tup [.ref L, .ref fo])) fo = some (.dK []) := same_upd ht _ _ upd_same
      generalize upd (upd H3 fo (.dK [])) t (.tup [.ref L, .ref fo]) = H4 at *
      have hS4 := hS2.same s4
      have fr4 := fr2.trans (Fr.of s4)
      have hP4 := hP2.same s4
      clear ht hfo e3 s3 hL hP2 hH2 fr2
      have bound : ∀ {r : Int} {l : List Int}, r ∈ P.map (·.2) → IsC D (P.map (·.2)) r l → ∀ x ∈ l, 0 ≤ x ∧ x < n := fun {r l} hr il x hx => by
        have := il.sub hr x hx
        obtain ⟨y, hy, ey⟩ := List.mem_map.mp this
        rw [← ey]
        exact pl.rm y hy
      refine ⟨_, rfl, p, rfl, hP4.pl.sq, for_pl hP.pl (fun k σ' H' => ∃ (y6 y7 y8 y9 y10 y11 y12 y13 : Option V) (c' : Nat) (G : List (Str × Int)), σ' = [some (.ref s), some (.ref h), some (.ref p), some (.int way), some (.ref L), some (.ref fo), y6, y7, y8, y9, y10, y11, y12, y13] ∧ StreamAt H' s A B c' ∧ c' ≤ c + 1 + 5 * k ∧ Fr s A H H' ∧
          H' L = some (.lst (vi (P.map (·.2)))) ∧ H' fo = some (.dK (dkI G)) ∧ G.map (·.1) = (P.take k).map (·.1) ∧ InR n G)
        ⟨_, _, _, _, _, _, _, _, c + 1, [], rfl, hS4, by omega, fr4, eL4, eF4, rfl, fun x hx => absurd hx List.not_mem_nil⟩ ?_ ?_ ?_⟩
      · rintro k σ' H' ⟨_, _, _, _, _, _, _, _, _, _, _, _, _, fr', _⟩
        exact Tk.fr fr' hS
      · rintro k nm r σ' H5 hk ⟨y6, y7, y8, y9, y10, y11, y12, y13, c5, G, rfl, hS5, hc5, fr5, eL5, eF5, gn, gr⟩
        have mk' := List.mem_of_getElem? hk
        have rr := pl.rm _ mk'
        have mr := List.mem_map_of_mem (f := (·.2)) mk'
        have lk := lt_of_get hk
        have hH5 := hH.fr hS fr5
        have lG : G.length = k := by
          have := congrArg List.length gn
          rw [List.length_map, List.length_map, List.length_take] at this
          omega
        have nnew : nm ∉ G.map (·.1) := by
          rw [gn]
          intro m
          obtain ⟨j, hj, ej⟩ := List.mem_iff_getElem.mp m
          rw [List.length_map, List.length_take] at hj
          have h0 := (List.pairwise_iff_getElem.mp (List.nodup_iff_pairwise_ne.mp pl.nodup)) j k (by rw [List.length_map]; omega) (by rw [List.length_map]; exact lk) (by omega)
          have h2 : (P.map (·.1))[k]'(by rw [List.length_map]; exact lk) = nm := by
            have : (P.map (·.1))[k]? = some nm := by rw [List.getElem?_map, hk]; rfl
            exact (List.getElem?_eq_some_iff.mp this).2
          rw [h2] at h0
          rw [List.getElem_map, List.getElem_take] at ej
          rw [List.getElem_map] at h0
          exact h0 ej
        -- region, some
        refine ⟨_, rfl, _, rfl, _, rfl, h, L, n, D, P.map (·.2), r, rfl, hH5, hF, n1, .inl (SqL.of eL5), rr.1, rr.2, fun H6 tr l s6 e6 il ll => ?_⟩
        refine ⟨_, rfl, _, rfl, h, n, D, r, rfl, hH5.same s6, hF, fun H7 ln s7 hln e7 => ?_⟩
        refine ⟨ln, rfl, ⟨_, SqL.of e7⟩, fun M hM => lc_list (K := K) (a := ln) (xs := vi (nb n D r)) (fun i H' => Same H7 H' ∧ H' M = some (.lst (vi (((nb n D r).take i).filter fun t => decide (t ∈ l))))) ⟨same_upd hM, upd_same⟩ (fun i H' _ hh => SqL.of (hh.1 _ _ e7)) ?_ ?_⟩
        · rintro i x H8 hx ⟨s8, e8⟩
          obtain ⟨v, hv, rfl⟩ := get_vi hx
          refine ⟨rfl, _, rfl, _, rfl, tr, _, rfl, .inr (SqT.of (s8 _ _ (s7 _ _ e6))), rfl, flat_vi _, _, rfl, ?_⟩
          rw [if_neg (by decide), inV_vi, take_snoc hv, filter_snoc]
          refine ite2 (fun z => ?_) (fun z => ?_)
          · rw [if_pos z]
            refine ⟨_, rfl, _, e8, ?_, same_put s8 hM, ?_⟩
            · rw [List.length_map]
              have h1 := List.length_filter_le (fun t => decide (t ∈ l)) ((nb n D r).take i)
              have h2 := nb_len n D r
              rw [List.length_take] at h1
              exact small1000 (by omega)
            · rw [upd_same, vi_app]
              rfl
          · rw [if_neg z, List.append_nil]
            exact ⟨s8, e8⟩
        rintro H8 ⟨s8, e8⟩
        rw [List.length_map, List.take_length] at e8
        refine ⟨_, rfl, by show 1 ≤ sizeLine; decide, fun O hO => ?_⟩
        have s9 := same_upd (o := .lst [.int r]) hO
        have lf : ((nb n D r).filter fun t => decide (t ∈ l)).length ≤ 8 := by
          have h1 := List.length_filter_le (fun t => decide (t ∈ l)) (nb n D r)
          have h2 := nb_len n D r
          omega
        refine ⟨M, O, _, _, rfl, rfl, s9 _ _ e8, upd_same, ?_, fun N hN => ?_⟩
        · rw [List.length_map]
          exact Nat.le_of_lt (small1000 (by show _ + 1 ≤ _; omega))
        have s10 := (s6.trans (s7.trans (s8.trans s9))).trans (same_upd (o := .lst (vi ((nb n D r).filter fun t => decide (t ∈ l)) ++ [.int r])) hN)
        have zN := (hS5.same (s6.trans (s7.trans (s8.trans s9)))).ne hN
        have eN10 : (upd (upd H8 O (.lst [.int r])) N (.lst (vi ((nb n D r).filter fun t => decide (t ∈ l)) ++ [.int r]))) N = some (.lst (vi ((nb n D r).filter (fun t => decide (t ∈ l)) ++ [r]))) := by rw [upd_same, vi_app]; rfl
        have et10 := ((s7.trans (s8.trans s9)).trans (same_upd (o := .lst (vi ((nb n D r).filter fun t => decide (t ∈ l)) ++ [.int r])) hN)) _ _ e6
        generalize upd (upd H8 O (.lst [.int r])) N (.lst (vi ((nb n D r).filter fun t => decide (t ∈ l)) ++ [.int r])) = H10 at *
        have smr : ∀ x ∈ (nb n D r).filter (fun t => decide (t ∈ l)) ++ [r], 0 ≤ x ∧ x < n := fun x hx => by
          rcases List.mem_append.mp hx with hx | hx
          · exact (mem_nb.mp (List.mem_filter.mp hx).1).1
          · rw [List.mem_singleton.mp hx]
            exact rr
        generalize hsm : (nb n D r).filter (fun t => decide (t ∈ l)) ++ [r] = some' at *
        have lsm : 0 < some'.length ∧ some'.length ≤ 9 := by
          rw [← hsm, List.length_append, List.length_singleton]
          omega
        have hS10 := hS5.same s10
        have fr10 := fr5.trans (Fr.of s10)
        have eL10 := s10 _ _ eL5
        have eF10 := s10 _ _ eF5
        clear hsm s10 e8 s8 s9 hO hN hM hln e7 s7 s6 e6
        -- found[name] = [room, some[draw]][int(draw(3) == 0)]
        refine ⟨_, rfl, _, rfl, _, rfl, _, rfl, N, _, rfl, .inl (SqL.of eN10), s, A, B, c5, _, rfl, hS10, by omega, ?_, ?_, fun H11 v hS11 fr11 v0 v1 => ?_⟩
        · rw [List.length_map]; omega
        · rw [List.length_map]; omega
        rw [List.length_map] at v1
        obtain ⟨x, hx, ex⟩ := atI_in v0 v1
        have xr := smr x hx
        have tk11 := Tk.fr fr11 hS10
        refine ⟨N, _, _, _, rfl, rfl, SqL.of (fr11 _ _ zN.1.symm zN.2.1.symm eN10), ex, by show 2 ≤ sizeLine; decide, fun a ha => ?_⟩
        have za := hS11.ne ha
        have s12 := same_upd (o := .lst [.int r, .int x]) ha
        refine ⟨_, rfl, s, A, B, c5 + 1, _, rfl, hS11.same s12, by omega, by decide, by decide, fun H13 u hS13 fr13 _ _ => ⟨rfl, .inr ⟨_, rfl, ?_⟩⟩⟩
        have ea := fr13 a _ za.1.symm za.2.1.symm upd_same
        obtain ⟨v2, ev2, ov2⟩ := two_at (a := r) (b := x) (k := decide (V.int u = V.int 0))
        have v2r : 0 ≤ v2 ∧ v2 < n := by
          rcases ov2 with e | e
          · rw [e]; exact rr
          · rw [e]; exact xr
        have fr13' : Fr s A H H13 := ((fr10.trans fr11).trans (Fr.of s12)).trans fr13
        have eL13 := fr13 _ _ zL.1.symm zL.2.1.symm (s12 _ _ (fr11 _ _ zL.1.symm zL.2.1.symm eL10))
        have eF13 := fr13 _ _ zF.1.symm zF.2.1.symm (s12 _ _ (fr11 _ _ zF.1.symm zF.2.1.symm eF10))
        have et13 := (Tk.fr fr13 (hS11.same s12)).t (s12 _ _ (tk11.t et10))
        refine ⟨a, _, _, _, rfl, rfl, SqL.of ea, ev2, _, rfl, _, rfl, fo, _, rfl, DPut.k (k := Sum.inr nm) eF13 (by rw [dkI_len, lG]; exact small1000 (by omega)), ?_⟩
        rw [put_new nnew]
        have hS14 := hS13.put (o := .dK (dkI (G ++ [(nm, v2)]))) zF
        have fr14 := fr13'.put (o := .dK (dkI (G ++ [(nm, v2)]))) gF
        have eL14 : (upd H13 fo (.dK (dkI (G ++ [(nm, v2)])))) L = _ := (upd_ne nLF).trans eL13
        have eF14 : (upd H13 fo (.dK (dkI (G ++ [(nm, v2)])))) fo = _ := upd_same
        have et14 : (upd H13 fo (.dK (dkI (G ++ [(nm, v2)])))) tr = some (.tup (vi l)) := by
          rw [upd_ne (ne_of et13 eF13 (by intro z; cases z))]
          exact et13
        generalize upd H13 fo (.dK (dkI (G ++ [(nm, v2)]))) = H14 at *
        have gn1 : (G ++ [(nm, v2)]).map (·.1) = (P.take (k + 1)).map (·.1) := by
          rw [List.map_append, gn, take_snoc hk, List.map_append]
          rfl
        have gr1 : InR n (G ++ [(nm, v2)]) := gr.snoc v2r.1 v2r.2
        have in1 : nm ∈ (G ++ [(nm, v2)]).map (·.1) := by
          rw [List.map_append, List.mem_append]
          exact .inr (List.mem_singleton.mpr rfl)
        have lG1 : (G ++ [(nm, v2)]).length = k + 1 := by rw [List.length_append, lG]; rfl
        generalize hG1 : G ++ [(nm, v2)] = G1 at *
        clear hG1 eL13 eF13 et13 fr13 fr13' hS13 ea s12 ha hS11 fr11 tk11 ex hx
        clear gn gr nnew eN10 et10 hS10 fr10 eL10 eF10
        -- if way == 1 or way == 2
        dsimp only
        refine seq_by (a := tIfS _ _ _) (fun σ' H' => ∃ (G : List (Str × Int)), σ' = [some (.ref s), some (.ref h), some (.ref p), some (.int way), some (.ref L), some (.ref fo), some (.str nm), some (.int r), some (.ref tr), some (.ref N), y10, y11, y12, y13] ∧ StreamAt H' s A B (c5 + 3) ∧ Fr s A H H' ∧ H' L = some (.lst (vi (P.map (·.2)))) ∧ H' fo = some (.dK (dkI G)) ∧ G.map (·.1) = (P.take (k + 1)).map (·.1) ∧ InR n G) ?_ ?_
        · intro NN hNN
          refine if_by (fun _ H' => H' = H14) ?_ ?_ ?_
          · rintro H15 rfl
            have l0 : 0 < l.length := List.length_pos_of_mem il.has
            refine ⟨_, rfl, _, rfl, _, rfl, tr, _, rfl, .inr (SqT.of et14), s, A, B, c5 + 1 + 1, _, rfl, hS14, by omega, ?_, ?_, fun H16 v' hS16 fr16 v0' v1' => ?_⟩
            · rw [List.length_map]; omega
            · rw [List.length_map]; omega
            rw [List.length_map] at v1'
            obtain ⟨x', hx', ex'⟩ := atI_in v0' v1'
            have xr' := bound mr il x' hx'
            have eF16 := fr16 _ _ zF.1.symm zF.2.1.symm eF14
            refine ⟨tr, _, _, _, rfl, rfl, SqT.of ((Tk.fr fr16 hS14).t et14), ex', _, rfl, _, rfl, fo, _, rfl, DPut.k (k := Sum.inr nm) eF16 (by rw [dkI_len, lG1]; exact small1000 (by omega)), ?_⟩
            rw [put_old in1]
            refine hNN _ _ ⟨_, rfl, hS16.put zF, (fr14.trans fr16).put gF, ?_, upd_same, by rw [mvd_names]; exact gn1, gr1.mvd xr'.1 xr'.2⟩
            rw [upd_ne nLF]
            exact fr16 _ _ zL.1.symm zL.2.1.symm eL14
          · rintro H15 rfl
            exact hNN _ _ ⟨_, rfl, hS14.mono (by omega), fr14, eL14, eF14, gn1, gr1⟩
          · intro Q' hQ'
            refine ⟨_, rfl, rfl, _, rfl, ?_⟩
            refine ite2 (fun _ => ?_) (fun _ => ?_)
            · exact hQ' _ _ rfl
            · exact ⟨_, rfl, rfl, _, rfl, hQ' _ _ rfl⟩
        clear eL14 eF14 gn1 gr1 in1 lG1 hS14 fr14 et14
        rintro σ' H15 ⟨G2, rfl, hS15, fr15, eL15, eF15, gn2, gr2⟩
        have hH15 := hH.fr hS fr15
        obtain ⟨qd, eh15⟩ := hH15.room0
        have in2 : nm ∈ G2.map (·.1) := by
          rw [gn2, take_snoc hk, List.map_append, List.mem_append]
          exact .inr (List.mem_singleton.mpr rfl)
        have lG2 : G2.length = k + 1 := by
          have := congrArg List.length gn2
          rw [List.length_map, List.length_map, List.length_take] at this
          omega
        refine if_by (fun _ H' => StreamAt H' s A B (c5 + 4) ∧ Fr s A H H' ∧ H' L = some (.lst (vi (P.map (·.2)))) ∧ H' fo = some (.dK (dkI G2)) ∧ HouseAt H' h n D) ?_ ?_ ?_
        · rintro H16 ⟨hS16, fr16, eL16, eF16, hH16⟩
          obtain ⟨qd, eh16⟩ := hH16.room0
          refine ⟨_, rfl, _, rfl, h, _, _, _, rfl, rfl, SqT.of eh16, atI0, s, A, B, c5 + 4, n, rfl, hS16, by omega, by omega, by omega, fun H17 v' hS17 fr17 v0' v1' => ?_⟩
          have eF17 := fr17 _ _ zF.1.symm zF.2.1.symm eF16
          refine ⟨_, rfl, _, rfl, fo, _, rfl, DPut.k (k := Sum.inr nm) eF17 (by rw [dkI_len, lG2]; exact small1000 (by omega)), ?_⟩
          rw [put_old in2]
          refine ⟨_, _, _, _, _, _, _, _, c5 + 5, _, rfl, hS17.put zF, by omega, (fr16.trans fr17).put gF, ?_, upd_same, by rw [mvd_names]; exact gn2, gr2.mvd v0' v1'⟩
          rw [upd_ne nLF]
          exact fr17 _ _ zL.1.symm zL.2.1.symm eL16
        · rintro H16 ⟨hS16, fr16, eL16, eF16, hH16⟩
          exact ⟨_, _, _, _, _, _, _, _, c5 + 4, G2, rfl, hS16, by omega, fr16, eL16, eF16, gn2, gr2⟩
        · intro Q' hQ'
          refine ⟨_, rfl, rfl, _, rfl, ?_⟩
          refine ite2 (fun _ => ?_) (fun _ => ?_)
          · refine ⟨_, rfl, s, A, B, c5 + 3, _, rfl, hS15, by omega, by decide, by decide, fun H16 v' hS16 fr16 _ _ => ⟨rfl, _, rfl, ?_⟩⟩
            exact hQ' _ _ ⟨hS16, fr15.trans fr16, fr16 _ _ zL.1.symm zL.2.1.symm eL15, fr16 _ _ zF.1.symm zF.2.1.symm eF15, hH15.fr hS15 fr16⟩
          · exact hQ' _ _ ⟨hS15.mono (by omega), fr15, eL15, eF15, hH15⟩
      · rintro σ' H5 ⟨y6, y7, y8, y9, y10, y11, y12, y13, c5, G, rfl, hS5, hc5, fr5, eL5, eF5, gn, gr⟩
        rw [List.take_length] at gn
        have ndG : (G.map (·.1)).Nodup := by rw [gn]; exact pl.nodup
        have lG : G.length = P.length := by
          have := congrArg List.length gn
          rw [List.length_map, List.length_map] at this
          exact this
        have hH5 := hH.fr hS fr5
        have hP5 := hP.fr hS fr5
        -- names_here = sorted(found)
        refine ⟨_, rfl, fo, _, G.map (·.1), rfl, .inl eF5, ?_, ?_, fun ys py hp hs hpy => ?_⟩
        · unfold dkI
          rw [dk_keys, dkI_keys]
        · rw [List.length_map]
          omega
        have eys : ys = P.map (·.1) := by
          rw [gn] at hp
          exact sorted_same pl.nm hp hs
        subst eys
        have zY := hS5.ne hpy
        have s6 := same_upd (o := .lst ((P.map (·.1)).map V.str)) hpy
        have eY6 : (upd H5 py (.lst ((P.map (·.1)).map V.str))) py = some (.lst ((P.map (·.1)).map V.str)) := upd_same
        have hS6 := hS5.same s6
        have fr6 := fr5.trans (Fr.of s6)
        have eL6 := s6 _ _ eL5
        have eF6 := s6 _ _ eF5
        have hH6 := hH5.same s6
        have hP6 := hP5.same s6
        generalize upd H5 py (.lst ((P.map (·.1)).map V.str)) = H6 at *
        -- one, other
        refine ⟨_, rfl, _, rfl, _, rfl, py, _, rfl, .inl (SqL.of eY6), s, A, B, c5, _, rfl, hS6, by omega, ?_, ?_, fun H7 v hS7 fr7 v0 v1 => ?_⟩
        · rw [List.length_map, List.length_map]; omega
        · rw [List.length_map, List.length_map]; omega
        rw [List.length_map] at v1
        obtain ⟨one, h1, e1⟩ := at_str v0 v1
        have eY7 := fr7 _ _ zY.1.symm zY.2.1.symm eY6
        refine ⟨py, _, _, _, rfl, rfl, SqL.of eY7, e1, _, rfl, _, rfl, _, rfl, py, _, rfl, .inl (SqL.of eY7), s, A, B, c5 + 1, _, rfl, hS7, by omega, ?_, ?_, fun H8 v' hS8 fr8 v0' v1' => ?_⟩
        · rw [List.length_map, List.length_map]; omega
        · rw [List.length_map, List.length_map]; omega
        rw [List.length_map] at v1'
        obtain ⟨oth', h2, e2⟩ := at_str v0' v1'
        have eY8 := fr8 _ _ zY.1.symm zY.2.1.symm eY7
        refine ⟨py, _, _, _, rfl, rfl, SqL.of eY8, e2, _, _, rfl, ?_⟩
        have fr8' := (fr6.trans fr7).trans fr8
        have eL8 := fr8 _ _ zL.1.symm zL.2.1.symm (fr7 _ _ zL.1.symm zL.2.1.symm eL6)
        have eF8 := fr8 _ _ zF.1.symm zF.2.1.symm (fr7 _ _ zF.1.symm zF.2.1.symm eF6)
        have hH8 := hH.fr hS fr8'
        have hP8 := hP.fr hS fr8'
        obtain ⟨r1, m1⟩ := key_val h1
        have rr1 := pl.rm _ m1
        -- own
        refine ⟨_, rfl, _, rfl, _, rfl, p, P, rfl, hP8, pl.nodup, by omega, fun d hd => ?_⟩
        have s9 := same_upd (o := .dK (dkI P)) hd
        refine ⟨_, rfl, d, _, rfl, .inl ⟨_, Sum.inr one, .inl upd_same, rfl, (valV_dkI pl.nodup m1).symm⟩, ?_⟩
        refine ⟨h, L, n, D, P.map (·.2), r1, rfl, hH8.same s9, hF, n1, .inl (SqL.of (s9 _ _ eL8)), rr1.1, rr1.2, fun H10 to lo s10 eo ilo llo => ?_⟩
        have s10 := s9.trans s10
        have eF10 := s10 _ _ eF8
        have hS10 := hS8.same s10
        have fr10 := fr8'.trans (Fr.of s10)
        have eY10 := s10 _ _ eY8
        have i1 : one ∈ G.map (·.1) := by rw [gn]; exact h1
        have i2 : oth' ∈ G.map (·.1) := by rw [gn]; exact h2
        obtain ⟨g1, mg1⟩ := key_val i1
        obtain ⟨g2, mg2⟩ := key_val i2
        have val : ∀ {H' : Hp} {nm : Str} {v : Int}, H' fo = some (.dK (dkI G)) → (nm, v) ∈ G → DGet H' fo (.str nm) (some (.int v)) := fun {H' nm v} e m => .inl ⟨_, Sum.inr nm, .inl e, rfl, (valV_dkI ndG m).symm⟩
        dsimp only [gName]
        refine seq_by (a := tIfS _ _ _) (fun σ' H' => ∃ (y6 y7 : Option V) (G' : List (Str × Int)), σ' = [some (.ref s), some (.ref h), some (.ref p), some (.int way), some (.ref L), some (.ref fo), y6, y7, y8, y9, some (.str one), some (.ref py), some (.str oth'), some (.ref to)] ∧ StreamAt H' s A B (c5 + 2) ∧ Fr s A H H' ∧ H' py = some (.lst ((P.map (·.1)).map V.str)) ∧ H' fo = some (.dK (dkI G')) ∧ G'.map (·.1) = P.map (·.1) ∧ InR n G') ?_ ?_
        · intro NN hNN
          refine if_by (fun _ H' => H' = H10) ?_ ?_ ?_
          · rintro H11 rfl
            refine ⟨_, rfl, _, rfl, fo, _, rfl, val eF10 mg2, _, rfl, _, rfl, fo, _, rfl, val eF10 mg1, by show 2 ≤ sizeLine; decide, fun t ht => ⟨t, _, rfl, SqT.of upd_same, rfl, _, _, rfl, ?_⟩⟩
            have s12 := same_upd (o := .tup [.int g2, .int g1]) ht
            have eF12 := s12 _ _ eF10
            refine ⟨_, rfl, _, rfl, fo, _, rfl, DPut.k (k := Sum.inr one) eF12 (by rw [dkI_len, lG]; exact small1000 (by omega)), ?_⟩
            rw [put_old i1]
            have i2' : oth' ∈ (mvd G one g2).map (·.1) := by rw [mvd_names]; exact i2
            refine ⟨_, _, rfl, _, rfl, _, rfl, fo, _, rfl, DPut.k (k := Sum.inr oth') upd_same (by rw [dkI_len, mvd_len, lG]; exact small1000 (by omega)), rfl, ?_⟩
            rw [put_old i2', upd_upd]
            have nYF : py ≠ fo := ne_of eY10 eF10 (by intro z; cases z)
            refine hNN _ _ ⟨_, _, _, rfl, (hS10.same s12).put zF, (fr10.trans (Fr.of s12)).put gF, ?_, upd_same, by rw [mvd_names, mvd_names]; exact gn, (gr.mvd (gr _ mg2).1 (gr _ mg2).2).mvd (gr _ mg1).1 (gr _ mg1).2⟩
            rw [upd_ne nYF]
            exact s12 _ _ eY10
          · rintro H11 rfl
            exact hNN _ _ ⟨_, _, G, rfl, hS10, fr10, eY10, eF10, gn, gr⟩
          · intro Q' hQ'
            refine ⟨_, rfl, _, _, rfl, rfl, _, rfl, ?_⟩
            refine ite2 (fun _ => ?_) (fun _ => ?_)
            · exact ⟨_, rfl, _, rfl, fo, _, rfl, val eF10 mg2, _, rfl, to, _, rfl, .inr (SqT.of eo), rfl, flat_vi _, _, rfl, hQ' _ _ rfl⟩
            · exact hQ' _ _ rfl
        clear val mg1 mg2 i1 i2 eF10 eY10 fr10 hS10 gn gr ndG lG
        rintro σ' H11 ⟨w6, w7, G', rfl, hS11, fr11, eY11, eF11, gn, gr⟩
        have plG : Pl n G' := ⟨by rw [gn]; exact pl.nm, gr⟩
        have lG : G'.length = P.length := by
          have := congrArg List.length gn
          rw [List.length_map, List.length_map] at this
          exact this
        rw [← gn] at eY11
        refine ⟨_, rfl, py, rfl, ⟨_, SqL.of eY11⟩, fun M hM => lc_list (K := K) (a := py) (xs := (G'.map (·.1)).map V.str) (fun i H' => Same H11 H' ∧ LsAt H' M (G'.take i)) ⟨same_upd hM, .nil upd_same⟩ (fun i H' _ hh => SqL.of (hh.1 _ _ eY11)) ?_ ?_⟩
        · rintro i x H12 hx ⟨s12, x12⟩
          obtain ⟨nm, hnm, rfl⟩ := get_vs hx
          rw [List.getElem?_map] at hnm
          cases hg : G'[i]? with
          | none => rw [hg] at hnm; cases hnm
          | some y =>
            rw [hg] at hnm
            cases hnm
            have my := List.mem_of_getElem? hg
            have ly := lt_of_get hg
            refine ⟨rfl, ?_⟩
            unfold tYes
            refine iteT ⟨_, rfl, _, rfl, _, rfl, fo, _, rfl, .inl ⟨_, Sum.inr y.1, .inl (s12 _ _ eF11), rfl, (valV_dkI plG.nodup (show (y.1, y.2) ∈ G' from my)).symm⟩, by show 2 ≤ sizeLine; decide, fun t ht => ?_⟩
            have s13 := same_upd (o := .tup [.str y.1, .int y.2]) ht
            obtain ⟨acc, a1, a2, a3⟩ := (x12.same s13).snoc (t := t) upd_same
            refine ⟨acc, a1, ?_, same_put (s12.trans s13) hM, ?_⟩
            · rw [a2, List.length_take]
              exact small1000 (by omega)
            · rw [take_snoc hg]
              exact a3
        · rintro H12 ⟨s12, x12⟩
          rw [List.length_map, List.length_map, List.take_length] at x12
          obtain ⟨xs, b1, b2⟩ := x12.tup
          refine ⟨M, _, rfl, SqL.of b1, fun t ob ht od => ?_⟩
          have s13 := s12.trans (same_upd (o := .frz ob (.tup xs)) ht)
          exact q _ t G' ((hS11.same s13).mono (by omega)) (fr11.trans (Fr.of s13)) (b2 t ob ht od) plG gn
    · intro Q' hQ'
      refine ⟨_, rfl, Nat.zero_le _, fun e he => ?_⟩
      have s2 := same_upd (o := .tup []) he
      refine ⟨pld P, .tuple [], (hP1.same s2).pl.dp, .tup (SqT.of upd_same) .nil, pld_shaped pl.nams, shaped_tup [], _, rfl, ?_⟩
      rw [eqv_nilT]
      have good := fun b (hb : b = false → P ≠ []) => hQ' b _ ⟨hS1.same s2, fr1.trans (Fr.of s2), hH1.same s2, hP1.same s2, hb⟩
      cases P with
      | nil => exact iteT (good true fun h => nomatch h)
      | cons x0 P0 =>
        refine iteF ⟨_, rfl, rfl, _, rfl, ?_⟩
        exact good _ fun _ => List.cons_ne_nil _ _
end
end Fw
namespace Fw
open PySem PySem.Spec PyProof.Rows L2
open RZ
/-- zip of two tuples, the second the shorter -/
theorem lc_zipS {K : PySem.W.Frag} {a b : Addr} {xs ys : List V} {g : TG} {tt : TT} {te : TE} {vs : List Nat} {σ : L2.St} {H1 : Hp} {D : Addr} {Qd : Hp → Prop} (hl : ys.length ≤ xs.length) (Pv : Nat → Hp → Prop) (h0 : Pv 0 (upd H1 D (.lst []))) (hq : ∀ i H, Pv i H → SqT K H a xs ∧ SqT K H b ys)
    (hs : ∀ (i : Nat) (x y : V) (T : Addr) (H : Hp), xs[i]? = some x → ys[i]? = some y → Pv i H → H T = none → g (.ref T) (wipe σ vs) (upd H T (.tup [x, y])) fun σ2 H2 => wipe σ2 vs = wipe σ vs ∧ tt σ2 H2 fun b H3 =>
      if b = true then te σ2 H3 fun y H4 => ∃ acc, H4 D = some (.lst acc) ∧ acc.length < sizeLine ∧ Pv (i + 1) (upd H4 D (.lst (acc ++ [y]))) else Pv (i + 1) H3) (hd : ∀ H, Pv ys.length H → Qd H) :
    ∃ W : Nat → Nat → Hp → Prop, (∃ m, W 0 m (upd H1 D (.lst []))) ∧ ∀ i m H, W i m H →
      ((ItzT K a b).stop i H ∧ Qd H) ∨ ((ItzT K a b).go i H ∧ ∃ Nx : Hp → Prop, (∀ H', Nx H' → ∃ m', m' < m ∧ W (i + 1) m' H') ∧ ∀ x H', (ItzT K a b).yld i H x H' → g x (wipe σ vs) H' fun σ2 H2 => wipe σ2 vs = wipe σ vs ∧ tt σ2 H2 fun b H3 =>
        if b = true then te σ2 H3 fun y H4 => ∃ acc, H4 D = some (.lst acc) ∧ acc.length < sizeLine ∧ Nx (upd H4 D (.lst (acc ++ [y]))) else Nx H3) := by
  refine ⟨fun i m H => m = ys.length - i ∧ i ≤ ys.length ∧ Pv i H, ⟨ys.length, rfl, Nat.zero_le _, h0⟩, ?_⟩
  rintro i m H ⟨rfl, hi, p⟩
  obtain ⟨qx, qy⟩ := hq i H p
  by_cases hlt : i < ys.length
  · have hx : xs[i]? = some xs[i] := List.getElem?_eq_getElem (by omega)
    have hy : ys[i]? = some ys[i] := List.getElem?_eq_getElem hlt
    refine .inr ⟨⟨xs, ys, _, _, qx, qy, hx, hy⟩, Pv (i + 1), fun H' p' => ⟨ys.length - (i + 1), by omega, rfl, hlt, p'⟩, fun v H' y => ?_⟩
    obtain ⟨T, x', y', rfl, hT, rfl, f1, f2⟩ := y
    exact hs i x' y' T H (f1 xs qx) (f2 ys qy) p hT
  · have e : i = ys.length := by omega
    subst e
    exact .inl ⟨⟨xs, ys, qx, qy, Or.inr (Nat.le_refl _)⟩, hd H p⟩
theorem tp_ty {K : PySem.W.Frag} {H : Hp} {p : Addr} {xs : List V} (h : TpAt H p xs) : TyX K H (.ref p) (.type "tuple") := h.elim (fun h => .base (.tup h)) fun ⟨_, _, h⟩ => .fTuple h
theorem k_ss : kitB "str" "str" = some true := by decide +kernel
theorem k_tt' : kitB "tuple" "tuple" = some true := by decide +kernel
theorem cut1 (xs : List V) : cutV xs (some 1) none = xs.drop 1 := by
  unfold cutV
  show (xs.drop (min 1 xs.length)).take (xs.length - min 1 xs.length) = xs.drop 1
  cases xs with
  | nil => rfl
  | cons x r =>
    rw [show min 1 (x :: r).length = 1 by simp]
    exact List.take_of_length_le (by simp)
theorem one_le {c : Nat} (h : 97 ≤ c) : decide ((⟨#[c]⟩ : Str).cps.toList < (Str.ofString "a").cps.toList) = false := by
  rw [show (Str.ofString "a").cps.toList = [97] by decide +kernel]
  rw [decide_eq_false_iff_not]
  intro h2
  have h2 : [c] < [97] := h2
  rw [List.cons_lt_cons_iff] at h2
  rcases h2 with h2 | ⟨_, h2⟩
  · omega
  · exact absurd h2 (List.lt_irrefl _)
theorem one_ge {c : Nat} (h : c ≤ 122) : decide ((Str.ofString "z").cps.toList < (⟨#[c]⟩ : Str).cps.toList) = false := by
  rw [show (Str.ofString "z").cps.toList = [122] by decide +kernel]
  rw [decide_eq_false_iff_not]
  intro h2
  have h2 : [122] < [c] := h2
  rw [List.cons_lt_cons_iff] at h2
  rcases h2 with h2 | ⟨_, h2⟩
  · omega
  · exact absurd h2 (List.lt_irrefl _)
theorem names_snoc {P : List (Str × Int)} {k : Nat} {nm : Str} {r : Int} (h : P[k]? = some (nm, r)) : (P.take (k + 1)).map (·.1) = (P.take k).map (·.1) ++ [nm] := by
  rw [take_snoc h, List.map_append]
  rfl
section
variable {P : Program} {w : World} {K : PySem.W.Frag} {mg : Str → Option Value} {base : Heap}

def spIsPairT : Sp := fun vs H Q _ => ∃ (t : Addr) (x y : V), vs = [.ref t] ∧ H t = some (.tup [x, y]) ∧ Q (.bl true) H
abbrev nIsPair : List Str := ["value"]
theorem scIsPair : FnScope nIsPair ["value"] (defScope sIsPair) := ⟨rfl, rfl, rfl, by decide +kernel, rfl, by decide +kernel, by decide +kernel⟩
theorem ok_ispair {f : Addr} {fd : FuncData} {k : Nat} (F : Fun K "is_pair" "is_pair" sIsPair f fd) (T : Nm mg) : FnOk P w K mg base CX0 (k + 1) f fd pIsInt spIsPairT := by
  refine F.ok scIsPair (fun vs H Q E h => ?_) (fun cdv A outer s H vs Q E hr h => ?_)
  · obtain ⟨t, x, y, rfl, _⟩ := h
    rfl
  · obtain ⟨t, x, y, rfl, e, q⟩ := h
    refine ⟨_, (pss_one (ps_ret (pe_and (pe_callB call_isi (by rfl) T.isinstance (by decide +kernel) (pa_cons (pv 0) (pa_cons (pe_bltn (v := .ty "tuple") (by rfl) T.tuple (by decide +kernel) rfl) pa_nil))) (pe_one (pe_cmpR op_eq (pe_callB (call_lenK K rfl) (by rfl) T.len (by decide +kernel) (pa_cons (pv 0) pa_nil)) pe_int (nomark _)))))), ?_⟩
    exact ⟨_, rfl, _, _, _, _, _, rfl, .ty _, .base (.tup e), kit_ty k_tt', _, rfl, iteT ⟨_, rfl, t, _, rfl, .inr (SqT.of e), rfl, q⟩⟩
end
end Fw
set_option maxHeartbeats 2000000
namespace Fw
open PySem PySem.Spec PyProof.Rows L2
/-! enumerate(t) of a tuple t -/
/-- the enumerate at e with its iterator at it, i items of the tuple at t gone through -/
structure EnT (h : Heap) (e it t : Addr) (i : Nat) : Prop where
  en : ∃ old, IsEnum h e it ((i : Nat) : Int) old
  ir : h.IsTupleIter it t i
  ne : e ≠ it
theorem EnT.move {h h' : Heap} {e it t : Addr} {i : Nat} (x : EnT h e it t i) (k : ∀ b, b = e ∨ b = it → ∀ o, h.get? b = some o → h'.get? b = some o) : EnT h' e it t i := by
  obtain ⟨⟨old, a⟩, b, c⟩ := x
  exact ⟨⟨old, k e (.inl rfl) _ a⟩, b.at fun o => k it (.inr rfl) o, c⟩
theorem EnT.off {h : Heap} {e it t : Addr} {i : Nat} {items : Array Value} (x : EnT h e it t i) (y : h.IsTuple t items) : e ≠ t ∧ t ≠ it := by
  obtain ⟨⟨old, a⟩, ⟨o2, b1, b2, _⟩, _⟩ := x
  obtain ⟨o, y1, y2, _⟩ := y
  constructor
  · intro z
    rw [z] at a
    have := a.symm.trans y1
    cases this
    exact absurd (show Value.type "enumerate" = Value.type "tuple" from y2) (by decide)
  · intro z
    rw [← z, y1] at b1
    cases b1
    rw [y2] at b2
    exact absurd b2 (by decide)
def newEnum (a : Addr) : Obj := { cls := .type "enumerate", data := .fields #[.none, .bool false, .ref a, rawInt 0, .none, .none] }
def newIt (t : Addr) : Obj := { cls := .type "tuple_iterator", data := .fields #[.ref t, .int 0 0] }
theorem enumT_new (t : Addr) (items : Array Value) : Meets (Builtin.«enumerate.__new__» ⟨[.type "enumerate", .ref t], []⟩) (fun _ R s => s.heap.IsTuple t items ∧ R (.ok (.ret (.ref (s.heap.push (newIt t)).objs.size))) { s with heap := (s.heap.push (newIt t)).push (newEnum s.heap.objs.size) }) :=
  .of_wp fun prog w A R s hh => by
    obtain ⟨ht, fin⟩ := hh
    have st := sub_enumerate
    obtain ⟨hp, gs, ds, ts, oo⟩ := s
    have starts {A' : Around} {E' : Value → Shared → Prop} {Q' : Value → Shared → Prop} (q : Q' (.ref hp.objs.size) ⟨hp.push (newIt t), gs, ds, ts, oo⟩) : wpAny (model prog w) A' (pyIter (.ref t)) Q' E' ⟨hp, gs, ds, ts, oo⟩ := (begins_tuple t items).iter prog w A' E' _ _ ht q
    wp_walk using starts
    refine wpAny_stack_any fun _ => wpAny_pure ?_
    split
    · next c _ _ _ _ _ =>
      cases (c == Value.type "enumerate") <;> (wp_walk using starts; exact ⟨_, rfl, fin⟩)
    · wp_walk using starts
      exact ⟨_, rfl, fin⟩
section
variable {prog : Program} {w : World} {A : Around} {E : Value → Shared → Prop} {s : Shared}
theorem enumT_call {t : Addr} {items : Array Value} {Q : Value → Shared → Prop} (ht : s.heap.IsTuple t items)
    (fin : ∀ h', EnT h' (s.heap.objs.size + 1) s.heap.objs.size t 0 → (∀ b o, s.heap.get? b = some o → h'.get? b = some o) → Q (.ref (s.heap.objs.size + 1)) { s with heap := h' }) :
    wpAny (model prog w) A (call (.type "enumerate") [.ref t]) Q E s := by
  have e1 : (s.heap.push (newIt t)).objs.size = s.heap.objs.size + 1 := Heap.size_push ..
  have e2 := Heap.get?_push_size (s.heap.push (newIt t)) (o := newEnum s.heap.objs.size) rfl
  have e3 : ((s.heap.push (newIt t)).push (newEnum s.heap.objs.size)).get? s.heap.objs.size = some (newIt t) := Heap.get?_push_of_some _ (Heap.get?_push_size _ rfl)
  refine callType_new F.called_enumerate (by decide) (F.typeCall_enumerate_1 _) (F.newCall_enumerate_1 _) (fun _ => F.args_object_init_2 _ _) F.entry_enumerate_new (enumT_new t items) ⟨ht, ⟨_, e2, rfl⟩, ?_⟩
  rw [e1] at e2 ⊢
  exact fin _ ⟨⟨.none, e2⟩, ⟨_, e3, rfl, rfl⟩, Nat.succ_ne_self _⟩ fun b o z => Heap.get?_push_of_some _ (Heap.get?_push_of_some _ z)
/-- a turn: the pair is new, e and it go on, all else stays -/
theorem enumT_turn {elts : List Expr} {kk : Nat} {tpos : Pos} {e it t : Addr} {i : Nat} {items : Array Value} {x : Value} {Q : Value → Shared → Prop} (calm : A.handled = none) (n : EnT s.heap e it t i) (ht : s.heap.IsTuple t items) (hx : items[i]? = some x)
    (fin : ∀ h' tk tk', h'.get? s.heap.objs.size = some { cls := .type "tuple", data := .seq #[.int i tk, x] } → EnT h' e it t (i + 1) → (∀ b o, b ≠ e → b ≠ it → s.heap.get? b = some o → h'.get? b = some o) → Q (.ref s.heap.objs.size) { s with heap := h', toks := tk' }) :
    wpAny (model prog w) A (pyNext (.ref e)) (fun r s1 => ∃ u, r = some u ∧ wpAny (model prog w) A (letOwnedTupleGo (.Tuple elts kk tpos) (.ref e) u) (fun _ s2 => Q u s2) E s1) E s := by
  obtain ⟨o1, o2⟩ := n.off ht
  obtain ⟨⟨old, a⟩, b, ne⟩ := n
  have lt : i < items.size := by
    rcases Nat.lt_or_ge i items.size with h | h
    · exact h
    · rw [Array.getElem?_eq_none h] at hx; cases hx
  have le : e < s.heap.objs.size := Heap.lt_size a
  refine wpAny_pyNext_enum_itemD (Draws.tuple (A := A.in1) calm it t o2 items) a ⟨b, ht⟩ lt ne (by simp [ne, o1]) fun y h1 tk hy out st1 new sz keep => ⟨_, rfl, ?_⟩
  have hy : items[i]? = some y := hy
  rw [hx] at hy
  cases hy
  refine wpAny_letOwnedTupleGo_enum (s := { s with heap := h1, toks := tk + 1 }) out fun h2 en2 but => ?_
  refine fin h2 tk (tk + 1) ((but.2 _ (Nat.ne_of_gt le)).trans new) ⟨⟨x, ?_⟩, st1.1.at fun o z => (but.2 it ne.symm).trans z, ne⟩ fun c o ce ci z => (but.2 c ce).trans (keep c o ce ci z)
  · have : ((i + 1 : Nat) : Int) = (i : Int) + 1 := by omega
    rw [this]
    exact en2
theorem enumT_end {e it t : Addr} {i : Nat} {items : Array Value} {Q : Option Value → Shared → Prop} (calm : A.handled = none) (n : EnT s.heap e it t i) (ht : s.heap.IsTuple t items) (hi : i = items.size)
    (fin : ∀ h', Heap.ExtBut it s.heap h' → Q none { s with heap := h' }) : wpAny (model prog w) A (pyNext (.ref e)) Q E s := by
  obtain ⟨o1, o2⟩ := n.off ht
  obtain ⟨⟨old, a⟩, b, ne⟩ := n
  subst hi
  exact wpAny_pyNext_enum_endD (Draws.tuple (A := A.in1) calm it t o2 items) a ⟨b, ht⟩ fin
end
/-- the tuple at a; its items in new pairs with their numbers -/
def IteT (K : PySem.W.Frag) (a : Addr) : It where
  go i H := ∃ (xs : List V), SqT K H a xs ∧ i < xs.length
  yld i H v H' := ∃ T x, v = .ref T ∧ H T = none ∧ H' = upd H T (.tup [.int (i : Nat), x]) ∧ ∀ xs, SqT K H a xs → xs[i]? = some x
  stop i H := ∃ (xs : List V), SqT K H a xs ∧ xs.length = i
theorem turn_enumT {P : Program} {w : World} {K : PySem.W.Frag} {elts : List Expr} {kk : Nat} {tpos : Pos} (a e it : Addr) : Turn P w K (.Tuple elts kk tpos) (IteT K a) [e, it] e (fun i h => EnT h e it a i) where
  mem := List.mem_cons_self
  obj i h st b hb := by
    obtain ⟨⟨old, x⟩, ⟨o, y1, _, y3⟩, _⟩ := st
    rcases List.mem_cons.mp hb with rfl | hb
    · exact ⟨_, x, fun v z => nomatch z⟩
    · rw [List.mem_singleton.mp hb]
      exact ⟨o, y1, fun v z => by rw [y3] at z; cases z⟩
  keep i h h' st k := st.move fun b hb o z => k b (by rcases hb with rfl | rfl <;> simp) o z
  item := by
    rintro X rfl rfl rfl calm i pins s σ H E I free st ⟨xs, hq, lt⟩
    obtain ⟨us, rel, tp, _⟩ := I.tuple hq
    have hx : xs[i]? = some xs[i] := List.getElem?_eq_getElem lt
    obtain ⟨u, hu, ru⟩ := rel.get hx
    have small : ∀ b ∈ [e, it], b < s.heap.objs.size := fun b hb => by
      obtain ⟨⟨old, x⟩, ⟨o, y, _⟩, _⟩ := st
      rcases List.mem_cons.mp hb with rfl | hb
      · exact Heap.lt_size x
      · rw [List.mem_singleton.mp hb]
        exact Heap.lt_size y
    refine enumT_turn (I.ok.hd calm) st tp (x := u) (by simpa using hu) fun h' tk tk' new st' keep => ?_
    have J : Inv X pins σ (upd H s.heap.objs.size (.tup [.int (i : Nat), xs[i]])) { s with heap := h', toks := tk' } :=
      I.turnedNew (ch := [e, it]) (fun b o nb z => keep b o (fun y => nb (by simp [y])) (fun y => nb (by simp [y])) z) free (Nat.le_refl _)
        (show ObjOk X.prog X.w _ h' _ (.tup [.int (i : Nat), xs[i]]) from ⟨by show 2 ≤ sizeLine; decide, _, .cons ⟨_, rfl⟩ (.cons ru .nil), ⟨_, new, rfl, _, rfl⟩⟩)
    refine ⟨.ref s.heap.objs.size, _, J, rfl, ⟨_, xs[i], rfl, I.hok.fresh (Nat.le_refl _), rfl, fun ys hy => ?_⟩, st', fun b hb => ?_⟩
    · rw [I.tuple_inj hy hq]
      exact hx
    · rw [upd_ne (Nat.ne_of_lt (small b hb))]
      exact (free b hb).1
  done := by
    rintro X rfl rfl rfl calm i pins s σ H E I free st ⟨xs, hq, le⟩
    obtain ⟨us, rel, tp, _⟩ := I.tuple hq
    obtain ⟨f0, f1, f2, f3, f4, f5⟩ := free it (by simp)
    have l := rel.length
    refine enumT_end (I.ok.hd calm) st tp (by simp only [List.size_toArray]; omega) fun h' eb => ⟨rfl, ?_⟩
    exact I.turned (t' := s.toks) (fun b o nb z => eb b o nb z) f0 f1 f3 f4 f5
  self A i s Q E st h := let ⟨⟨_, x⟩, _, _⟩ := st; wpAny_pyIter_enum x h
def iEnumT (K : PySem.W.Frag) (ta : TA) : TI := fun σ H R => ta σ H fun vs H1 => ∃ a xs, vs = [.ref a] ∧ SqT K H1 a xs ∧ R (IteT K a) H1
theorem pi_enumT {X : Cx} {x : Expr} {ta : TA} {p pos tpos : Pos} {elts : List Expr} {kk : Nat} (gl : Gl X "enumerate") (no : X.mg "enumerate" = none) (ha : PA X [x] ta) (hs : starEach [x] X.env = [(false, eval x X.env)] := by rfl) : PI X (.Tuple elts kk tpos) (.Call (.Name "enumerate" p) [x] [] pos) (iEnumT X.K ta) where
  run pins s σ H R I rd := by
    refine Call_ (ld_blt I gl no boot_enumerate (PyProof.Rows.callWith_type1 (thn (ha.run pos pins s σ H _ I rd) ?_) hs rfl))
    rintro us s1 ⟨_, H1, J, rr, a, xs, rfl, hq, fin⟩
    obtain ⟨u, rfl, ru⟩ := vals1 rr
    cases (show u = Value.ref a from ru)
    obtain ⟨_, _, tp, _⟩ := J.tuple hq
    refine enumT_call tp fun h' n keep => wpAny_pyIter_enum n.en.choose_spec ⟨_, [_, _], _, _, H1, rfl, J.kept (t' := s1.toks) keep, turn_enumT a _ _, n, fun b hb => ?_, fin⟩
    have big : s1.heap.objs.size ≤ b := by
      rcases List.mem_cons.mp hb with rfl | hb
      · exact Nat.le_succ _
      · rw [List.mem_singleton.mp hb]
        exact Nat.le_refl _
    exact J.fpOk big (J.hok.fresh big)
theorem walk_enumT {K : PySem.W.Frag} {a : Addr} {xs : List V} : Walk (IteT K a) xs.length (fun H => SqT K H a xs) (YPair (fun i => some (.int (i : Nat))) (fun i => xs[i]?)) where
  goes i H lt q := ⟨xs, q, lt⟩
  stops H q := ⟨xs, q, rfl⟩
  yields i H v H' lt q y := by
    obtain ⟨T, x, rfl, fr, rfl, h⟩ := y
    exact ⟨T, _, x, rfl, fr, rfl, rfl, h xs q⟩
end Fw
set_option maxHeartbeats 2000000
namespace Fw
open PySem PySem.Spec PyProof.Rows L2
/-- what the written part says of one of the error classes -/
structure EC (K : PySem.W.Frag) (C : Addr) : Prop where
  o : OexC K C
  x : XfC K C
  cl : (PySem.W.clsIn K C).isSome = true
  ofc : PySem.W.findIn K (.ref C) "__class__" = some (some (.builtin "object.__class__"))
  sp : PySem.W.specialIn K (.builtin "object.__class__") "__get__" = some (some (.builtin "getset_descriptor.__get__"))
  tk : PySem.W.takesIn K (.builtin "object.__class__") = some true
  mo : PySem.W.mroIn K C (.type "object") = some true
/-- C(e, ..) as a value: the exception stays tracked -/
def tMkV (C : Addr) (sp : Sp) (ta : TA) : TE := fun σ H Q => ta σ H fun vs H1 => vs.length ≤ 1000 ∧ ∀ a, H1 a = none → sp (.ref a :: vs) (upd H1 a (exo a C none)) (fun v H2 => v = .non ∧ Q (.ref a) H2) E0
section
variable {X : Cx} {e : Expr} {es : List Expr} {ta : TA} {p pos : Pos}
theorem run_oex {C fI : Addr} {k : Nat} {fd : FuncData} {ps : List Str} {sp : Sp} {pins : List (Addr × Obj)} {σ : L2.St} {H1 : Hp} {z : Shared} {us : List Value} {vs : List V} {Q : VK} (T : OexC X.K C) (iC : PySem.W.findIn X.K (.ref C) "__init__" = some (some (.ref fI))) (tI : PySem.W.typeIn X.K (.ref fI) = some (.type "function"))
    (F1 : FnOk X.prog X.w X.K X.mg X.base CX0 k fI fd ps sp) (hr : Room (k + 1) X.A) (hb : Binds X.K fd ps []) (I1 : Inv X pins σ H1 z) (r1 : Vals vs us) (hz : vs.length ≤ 1000)
    (qi : ∀ a, H1 a = none → sp (.ref a :: vs) (upd H1 a (exo a C none)) (fun v H2 => v = .non ∧ Q (.ref a) H2) E0) : wpAny (model X.prog X.w) X.A (call (.ref C) us) (EP X pins σ Q) X.xe z := by
  obtain ⟨_, _, _, _, bm, _, _, _, _, _, _, _, _, _, _, hC, hbm⟩ := T.cls
  obtain ⟨hp, g, dr, tk, os⟩ := z
  have le : hp.objs.size ≤ hp.objs.size + 1 := Nat.le_succ _
  have hq := qi (hp.objs.size + 1) (I1.hok.fresh le)
  have at2 : ((hp.push (PySem.W.kdv_tup us)).push (PySem.HandSPX.excO C hp.objs.size)).get? (hp.objs.size + 1) = some (PySem.HandSPX.excO C hp.objs.size) := by heap_get
  have Jn : Inv X pins σ (upd H1 (hp.objs.size + 1) (exo (hp.objs.size + 1) C none)) ⟨(hp.push (PySem.W.kdv_tup us)).push (PySem.HandSPX.excO C hp.objs.size), g, dr, tk, os⟩ :=
    I1.laid (t' := tk) (fun b o e => Heap.get?_push_of_some _ (Heap.get?_push_of_some _ e)) le (exo_ok at2)
  have rs : Vals (V.ref (hp.objs.size + 1) :: vs) (Value.ref (hp.objs.size + 1) :: us) := .cons rfl r1
  have ln : (Value.ref (hp.objs.size + 1) :: us ++ []).length = ps.length := by
    rw [List.append_nil, ← rs.length]
    exact F1.len _ _ _ _ hq
  have few : us.length ≤ sizeLine := by
    rw [← r1.length, sizeLine_eq]
    omega
  have bi := hb _ (Value.ref (hp.objs.size + 1) :: us) Jn.kIn ln
  rw [List.append_nil] at bi
  refine wpAny_call (PySem.HandSPX.call_own F.excBase_ValueError (fun Y => PySem.HandSPX.refsVE_contains Y bm hbm) (I1.kIn _ _ hC) (PySem.W.looks_findIn I1.kIn iC) (fun self => PySem.W.bind_fn I1.kIn self tI) few
    (codeAny_mono (F1.run _ X.stack _ _ ⟨Value.ref (hp.objs.size + 1) :: us, []⟩ (Value.ref (hp.objs.size + 1) :: us) _ _ E0 (hr.make C us []) (Jn.env0.make C us []) bi rs hq) ?_))
  intro r z' e
  match r, e with
  | .error _, e => exact e.elim
  | .ok .next, e => exact e.elim
  | .ok .brk, e => exact e.elim
  | .ok .cont, e => exact e.elim
  | .ok (.ret u), e =>
    obtain ⟨v, H2, J, rv, ev, qv⟩ := Jn.after e
    subst ev
    exact ⟨rv, .ref (hp.objs.size + 1), H2, J, rfl, qv⟩
theorem pe_oex {x : Str} {C fI : Addr} {k : Nat} {fd : FuncData} {ps : List Str} {sp : Sp} (T : OexC X.K C) (iC : PySem.W.findIn X.K (.ref C) "__init__" = some (some (.ref fI))) (tI : PySem.W.typeIn X.K (.ref fI) = some (.type "function"))
    (F1 : FnOk X.prog X.w X.K X.mg X.base CX0 k fI fd ps sp) (hr : Room (k + 1) X.A) (hb : Binds X.K fd ps []) (hg : Gl X x) (hm : X.mg x = some (.ref C)) (ha : PA X (e :: es) ta)
    (hdb : (x == ("__debug__" : Str)) = false := by decide) (h1 : starEach (e :: es) X.env = (false, eval e X.env) :: starEach es X.env := by rfl) (h2 : (backTo pos (starEach es X.env)).any (·.1) = false := by rfl) :
    PE X (.Call (.Name x p) (e :: es) [] pos) (tMkV C sp ta) := by
  constructor
  intro pins z σ H Q I h
  refine wpAny_Call_Name_kw (ld_glob I hg hm (PySem.W.callWith_K (h₀ := X.base) I.ok.mod.kin T.kC (thn (ha.run pos pins z σ H _ I h) ?_) h1 h2) hdb)
  rintro us z1 ⟨vs, H1, I1, r1, hz, q1⟩
  exact ⟨I1.kIn, run_oex T iC tI F1 hr hb I1 r1 hz q1⟩
theorem pe_oex0 {x : Str} {C fI : Addr} {k : Nat} {fd : FuncData} {ps : List Str} {sp : Sp} (T : OexC X.K C) (iC : PySem.W.findIn X.K (.ref C) "__init__" = some (some (.ref fI))) (tI : PySem.W.typeIn X.K (.ref fI) = some (.type "function"))
    (F1 : FnOk X.prog X.w X.K X.mg X.base CX0 k fI fd ps sp) (hr : Room (k + 1) X.A) (hb : Binds X.K fd ps []) (hg : Gl X x) (hm : X.mg x = some (.ref C)) (hdb : (x == ("__debug__" : Str)) = false := by decide) : PE X (.Call (.Name x p) [] [] pos) (tMkV C sp tNil) := by
  constructor
  intro pins z σ H Q I h
  obtain ⟨hz, q1⟩ := h
  exact wpAny_Call_Name_kw (ld_glob I hg hm (PySem.W.callWith_K0 I.kIn T.kC (run_oex T iC tI F1 hr hb I .nil hz q1)) hdb)
/-- e.f of such an exception -/
def tEf (K : PySem.W.Frag) (f : Str) (te : TE) : TE := fun σ H Q => te σ H fun x H1 => ∃ (a C dx : Addr) (fs : List (Str × V)) (v : V), x = .ref a ∧ XfC K C ∧ PySem.W.findIn K (.ref C) f = some none ∧ H1 a = some (exo a C (some dx)) ∧ H1 dx = some (exd dx fs) ∧ fs.lookup f = some v ∧ Q v H1
theorem pe_ef {te : TE} {f : Str} (he : PE X e te) (hb : attributeBase e f X.env (eval e X.env) = eval e X.env := by rfl) : PE X (.Attribute e f pos) (tEf X.K f te) := by
  constructor
  intro pins z σ H Q I h
  refine attr_of hb (thn (he.run pins z σ H _ I h) ?_)
  rintro u z1 ⟨x, H1, I1, rx, a, C, dx, fs, v, rfl, T, no, ea, ed, l, q⟩
  obtain rfl : u = Value.ref a := rx
  obtain ⟨t1, ho⟩ := exo_at I1.hok ea
  obtain ⟨mA, ns, hr⟩ := exd_at I1.hok ed
  obtain ⟨od, hod, hl⟩ := lookIn_ns ns
  obtain ⟨u, hu, ru⟩ := RelO.some_of (v := v) (o := mA f) (by rw [← l]; exact hr f)
  have J : PySem.W.InstAt z1.heap a _ C (some od) := ⟨ho, rfl, rfl, hod⟩
  exact HandSPX.exc_get I1.kIn J T.ga T.gg T.exC (PySem.W.findObj_own T.hdC no rfl (by rw [hl, hu])) (handed_of ru) ⟨v, H1, I1.tok _, ru, q⟩
/-- isinstance(e, c) of such an exception -/
def rIsX (K : PySem.W.Frag) : List V → Hp → VK → Prop := fun xs H Q => ∃ (a D : Addr) (c : V) (cv : Value) (d : Option Addr) (b : Bool), xs = [.ref a, c] ∧ ClsV c cv ∧ EC K D ∧ H a = some (exo a D d) ∧ (∀ dx, d = some dx → ∃ fs, H dx = some (exd dx fs)) ∧ PySem.W.kitOne K (.ref D) cv = some b ∧ Q (.bl b) H
theorem call_isX : CallR X (.builtin "isinstance") (rIsX X.K) := by
  intro pn sh σ H xs us Q J rr hx
  obtain ⟨a, D, c, cv, d, b, rfl, k, T, ea, hd, e, q⟩ := hx
  obtain ⟨ua, ub, rfl, ra, rb⟩ := vals2 rr
  have e2 := k.eq rb
  subst e2
  cases (show ua = Value.ref a from ra)
  obtain ⟨t1, ho⟩ := exo_at J.hok ea
  have M : ∃ od, PySem.W.InstAt sh.heap a { cls := .ref D, dict := d, data := .fields #[.ref t1, .none, .none, .none, .bool false, .none] } D od := by
    cases d with
    | none => exact ⟨none, ho, rfl, rfl, trivial⟩
    | some dx =>
      obtain ⟨fs, ed⟩ := hd dx rfl
      obtain ⟨mA, ns, _⟩ := exd_at J.hok ed
      obtain ⟨od, hod, _⟩ := lookIn_ns ns
      exact ⟨some od, ho, rfl, rfl, hod⟩
  obtain ⟨od, M⟩ := M
  exact PySem.W.kia_one (PySem.W.kitx_exc T.cl T.x.ga T.x.gg T.x.exC T.ofc T.sp T.tk T.mo) J.kIn M e (fun z => nomatch z) fun tk => ⟨.bl b, H, J.tok tk, rfl, q⟩
/-- l.count(True), l a list of bools -/
def rCntB (K : PySem.W.Frag) : V → List V → Hp → VK → Prop := fun x xs H Q => ∃ (p : Addr) (bs : List Bool), x = .ref p ∧ xs = [.bl true] ∧ SqL K H p (bs.map V.bl) ∧ Q (.int ((bs.count true : Nat) : Int)) H
def isT : Value → Bool
  | .bool b => b
  | _ => false
theorem mt_countB : MtR X "list.count" (rCntB X.K) := by
  intro pn s σ H x xs v us Q I rx rys hx
  obtain ⟨p, bs, rfl, rfl, hs, q⟩ := hx
  cases rx
  obtain ⟨ut, rfl, rt⟩ := rys.one
  cases (show ut = Value.bool true from rt)
  obtain ⟨its, rv, ⟨⟨oc, dd, od, sl⟩, n, ho, hc, _, hd⟩, _⟩ := I.list hs
  simp only at hc hd
  subst hc hd
  have all : ∀ {bs : List Bool} {us : List Value}, Vals (bs.map V.bl) us → (∀ y ∈ us, ∃ b, y = Value.bool b) ∧ us.countP isT = bs.count true := by
    intro bs
    induction bs with
    | nil => intro us r; cases r; exact ⟨fun y hy => (by cases hy), rfl⟩
    | cons b bs ih =>
      intro us r
      cases r with
      | cons r rr =>
        obtain ⟨h1, h2⟩ := ih rr
        have e := (show _ = Value.bool b from r)
        subst e
        refine ⟨fun y hy => ?_, ?_⟩
        · rcases List.mem_cons.mp hy with e | e
          · exact ⟨b, e⟩
          · exact h1 y e
        · rw [List.countP_cons, List.count_cons, h2]
          cases b <;> rfl
  obtain ⟨h1, h2⟩ := all rv
  refine call_meets PySem.F.slot_list_count ⟨_, ho, rfl⟩ PySem.F.entry_list_count (PySem.F.args_list_count_2 _ _) (SeqAt.list_countAt p its.toArray n dd sl (.bool true) isT) ⟨ho, fun y hy => ?_, ?_⟩
  · obtain ⟨b, rfl⟩ := h1 y (by simpa using hy)
    have := SeqAt.EqAt.bool_bool (A := X.A.in1) (s := s) b true
    rw [show (b == true) = isT (.bool b) by cases b <;> rfl] at this
    exact this
  · refine ⟨.int ((bs.count true : Nat) : Int), H, I.tok _, ⟨s.toks, ?_⟩, q⟩
    show Value.int ((its.toArray.toList.countP isT : Nat) : Int) s.toks = _
    rw [← h2]
end
end Fw
set_option maxHeartbeats 2000000
namespace Fw
open PySem PySem.Spec PyProof.Rows L2
/-- the classes above an error class, without itself -/
abbrev above (E : Addr) : List Value := [.ref E, .type "ValueError", .type "Exception", .type "BaseException", .type "object"]
/-- an error class by its place, with its __init__ -/
structure CF (K : PySem.W.Frag) (mg : Str → Option Value) (x : Str) (q : Str) (st : Stmt) (ps : List Str) (E C : Addr) (f : Addr) (fd : FuncData) : Prop where
  e : EC K C
  g : mg x = some (.ref C)
  mro : ∃ cd, PySem.W.clsIn K C = some cd ∧ cd.mro = .ref C :: above E
  i : PySem.W.findIn K (.ref C) "__init__" = some (some (.ref f))
  t : PySem.W.typeIn K (.ref f) = some (.type "function")
  F : Fun K "__init__" q st f fd
  b : Binds K fd ps []
theorem cf_mk {K : PySem.W.Frag} {h : Heap} {mg : Str → Option Value} {x q : Str} {st : Stmt} {ps : List Str} {E C f : Addr}
    {nm qn : Str} {N : Addr} {bs : List Value} {sn : List Str} {sub : List Value} {ab : Bool} {col : Option Bool} {dd : Option Addr} {m0 m1 m2 m3 m5 : Option Value}
    {od an : Option Addr} {sl : Array (Option Value)} {oc kV dc pm cd ct : Value} (X : K.In h) (G : h.Ns mainGlobals mg)
    (hb : ∀ fd, Fun K "__init__" q st f fd → Binds K fd ps [])
    (aC : PySem.W.nsIn K mainGlobals x = some (some (.ref C)))
    (xL : K.lookup C = some (excClassObj nm qn C N bs (above E) true sn sub ab col dd m0 m1 m2 m3 m5 "ValueError.__new__"))
    (sa : PySem.W.findIn K (.ref C) "__setattr__" = some (some (.builtin "object.__setattr__"))) (ga : PySem.W.findIn K (.ref C) "__getattribute__" = some (some (.builtin "BaseException.__getattribute__"))) (gg : PySem.W.findIn K (.ref C) "__getattr__" = some none)
    (a1 : PySem.W.findIn K (.ref C) "__init__" = some (some (.ref f))) (t1 : PySem.W.typeIn K (.ref f) = some (.type "function"))
    (l1 : K.lookup f = some ⟨oc, od, .func (PySem.W.fnOf "__init__" q (defArgs st) (defBody st) (defScope st) .none kV dc pm an cd ct), sl⟩) (c1 : PySem.W.codeIn K cd q = true) (k1 : PySem.W.keepIn K (.ref f) = true)
    (kC : PySem.W.keepIn K (.ref C) = true) (tC : PySem.W.typeIn K (.ref C) = some (.type "type")) (hC : PySem.W.hasDictIn K C = true)
    (ca : PySem.W.findIn K (.ref C) "__class__" = some (some (.builtin "object.__class__")))
    (sp : PySem.W.specialIn K (.builtin "object.__class__") "__get__" = some (some (.builtin "getset_descriptor.__get__"))) (tk : PySem.W.takesIn K (.builtin "object.__class__") = some true) :
    ∃ fd, CF K mg x q st ps E C f fd := by
  have cl : PySem.W.clsIn K C = some { name := nm, bases := bs, mro := .ref C :: above E, ns := N, qualname := qn, hasDict := true, slotNames := sn, subclasses := sub, abstract := ab, collection := col, hasDel := false } := by
    unfold PySem.W.clsIn
    rw [xL]
  have mr : ∀ v, PySem.W.mroIn K C v = some ((Value.ref C :: above E).contains v) := fun v => by
    unfold PySem.W.mroIn
    rw [cl]
    rfl
  have exC : PySem.W.subIn K (.ref C) (.type "BaseException") = some true := (mr _).trans rfl
  have F1 := fun_mk (st := st) l1 c1 k1
  refine ⟨_, ⟨⟨⟨nm, qn, N, bs, _, sn, sub, ab, col, dd, m0, m1, m2, m3, m5, xL, rfl⟩, sa, exC, tC, kC⟩, ⟨ga, gg, exC, hC⟩, by rw [cl]; rfl, ca, sp, tk, (mr _).trans rfl⟩, PySem.W.mg_of X G aC, ⟨_, cl, rfl⟩, a1, t1, F1, hb _ F1⟩
end Fw
set_option maxHeartbeats 2000000
namespace Fw
open PySem PySem.Spec PyProof.Rows L2
/-- what the __init__ of an error with a field does -/
def spIniF (f : Str) (C : Addr) : Sp := fun vs H Q _ => ∃ (a : Addr) (v : V), vs = [.ref a, v] ∧ H a = some (exo a C none) ∧ ∀ dx, H dx = none → dx ≠ a → Q .non (upd (upd H dx (exd dx [(f, v)])) a (exo a C (some dx)))
/-- an error class of the text with one field -/
def CE (K : PySem.W.Frag) (mg : Str → Option Value) (x q fld : Str) (st : Stmt) : Prop := ∃ E C f fd, CF K mg x q st ["self", fld] E C f fd ∧ PySem.W.findIn K (.ref C) fld = some none
/-- an error class that can be raised, by its name -/
structure ErR (P : Program) (w : World) (K : PySem.W.Frag) (mg : Str → Option Value) (base : Heap) (x fld : Str) (E C : Addr) : Prop where
  e : EC K C
  g : mg x = some (.ref C)
  mro : ∃ cd, PySem.W.clsIn K C = some cd ∧ cd.mro = .ref C :: above E
  no : PySem.W.findIn K (.ref C) fld = some none
  i : ∃ f fd, PySem.W.findIn K (.ref C) "__init__" = some (some (.ref f)) ∧ PySem.W.typeIn K (.ref f) = some (.type "function") ∧ Binds K fd ["self", fld] [] ∧ FnOk P w K mg base CX0 1 f fd ["self", fld] (spIniF fld C)
section
variable {P : Program} {w : World} {K : PySem.W.Frag} {mg : Str → Option Value} {base : Heap}
theorem er_NotAdjacent (c : CE K mg "NotAdjacent" "NotAdjacent.__init__" "room" iNotAdjacent) : ∃ E C, ErR P w K mg base "NotAdjacent" "room" E C := by
  obtain ⟨E, C, f, fd, c, no⟩ := c
  refine ⟨E, C, c.e, c.g, c.mro, no, f, fd, c.i, c.t, c.b, ?_⟩
  refine Fun.ok c.F (N := ["self", "room"]) ⟨rfl, rfl, rfl, by decide +kernel, rfl, by decide +kernel, by decide +kernel⟩ (fun vs H Q E h => ?_) (fun cdv A outer s H vs Q E hr h => ?_)
  · obtain ⟨a, v, rfl, _⟩ := h
    rfl
  · obtain ⟨a, v, rfl, ea, q⟩ := h
    exact ⟨_, pss_one (ps_ost (pv 0) (pv 1)), _, rfl, _, rfl, a, C, rfl, c.e.o, no, .inl ⟨ea, q⟩⟩
theorem er_EmptyRoom (c : CE K mg "EmptyRoom" "EmptyRoom.__init__" "room" iEmptyRoom) : ∃ E C, ErR P w K mg base "EmptyRoom" "room" E C := by
  obtain ⟨E, C, f, fd, c, no⟩ := c
  refine ⟨E, C, c.e, c.g, c.mro, no, f, fd, c.i, c.t, c.b, ?_⟩
  refine Fun.ok c.F (N := ["self", "room"]) ⟨rfl, rfl, rfl, by decide +kernel, rfl, by decide +kernel, by decide +kernel⟩ (fun vs H Q E h => ?_) (fun cdv A outer s H vs Q E hr h => ?_)
  · obtain ⟨a, v, rfl, _⟩ := h
    rfl
  · obtain ⟨a, v, rfl, ea, q⟩ := h
    exact ⟨_, pss_one (ps_ost (pv 0) (pv 1)), _, rfl, _, rfl, a, C, rfl, c.e.o, no, .inl ⟨ea, q⟩⟩
end
/-! ### except among the errors -/
theorem exm_ref {K : PySem.W.Frag} {D E C : Addr} (hm : ∃ cd, PySem.W.clsIn K D = some cd ∧ cd.mro = .ref D :: above E) (e : EC K C) : PySem.W.exmOne K (.ref D) (.ref C) = some (decide (C = D ∨ C = E)) := by
  obtain ⟨cd, h1, h2⟩ := hm
  unfold PySem.W.exmOne
  rw [if_pos (by rw [e.o.exC]; rfl)]
  unfold PySem.W.kitCls
  simp only [e.cl, e.o.tyC]
  rw [if_pos (by rfl)]
  show PySem.W.mroIn K D (.ref C) = _
  unfold PySem.W.mroIn
  rw [h1]
  show (if cd.mro.isEmpty then none else some (cd.mro.contains (.ref C))) = _
  rw [h2]
  show some ((Value.ref D :: above E).contains (.ref C)) = _
  by_cases e1 : C = D <;> by_cases e2 : C = E <;> simp [e1, e2]
theorem exm_two {K : PySem.W.Frag} {D E C1 C2 : Addr} (hm : ∃ cd, PySem.W.clsIn K D = some cd ∧ cd.mro = .ref D :: above E) (e1 : EC K C1) (e2 : EC K C2) (h : C1 = D ∨ C2 = D) : PySem.W.exmAny K (.ref D) [.ref C1, .ref C2] = some true := by
  unfold PySem.W.exmAny PySem.W.exmAny PySem.W.exmAny
  rw [exm_ref hm e1, exm_ref hm e2]
  show some _ = some true
  congr 1
  rcases h with h | h <;> simp [h]
/-! ### raise -/
theorem raise_end {fld : Str} {C : Addr} {v : V} {H1 : Hp} {Q : XK} (q : ∀ d H', Same H1 H' → H' d = some (.xd [(fld, v)]) → Q (.ref C) (some d) H') : ([v] : List V).length ≤ 1000 ∧ ∀ a, H1 a = none → spIniF fld C (.ref a :: ([v] ++ [])) (upd H1 a (exo a C none))
    (fun v H2 => v = .non ∧ ∃ (d : Addr) (fs : List (Str × V)), H2 a = some (exo a C (some d)) ∧ H2 d = some (exd d fs) ∧ H1 d = none ∧ Q (.ref C) (some d) (upd (del H2 a) d (.xd fs))) (fun _ _ _ => False) := by
  refine ⟨by show 1 ≤ 1000; decide, fun a ha => ⟨a, v, rfl, upd_same, fun dx h1 h2 => ?_⟩⟩
  have hd : H1 dx = none := by rw [← h1, upd_ne h2]
  refine ⟨rfl, dx, _, upd_same, (upd_ne h2).trans upd_same, hd, q _ _ (fun b o e => ?_) upd_same⟩
  have n1 : b ≠ a := ne_of_none e ha
  have n2 : b ≠ dx := ne_of_none e hd
  rw [upd_ne n2, del_ne n1, upd_ne n1, upd_ne n2, upd_ne n1]
  exact e
theorem pmk_er {X : Cx} {x fld : Str} {E C : Addr} {k : Nat} {p pos : Pos} {e : Expr} {te : TE} (R : ErR X.prog X.w X.K X.mg X.base x fld E C) (hr : Room (k + 2) X.A) (hg : Gl X x) (he : PE X e te) (hdb : (x == ("__debug__" : Str)) = false := by decide)
    (h1 : starEach [e] X.env = (false, eval e X.env) :: starEach [] X.env := by rfl) (h2 : (backTo pos (starEach [] X.env)).any (·.1) = false := by rfl) : PMk X (.Call (.Name x p) [e] [] pos) (tMkO C (spIniF fld C) [] (tCons te tNil)) := by
  obtain ⟨f, fd, a, b, c, d⟩ := R.i
  exact pmk_oex R.e.o a b (d.mono (Nat.le_add_left 1 k)) hr c .nil pass0 hg R.g (pa_cons he pa_nil (hs := h1)) hdb h1 h2
/-! ### a def that may raise, by its name -/
def CalX (P : Program) (w : World) (K : PySem.W.Frag) (mg : Str → Option Value) (base : Heap) (k : Nat) (x : Str) (ps : List Str) (sp : Sp) : Prop :=
  ∃ f fd, mg x = some (.ref f) ∧ PySem.W.keepIn K (.ref f) = true ∧ Binds K fd ps [] ∧ FnOk P w K mg base (L2.CX P w) k f fd ps sp
theorem DefE.calX {P : Program} {w : World} {K : PySem.W.Frag} {mg : Str → Option Value} {base : Heap} {x : Str} {st : Stmt} {ps : List Str} {k : Nat} {sp : Sp} (D : DefE K mg x st ps) (h : ∀ f fd, Def K mg x st f fd ps → FnOk P w K mg base (L2.CX P w) k f fd ps sp) : CalX P w K mg base k x ps sp := by
  obtain ⟨f, fd, d⟩ := D
  exact ⟨f, fd, d.g, d.F.kp, d.b, h f fd d⟩
theorem pe_calX {X : Cx} {W : WX} {k : Nat} {ps : List Str} {sp : Sp} {x : Str} {p pos : Pos} {e : Expr} {es : List Expr} {t : TA} (C : CalX X.prog X.w X.K X.mg X.base k x ps sp) (tk : Takes X W) (hr : Room k X.A) (hg : Gl X x) (ha : PA X (e :: es) t) (hdb : (x == ("__debug__" : Str)) = false := by decide)
    (h1 : starEach (e :: es) X.env = (false, eval e X.env) :: starEach es X.env := by rfl) (h2 : (backTo pos (starEach es X.env)).any (·.1) = false := by rfl) : PE X (.Call (.Name x p) (e :: es) [] pos) (tCallS sp (WE W) t) := by
  obtain ⟨f, fd, a, b, c, d⟩ := C
  exact pe_callS d hr hg a b c (fun σ => passAt tk σ) ha hdb h1 h2
/-! ### an exception that has landed, and the state around it -/
structure Air (X : Cx) (pins : List (Addr × Obj)) (B : Heap) (a : Addr) (cls : Value) (d : Option Addr) (σ : L2.St) (H : Hp) (z : Shared) : Prop where
  ex : ∃ g : Shared, Inv X pins σ H g ∧ (∀ b o, g.heap.get? b = some o → b ∉ frs X.stack → B.get? b = some o) ∧ g.heap.UpToSlots z.heap ∧ z.os = g.os
  fly : HandSPX.FlyingZ B (X.env :: X.outer) a (Zc cls d) z.heap
  free : H a = none
  bare : AllBare z.gens
section
variable {X : Cx} {pins : List (Addr × Obj)} {B : Heap} {a : Addr} {cls : Value} {d : Option Addr} {σ : L2.St} {H : Hp} {z : Shared}
theorem Air.inv (x : Air X pins B a cls d σ H z) : Inv X pins σ H z := by
  obtain ⟨g, i, k, u, o⟩ := x.ex
  exact i.landed k x.fly.1 u o x.bare
theorem Air.step {h' : Heap} (x : Air X pins B a cls d σ H z) (f : HandSPX.FlyingZ B (X.env :: X.outer) a (Zc cls d) h') (u : z.heap.UpToSlots h') : Air X pins B a cls d σ H { z with heap := h' } := by
  obtain ⟨g, i, k, u0, o⟩ := x.ex
  exact ⟨⟨g, i, k, u0.trans u, o⟩, f, x.free, x.bare⟩
theorem Air.push (x : Air X pins B a cls d σ H z) (o : Obj) : Air X pins B a cls d σ H { z with heap := z.heap.push o } := by
  have up : ∀ b q, z.heap.get? b = some q → (z.heap.push o).get? b = some q := fun b q e => Heap.get?_push_of_some _ e
  obtain ⟨c1, c2, c3, ob, fs, tb, ot, us, g1, g2, g3, g4, g5, g6, g7, g8, g9⟩ := x.fly
  exact x.step ⟨fun b q e => up b q (c1 b q e), c2, c3.of_keeps fun b q e _ => ⟨q, up b q e, rfl⟩, ob, fs, tb, ot, us, up _ _ g1, g2, g3, g4, g5, g6, up _ _ g7, g8, g9⟩ (Heap.UpToSlots.of_keeps up)
theorem Air.hold (x : Air X pins B a cls d σ H z) (fr : X.env.frame = some X.env.locals) : ∃ oe, z.heap.get? a = some oe ∧ Zc cls d oe ∧ (∃ vs, oe.data = .fields vs) ∧ Inv (X.suite a ((a, oe) :: (X.pn ++ pins))) [] σ H z := by
  obtain ⟨oe, fs, at0, zc, fd⟩ := x.fly.there
  have off : ∀ v : Env, v ∈ X.env :: X.outer → v.frame ≠ some a := by
    intro v mv ev
    obtain ⟨_, ob, at1, plain⟩ := x.fly.2.2.1.mem (List.mem_filterMap.2 ⟨v, mv, ev⟩)
    cases Option.some.inj (at0.symm.trans at1)
    exact plain fs fd
  refine ⟨oe, at0, zc, ⟨fs, fd⟩, x.inv.suite at0 fd x.free ?_ ?_⟩
  · intro same
    exact off X.env (.head _) (by rw [fr, same])
  · intro inFs
    obtain ⟨v, mv, ev⟩ := List.mem_filterMap.1 inFs
    exact off v (.tail _ mv) ev
/-- what comes of a suite, and of a try's body, told outside of it -/
theorem sp_suite {q : Addr × Obj} {D : Ends} {f : Flow} (ok : X.Ok) (h : L2.SP (X.suite a (q :: (X.pn ++ pins))) [] D f z) : L2.SP X pins D f z :=
  match f, h with
  | .next, ⟨t, G, J, w⟩ | .brk, ⟨t, G, J, w⟩ | .cont, ⟨t, G, J, w⟩ => ⟨t, G, J.unsuite ok, w⟩
  | .ret _, ⟨v, t, G, J, r, w⟩ => ⟨v, t, G, J.unsuite ok, r, w⟩
theorem sp_body {xe : Value → Shared → Prop} {D : Ends} {f : Flow} (ok : X.Ok) (h : L2.SP (X.tr (X.pn ++ pins) xe) [] D f z) : L2.SP X pins D f z :=
  match f, h with
  | .next, ⟨t, G, J, w⟩ | .brk, ⟨t, G, J, w⟩ | .cont, ⟨t, G, J, w⟩ => ⟨t, G, J.ofTry ok, w⟩
  | .ret _, ⟨v, t, G, J, r, w⟩ => ⟨v, t, G, J.ofTry ok, r, w⟩
/-- it lands -/
theorem air_of {W : WX} {xe : Value → Shared → Prop} {u : Value} {Q : Unit → Shared → Prop} {E : Value → Shared → Prop} (st : X.stack = X.env :: X.outer) (fr : X.env.frame = some X.env.locals) (ok : X.Ok) (x : XE (X.tr (X.pn ++ pins) xe) W u z)
    (k : ∀ B a cls d σ H z', u = .ref a → Air X pins B a cls d σ H z' → W cls d σ H → Q () z') :
    wpAny (model X.prog X.w) X.A (noteFrame u X.env) (fun _ y => wpAny (model X.prog X.w) X.A (setFlight u none) Q E y) E z := by
  obtain ⟨a, B, g, _, σ, H, cls, d, rfl, i, gr, us, sky, free, eo, bare, w⟩ := x
  refine Sky.land Zc.steady (ok.frames.trans (congrArg some st)) fr (st ▸ sky) fun h' fl us' => ?_
  exact k B a cls d σ H _ rfl ⟨⟨g, i.ofTry ok, gr, us.trans us', eo⟩, fl, free, bare⟩ w
/-- a class of the text, or a builtin one, by its name in a clause -/
theorem Air.name {x : Str} {c : Value} {p : Pos} {Q : Value → Shared → Prop} {E : Value → Shared → Prop} (y : Air X pins B a cls d σ H z) (fr : X.env.frame = some X.env.locals) (nm : L2.Names X x c) (h : Q c z) : wpAny (model X.prog X.w) (X.A.mark (some (.ref a))) (eval (.Name x p) X.env) Q E z := by
  obtain ⟨oe, _, _, _, J⟩ := y.hold fr
  obtain ⟨gl, nd, own | ⟨out, blt, nn⟩⟩ := nm
  · exact ld_glob J gl own h nd
  · exact ld_blt J gl out blt h nn nd
end
/-! ### try: .. except (A, B): .. , where it surely is one of the two -/
theorem ps_try_two {X : Cx} {body : List Stmt} {x1 x2 : Str} {c1 c2 : Value} {b₀ : Stmt} {suite : List Stmt} {p1 p2 tpos pos' pos : Pos} {kk : Nat} {tb : WX → TS} {ts : TS} (st : X.stack = X.env :: X.outer) (fr : X.env.frame = some X.env.locals) (n1 : L2.Names X x1 c1) (n2 : L2.Names X x2 c2)
    (hb : ∀ (W : WX) (pn : List (Addr × Obj)) (xe : Value → Shared → Prop), Takes (X.tr pn xe) W → PassesOwn (model X.prog X.w) X.A X.env xe → PSs (X.tr pn xe) body (tb W))
    (hsu : ∀ (a : Addr) (oe : Obj) (pn : List (Addr × Obj)), PSs (X.suite a ((a, oe) :: pn)) (b₀ :: suite) ts) :
    PS X (.Try body [.ExceptHandler (some (.Tuple [.Name x1 p1, .Name x2 p2] kk tpos)) none (b₀ :: suite) pos'] [] [] pos) (fun D σ H => tb (fun cls _ σ' H' => PySem.W.exmAny X.K cls [c1, c2] = some true ∧ ts D σ' H') D σ H) := by
  constructor
  intro pins z σ H D I rd
  have ok := I.ok
  have caught : ∀ (xe : Value → Shared → Prop) (u : Value) (y : Shared), XE (X.tr (X.pn ++ pins) xe) (fun cls _ σ' H' => PySem.W.exmAny X.K cls [c1, c2] = some true ∧ ts D σ' H') u y →
      wpAny (model X.prog X.w) X.A (noteFrame u X.env) (fun _ y1 => wpAny (model X.prog X.w) X.A (setFlight u none) (fun _ y2 =>
        wpAny (model X.prog X.w) X.A (handleBy u X.env [.ExceptHandler (some (.Tuple [.Name x1 p1, .Name x2 p2] kk tpos)) none (b₀ :: suite) pos']) (L2.SP X pins D) X.xe y2) X.xe y1) X.xe y := by
    intro xe u y air
    refine air_of st fr ok air fun B a cls d σ1 H1 y1 eu y1a yes => ?_
    subst eu
    refine wpAny_handleBy_cons (codeAny_handlers_test (wpAny_Tuple (wpAny_items_cons (y1a.name fr n1 (wpAny_items_cons (y1a.name fr n2 (wpAny_items_nil ⟨?_, ?_⟩))))))) fun e => nomatch e
    · show 2 ≤ sizeLine
      decide
    have y2a := y1a.push { cls := .type "tuple", data := .seq [c1, c2].toArray }
    obtain ⟨oe, at2, zc, _, _⟩ := y2a.hold fr
    have kind : PySem.W.Looks (model X.prog X.w) (y1.heap.push { cls := .type "tuple", data := .seq [c1, c2].toArray }) (typeOf (.ref a)) cls := fun _ _ _ _ keep w => wpAny_typeOf_ref (keep _ _ at2) (zc.1.symm ▸ w)
    refine (PySem.W.exm_tup2 y2a.inv.kIn kind (Heap.get?_push_size _ rfl) yes.1).here (codeAny_handlers_suite (HandSPX.lands_againZ y2a.fly fun h3 f3 u3 => ?_))
    obtain ⟨oe3, _, _, _, J3⟩ := (y2a.step f3 u3).hold fr
    exact wpAny_mono ((hsu a oe3 (X.pn ++ pins)).run [] _ _ H1 _ J3 yes.2) (fun _ _ r => sp_suite ok r) fun _ _ no => no.elim
  refine wpAny_Try_except (wpAny_mono ((hb _ (X.pn ++ pins) _ (fun u y air => caught _ u y air) PassesOwn.looking).run [] z σ H D (I.toTry _) rd) (fun f y r => ?_) fun _ _ r => r)
  have r := sp_body ok r
  match f, r with
  | .next, r => exact wpAny_execs_nil r
  | .brk, r | .cont, r | .ret _, r => exact r
end Fw
set_option maxHeartbeats 2000000
namespace Fw
open PySem PySem.Spec PyProof.Rows L2
/-- the class above all errors -/
structure HE (K : PySem.W.Frag) (mg : Str → Option Value) (E : Addr) : Prop where
  g : mg "HouseError" = some (.ref E)
  ex : PySem.W.subIn K (.ref E) (.type "BaseException") = some true
  cl : (PySem.W.clsIn K E).isSome = true
  ty : PySem.W.typeIn K (.ref E) = some (.type "type")
  m : (PySem.W.clsIn K E).map (·.mro) = some (above E)
/-- an error class of the text with one field, below E -/
def CEE (K : PySem.W.Frag) (mg : Str → Option Value) (E : Addr) (x q fld : Str) (st : Stmt) : Prop := ∃ C f fd, CF K mg x q st ["self", fld] E C f fd ∧ PySem.W.findIn K (.ref C) fld = some none
abbrev Mro (K : PySem.W.Frag) (E D : Addr) : Prop := ∃ cd, PySem.W.clsIn K D = some cd ∧ cd.mro = .ref D :: above E
theorem he_mk {K : PySem.W.Frag} {h : Heap} {mg : Str → Option Value} {E : Addr} {nm qn : Str} {N : Addr} {bs : List Value} {sn : List Str} {sub : List Value} {ab : Bool} {col : Option Bool} {dd : Option Addr} {m0 m1 m2 m3 m5 : Option Value} (X : K.In h) (G : h.Ns mainGlobals mg)
    (aE : PySem.W.nsIn K mainGlobals "HouseError" = some (some (.ref E))) (ex : PySem.W.subIn K (.ref E) (.type "BaseException") = some true)
    (xL : K.lookup E = some (excClassObj nm qn E N bs [.type "ValueError", .type "Exception", .type "BaseException", .type "object"] true sn sub ab col dd m0 m1 m2 m3 m5 "ValueError.__new__")) (ty : PySem.W.typeIn K (.ref E) = some (.type "type")) : HE K mg E := by
  have cl : ∃ cd, PySem.W.clsIn K E = some cd ∧ cd.mro = above E := by
    unfold PySem.W.clsIn
    rw [xL]
    exact ⟨_, rfl, rfl⟩
  obtain ⟨cd, h1, h2⟩ := cl
  exact ⟨PySem.W.mg_of X G aE, ex, by rw [h1]; rfl, ty, by rw [h1, ← h2]; rfl⟩
theorem HE.ne {K : PySem.W.Frag} {mg : Str → Option Value} {E C : Addr} (h : HE K mg E) (c : Mro K E C) : C ≠ E := fun e => by
  obtain ⟨cd, h1, h2⟩ := c
  have := h.m
  rw [← e, h1] at this
  simp only [Option.map_some, Option.some.injEq] at this
  rw [h2] at this
  have := congrArg List.length this
  cases this
theorem exm_he {K : PySem.W.Frag} {mg : Str → Option Value} {D E : Addr} (hm : Mro K E D) (h : HE K mg E) : PySem.W.exmOne K (.ref D) (.ref E) = some true := by
  obtain ⟨cd, h1, h2⟩ := hm
  unfold PySem.W.exmOne
  rw [if_pos (by rw [h.ex]; rfl)]
  unfold PySem.W.kitCls
  simp only [h.cl, h.ty]
  rw [if_pos (by rfl)]
  show PySem.W.mroIn K D (.ref E) = _
  unfold PySem.W.mroIn
  rw [h1]
  show (if cd.mro.isEmpty then none else some (cd.mro.contains (.ref E))) = _
  rw [h2]
  simp
theorem kitR {K : PySem.W.Frag} {D E C : Addr} (hm : Mro K E D) (hC : (PySem.W.clsIn K C).isSome = true) (tC : PySem.W.typeIn K (.ref C) = some (.type "type")) : PySem.W.kitOne K (.ref D) (.ref C) = some (decide (C = D ∨ C = E)) := by
  obtain ⟨cd, h1, h2⟩ := hm
  unfold PySem.W.kitOne
  by_cases e : D = C
  · rw [if_pos (by rw [e]; exact beq_self_eq_true _)]
    simp [e]
  · rw [if_neg (by simpa using e)]
    unfold PySem.W.kitCls
    simp only [hC, tC]
    rw [if_pos (by rfl)]
    show PySem.W.mroIn K D (.ref C) = _
    unfold PySem.W.mroIn
    rw [h1]
    show (if cd.mro.isEmpty then none else some (cd.mro.contains (.ref C))) = _
    rw [h2]
    show some ((Value.ref D :: above E).contains (.ref C)) = _
    have e' : C ≠ D := fun z => e z.symm
    by_cases e2 : C = E <;> simp [e', e2]
theorem kitVE {K : PySem.W.Frag} {D E : Addr} (hm : Mro K E D) : PySem.W.kitOne K (.ref D) (.type "ValueError") = some true := by
  obtain ⟨cd, h1, h2⟩ := hm
  unfold PySem.W.kitOne
  rw [if_neg (by simp)]
  unfold PySem.W.kitCls
  simp only []
  rw [if_pos (by decide +kernel)]
  show PySem.W.mroIn K D (.type "ValueError") = _
  unfold PySem.W.mroIn
  rw [h1]
  show (if cd.mro.isEmpty then none else some (cd.mro.contains _)) = _
  rw [h2]
  show some ((Value.ref D :: above E).contains _) = _
  simp
/-- none of them -/
theorem kit_none {K : PySem.W.Frag} {t : Value} : ∀ {cs : List Value}, (∀ c ∈ cs, PySem.W.kitOne K t c = some false) → PySem.W.kitAny K t cs = some false
  | [], _ => rfl
  | c :: cs, h => by
    unfold PySem.W.kitAny
    rw [h c (List.mem_cons_self ..)]
    exact kit_none fun x hx => h x (List.mem_cons_of_mem _ hx)
/-- isinstance of the exception that a suite holds -/
structure HeldX (K : PySem.W.Frag) (cls : Value) (d : Option Addr) (D : Addr) (H : Hp) : Prop where
  c : cls = .ref D
  e : EC K D
  x : ∀ dx, d = some dx → ∃ fs, H dx = some (.xd fs)
def rIsC (K : PySem.W.Frag) (a : Addr) (cls : Value) (d : Option Addr) : List V → Hp → VK → Prop := fun xs H Q => ∃ (D : Addr) (c : V) (cv : Value) (b : Bool), xs = [.ref a, c] ∧ HeldX K cls d D H ∧ ClsV c cv ∧ PySem.W.kitOne K (.ref D) cv = some b ∧ Q (.bl b) H
def rIsT (K : PySem.W.Frag) (a : Addr) (cls : Value) (d : Option Addr) : List V → Hp → VK → Prop := fun xs H Q => ∃ (D t : Addr) (cs : List V) (cvs : List Value) (b : Bool), xs = [.ref a, .ref t] ∧ HeldX K cls d D H ∧ SqT K H t cs ∧ (∀ us, Vals cs us → us = cvs) ∧ PySem.W.kitAny K (.ref D) cvs = some b ∧ Q (.bl b) H
section
variable {X : Cx} {a : Addr} {oe : Obj} {pn : List (Addr × Obj)} {cls : Value} {d : Option Addr}
theorem held_inst {pins : List (Addr × Obj)} {σ : L2.St} {H : Hp} {s : Shared} {D : Addr} (I : Inv (X.suite a ((a, oe) :: pn)) pins σ H s) (hz : Zc cls d oe) (hf : ∃ vs, oe.data = .fields vs) (h : HeldX X.K cls d D H) : ∃ od, PySem.W.InstAt s.heap a oe D od := by
  obtain ⟨here, _⟩ := I.pin (a, oe) (List.mem_append_left _ (List.mem_cons_self ..))
  obtain ⟨vs, hv⟩ := hf
  have nc : PySem.W.notCls oe := by unfold PySem.W.notCls; rw [hv]
  cases d with
  | none => exact ⟨none, here, hz.1.trans h.c, nc, by rw [hz.2]; trivial⟩
  | some dx =>
    obtain ⟨fs, e⟩ := h.x dx rfl
    obtain ⟨mA, ns, _⟩ := (show ObjOk X.prog X.w H s.heap dx (.xd fs) from I.hok dx _ e)
    obtain ⟨od, ho, _⟩ := lookIn_ns ns
    exact ⟨some od, here, hz.1.trans h.c, nc, by rw [hz.2]; exact ho⟩
theorem call_isC (hz : Zc cls d oe) (hf : ∃ vs, oe.data = .fields vs) : CallR (X.suite a ((a, oe) :: pn)) (.builtin "isinstance") (rIsC X.K a cls d) := by
  rintro pins s σ H _ us Q I r ⟨D, c, cv, b, rfl, h, k, e, q⟩
  obtain ⟨ua, ub, rfl, ra, rb⟩ := vals2 r
  cases k.eq rb
  cases (show ua = Value.ref a from ra)
  obtain ⟨od, M⟩ := held_inst I hz hf h
  exact PySem.W.kia_one (PySem.W.kitx_exc h.e.cl h.e.x.ga h.e.x.gg h.e.x.exC h.e.ofc h.e.sp h.e.tk h.e.mo) I.kIn M e (fun z => nomatch z) fun tk => ⟨.bl b, H, I.tok tk, rfl, q⟩
theorem call_isT (hz : Zc cls d oe) (hf : ∃ vs, oe.data = .fields vs) : CallR (X.suite a ((a, oe) :: pn)) (.builtin "isinstance") (rIsT X.K a cls d) := by
  rintro pins s σ H _ us Q I r ⟨D, t, cs, cvs, b, rfl, h, ht, all, e, q⟩
  obtain ⟨ua, ub, rfl, ra, rb⟩ := vals2 r
  cases (show ua = Value.ref a from ra)
  cases (show ub = Value.ref t from rb)
  obtain ⟨od, M⟩ := held_inst I hz hf h
  obtain ⟨its, rv, ⟨⟨tc, dd, da, ss⟩, at0, c0, n, d0⟩, _⟩ := I.tuple ht
  cases c0
  cases d0
  cases all its rv
  exact PySem.W.kia_tup (PySem.W.kitx_exc h.e.cl h.e.x.ga h.e.x.gg h.e.x.exC h.e.ofc h.e.sp h.e.tk h.e.mo) I.kIn M at0 e (fun z => nomatch z) fun tk => ⟨.bl b, H, I.tok tk, rfl, q⟩
end
/-- two classes of unlike names are not one -/
theorem CF.ne {K : PySem.W.Frag} {mg : Str → Option Value} {x y q1 q2 : Str} {s1 s2 : Stmt} {p1 p2 : List Str} {E C1 C2 f1 f2 : Addr} {d1 d2 : FuncData} (a : CF K mg x q1 s1 p1 E C1 f1 d1) (b : CF K mg y q2 s2 p2 E C2 f2 d2) (n : q1 ≠ q2) : C1 ≠ C2 := fun e => by
  subst e
  have ef : f1 = f2 := by
    have := a.i.symm.trans b.i
    cases this
    rfl
  subst ef
  obtain ⟨oc, od, kV, doc, pm, an, c, ct, osl, rfl, l1, _⟩ := a.F.ex
  obtain ⟨oc', od', kV', doc', pm', an', c', ct', osl', rfl, l2, _⟩ := b.F.ex
  rw [l1] at l2
  simp only [Option.some.injEq, Obj.mk.injEq, Data.func.injEq] at l2
  exact n (by have := congrArg (·.qualname) l2.2.2.1; exact this)
end Fw
set_option maxHeartbeats 2000000
namespace Fw
open PySem PySem.Spec PyProof.Rows L2
/-- an error class that can be raised, with all that is told of it -/
structure Er1 (P : Program) (w : World) (K : PySem.W.Frag) (mg : Str → Option Value) (base : Heap) (x q fld : Str) (E C : Addr) : Prop where
  r : ErR P w K mg base x fld E C
  c : ∃ st f fd, CF K mg x q st ["self", fld] E C f fd
theorem Er1.ne {P : Program} {w : World} {K : PySem.W.Frag} {mg : Str → Option Value} {base : Heap} {x y q1 q2 f1 f2 : Str} {E C1 C2 : Addr} (a : Er1 P w K mg base x q1 f1 E C1) (b : Er1 P w K mg base y q2 f2 E C2) (n : q1 ≠ q2) : C1 ≠ C2 := by
  obtain ⟨_, _, _, a⟩ := a.c
  obtain ⟨_, _, _, b⟩ := b.c
  exact a.ne b n
/-- e of class C is no D -/
theorem Er1.isnt {P : Program} {w : World} {K : PySem.W.Frag} {mg : Str → Option Value} {base : Heap} {x y q1 q2 f1 f2 : Str} {E C1 C2 : Addr} (a : Er1 P w K mg base x q1 f1 E C1) (b : Er1 P w K mg base y q2 f2 E C2) (h : HE K mg E) (n : q1 ≠ q2) : PySem.W.kitOne K (.ref C1) (.ref C2) = some false := by
  rw [kitR a.r.mro b.r.e.cl b.r.e.o.tyC, decide_eq_false]
  rintro (e | e)
  · exact a.ne b n e.symm
  · exact h.ne b.r.mro e
theorem Er1.is {P : Program} {w : World} {K : PySem.W.Frag} {mg : Str → Option Value} {base : Heap} {x q1 f1 : Str} {E C1 : Addr} (a : Er1 P w K mg base x q1 f1 E C1) : PySem.W.kitOne K (.ref C1) (.ref C1) = some true := by
  rw [kitR a.r.mro a.r.e.cl a.r.e.o.tyC, decide_eq_true (.inl rfl)]
section
variable {P : Program} {w : World} {K : PySem.W.Frag} {mg : Str → Option Value} {base : Heap} {E : Addr}
theorem HE.names {X : Cx} {E : Addr} (h : HE X.K X.mg E) (g : Gl X "HouseError") : L2.Names X "HouseError" (.ref E) := ⟨g, by decide, .inl h.g⟩
theorem er1_UnknownPerson (c : CEE K mg E "UnknownPerson" "UnknownPerson.__init__" "name" iUnknownPerson) : ∃ C, Er1 P w K mg base "UnknownPerson" "UnknownPerson.__init__" "name" E C := by
  obtain ⟨C, f, fd, c, no⟩ := c
  refine ⟨C, ⟨c.e, c.g, c.mro, no, f, fd, c.i, c.t, c.b, ?_⟩, _, _, _, c⟩
  refine Fun.ok c.F (N := ["self", "name"]) ⟨rfl, rfl, rfl, by decide +kernel, rfl, by decide +kernel, by decide +kernel⟩ (fun vs H Q E h => ?_) (fun cdv A outer s H vs Q E hr h => ?_)
  · obtain ⟨a, v, rfl, _⟩ := h
    rfl
  · obtain ⟨a, v, rfl, ea, q⟩ := h
    exact ⟨_, pss_one (ps_ost (pv 0) (pv 1)), _, rfl, _, rfl, a, C, rfl, c.e.o, no, .inl ⟨ea, q⟩⟩
theorem er1_InvalidRoom (c : CEE K mg E "InvalidRoom" "InvalidRoom.__init__" "room" iInvalidRoom) : ∃ C, Er1 P w K mg base "InvalidRoom" "InvalidRoom.__init__" "room" E C := by
  obtain ⟨C, f, fd, c, no⟩ := c
  refine ⟨C, ⟨c.e, c.g, c.mro, no, f, fd, c.i, c.t, c.b, ?_⟩, _, _, _, c⟩
  refine Fun.ok c.F (N := ["self", "room"]) ⟨rfl, rfl, rfl, by decide +kernel, rfl, by decide +kernel, by decide +kernel⟩ (fun vs H Q E h => ?_) (fun cdv A outer s H vs Q E hr h => ?_)
  · obtain ⟨a, v, rfl, _⟩ := h
    rfl
  · obtain ⟨a, v, rfl, ea, q⟩ := h
    exact ⟨_, pss_one (ps_ost (pv 0) (pv 1)), _, rfl, _, rfl, a, C, rfl, c.e.o, no, .inl ⟨ea, q⟩⟩
theorem er1_NotAdjacent (c : CEE K mg E "NotAdjacent" "NotAdjacent.__init__" "room" iNotAdjacent) : ∃ C, Er1 P w K mg base "NotAdjacent" "NotAdjacent.__init__" "room" E C := by
  obtain ⟨C, f, fd, c, no⟩ := c
  refine ⟨C, ⟨c.e, c.g, c.mro, no, f, fd, c.i, c.t, c.b, ?_⟩, _, _, _, c⟩
  refine Fun.ok c.F (N := ["self", "room"]) ⟨rfl, rfl, rfl, by decide +kernel, rfl, by decide +kernel, by decide +kernel⟩ (fun vs H Q E h => ?_) (fun cdv A outer s H vs Q E hr h => ?_)
  · obtain ⟨a, v, rfl, _⟩ := h
    rfl
  · obtain ⟨a, v, rfl, ea, q⟩ := h
    exact ⟨_, pss_one (ps_ost (pv 0) (pv 1)), _, rfl, _, rfl, a, C, rfl, c.e.o, no, .inl ⟨ea, q⟩⟩
theorem er1_EmptyRoom (c : CEE K mg E "EmptyRoom" "EmptyRoom.__init__" "room" iEmptyRoom) : ∃ C, Er1 P w K mg base "EmptyRoom" "EmptyRoom.__init__" "room" E C := by
  obtain ⟨C, f, fd, c, no⟩ := c
  refine ⟨C, ⟨c.e, c.g, c.mro, no, f, fd, c.i, c.t, c.b, ?_⟩, _, _, _, c⟩
  refine Fun.ok c.F (N := ["self", "room"]) ⟨rfl, rfl, rfl, by decide +kernel, rfl, by decide +kernel, by decide +kernel⟩ (fun vs H Q E h => ?_) (fun cdv A outer s H vs Q E hr h => ?_)
  · obtain ⟨a, v, rfl, _⟩ := h
    rfl
  · obtain ⟨a, v, rfl, ea, q⟩ := h
    exact ⟨_, pss_one (ps_ost (pv 0) (pv 1)), _, rfl, _, rfl, a, C, rfl, c.e.o, no, .inl ⟨ea, q⟩⟩
theorem er1_InvalidMoves (c : CEE K mg E "InvalidMoves" "InvalidMoves.__init__" "position" iInvalidMoves) : ∃ C, Er1 P w K mg base "InvalidMoves" "InvalidMoves.__init__" "position" E C := by
  obtain ⟨C, f, fd, c, no⟩ := c
  refine ⟨C, ⟨c.e, c.g, c.mro, no, f, fd, c.i, c.t, c.b, ?_⟩, _, _, _, c⟩
  refine Fun.ok c.F (N := ["self", "position"]) ⟨rfl, rfl, rfl, by decide +kernel, rfl, by decide +kernel, by decide +kernel⟩ (fun vs H Q E h => ?_) (fun cdv A outer s H vs Q E hr h => ?_)
  · obtain ⟨a, v, rfl, _⟩ := h
    rfl
  · obtain ⟨a, v, rfl, ea, q⟩ := h
    exact ⟨_, pss_one (ps_ost (pv 0) (pv 1)), _, rfl, _, rfl, a, C, rfl, c.e.o, no, .inl ⟨ea, q⟩⟩
end
end Fw
namespace Fw
open PySem PySem.Spec PyProof.Rows L2
/-- a statement that raises nothing, in a def that may raise -/
theorem ps_calm {X : Cx} {st : Stmt} {t : TS} (h : PS X.nox st t) : PS X st t := by
  constructor
  intro pins z σ H D I rd
  exact wpAny_mono (h.run pins z σ H D (I.wish _) rd) (fun _ _ => L2.SP.unwish) fun _ _ no => no.elim
section
variable {P : Program} {w : World} {K : PySem.W.Frag} {mg : Str → Option Value} {base : Heap}
end
end Fw
set_option maxHeartbeats 2000000
namespace Fw
open PySem PySem.Spec PyProof.Rows L2
/-! errors that are caught by a clause whose suite raises another one -/
section
variable {P : Program} {w : World} {K : PySem.W.Frag} {mg : Str → Option Value} {base : Heap}
/-- a def that may raise errors whose context is None -/
theorem Fun.okN {x qual : Str} {st : Stmt} {f : Addr} {fd : FuncData} {N ps : List Str} {k : Nat} {sp : Sp} (F : Fun K x qual st f fd) (S : FnScope N ps (defScope st)) (len : ∀ vs H Q E, sp vs H Q E → vs.length = ps.length)
    (body : ∀ (cdv : Value) (A : Around) (outer : List Env) (s : Shared) (H : Hp) (vs : List V) (Q : VK) (E : XK), Room k (A.deeper (envOfC qual (defScope st) s.heap.objs.size f cdv)) → sp vs H Q E →
      ∃ t, PSs (cxOf (L2N.CX P w) P w K mg base N qual (defScope st) f cdv A outer s H E) (defBody st) t ∧ t { nx := fun _ H' => Q .non H', rt := Q } (L2.start N vs) H) : FnOk P w K mg base (L2N.CX P w) (k + 1) f fd ps sp :=
  match F.ex with
  | ⟨_, _, _, _, _, _, cdv, _, _, e, lk, cd⟩ => e ▸ fn_of (e ▸ lk) cd S len fun A outer s H vs Q E hr h => body cdv A outer s H vs Q E hr h
/-- a def that is called where an error is handled -/
theorem Fun.okH {x qual : Str} {st : Stmt} {f : Addr} {fd : FuncData} {N ps : List Str} {k : Nat} {sp : Sp} (F : Fun K x qual st f fd) (S : FnScope N ps (defScope st)) (len : ∀ vs H Q E, sp vs H Q E → vs.length = ps.length)
    (body : ∀ (cdv : Value) (A : Around) (outer : List Env) (s : Shared) (H : Hp) (vs : List V) (Q : VK) (E : XK) (p : Addr × Obj), L2H.RoomH k (A.deeper (envOfC qual (defScope st) s.heap.objs.size f cdv)) → sp vs H Q E →
      ∃ t, PSs (L2H.cxH CX0 P w K mg base N qual (defScope st) f cdv A outer s H E p) (defBody st) t ∧ t { nx := fun _ H' => Q .non H', rt := Q } (L2.start N vs) H) : L2H.FnH P w K mg base CX0 (k + 1) f fd ps sp :=
  match F.ex with
  | ⟨_, _, _, _, _, _, cdv, _, _, e, lk, cd⟩ => e ▸ L2H.fn_ofH (e ▸ lk) cd S len fun A outer s H vs Q E p _ hr h => body cdv A outer s H vs Q E p hr h
def CalN (P : Program) (w : World) (K : PySem.W.Frag) (mg : Str → Option Value) (base : Heap) (k : Nat) (x : Str) (ps : List Str) (sp : Sp) : Prop :=
  ∃ f fd, mg x = some (.ref f) ∧ PySem.W.keepIn K (.ref f) = true ∧ Binds K fd ps [] ∧ FnOk P w K mg base (L2N.CX P w) k f fd ps sp
theorem DefE.calN {x : Str} {st : Stmt} {ps : List Str} {k : Nat} {sp : Sp} (D : DefE K mg x st ps) (h : ∀ f fd, Def K mg x st f fd ps → FnOk P w K mg base (L2N.CX P w) k f fd ps sp) : CalN P w K mg base k x ps sp := by
  obtain ⟨f, fd, d⟩ := D
  exact ⟨f, fd, d.g, d.F.kp, d.b, h f fd d⟩
theorem CalN.up {j k : Nat} {x : Str} {ps : List Str} {sp : Sp} (C : CalN P w K mg base j x ps sp) (h : j ≤ k) : CalN P w K mg base k x ps sp := by
  obtain ⟨f, fd, a, b, c, d⟩ := C
  exact ⟨f, fd, a, b, c, d.mono h⟩
end
theorem pe_calN {X : Cx} {W : WX} {k : Nat} {ps : List Str} {sp : Sp} {x : Str} {p pos : Pos} {e : Expr} {es : List Expr} {t : TA} (C : CalN X.prog X.w X.K X.mg X.base k x ps sp) (tk : L2N.Takes X W) (hr : Room k X.A) (hg : Gl X x) (ha : PA X (e :: es) t) (hdb : (x == ("__debug__" : Str)) = false := by decide)
    (h1 : starEach (e :: es) X.env = (false, eval e X.env) :: starEach es X.env := by rfl) (h2 : (backTo pos (starEach es X.env)).any (·.1) = false := by rfl) : PE X (.Call (.Name x p) (e :: es) [] pos) (tCallS sp (WE W) t) := by
  obtain ⟨f, fd, a, b, c, d⟩ := C
  exact pe_callS d hr hg a b c (fun σ => L2N.passAt tk σ) ha hdb h1 h2
/-! ### C(e), whose context is told to be None -/
/-- what is asked of the making of an error with one field -/
def Asks (C : Addr) (fld : Str) (Q : XK) (vs : List V) (H1 : Hp) : Prop := ∃ v, vs = [v] ∧ ∀ d H', Same H1 H' → H' d = some (.xd [(fld, v)]) → Q (.ref C) (some d) H'
def tErr (C : Addr) (fld : Str) (te : TE) : L2.St → Hp → XK → Prop := fun σ H Q => te σ H fun v H1 => Asks C fld Q [v] H1
section
variable {X : Cx} {x fld : Str} {E C : Addr}
/-- the object is there, its record is told -/
theorem born {pins : List (Addr × Obj)} {σ : L2.St} {H : Hp} {Q : XK} {z : Shared} {v : V} {u : Value} {k : Nat} (R : ErR X.prog X.w X.K X.mg X.base x fld E C) (hr : Room (k + 2) X.A) (I : Inv X pins σ H z) (rv : RelV v u) (q : ∀ d H', Same H H' → H' d = some (.xd [(fld, v)]) → Q (.ref C) (some d) H') :
    wpAny (model X.prog X.w) X.A (call (.ref C) [u]) (L2N.MkP X pins σ Q) X.xe z := by
  obtain ⟨fi, fd, iC, tI, bd, ok⟩ := R.i
  obtain ⟨nm, qn, N, bs, bm, sn, sub, ab, col, dd, _, _, _, _, _, hC, hb⟩ := R.e.o.cls
  obtain ⟨hp, gens, drawn, toks, os⟩ := z
  -- its place, and the heap with it
  let at1 : Addr := hp.objs.size + 1
  let hp1 : Heap := (hp.push (PySem.W.kdv_tup [u])).push (PySem.HandSPX.excO C hp.objs.size)
  have free : H at1 = none := I.hok.fresh (Nat.le_succ _)
  have stay : ∀ b o, hp.get? b = some o → hp1.get? b = some o := fun b o e => Heap.get?_push_of_some _ (Heap.get?_push_of_some _ e)
  have there : hp1.get? at1 = some (PySem.HandSPX.excO C hp.objs.size) := by
    show ((hp.push (PySem.W.kdv_tup [u])).push (PySem.HandSPX.excO C hp.objs.size)).get? (hp.objs.size + 1) = _
    heap_get
  have J : Inv X pins σ (upd H at1 (exo at1 C none)) ⟨hp1, gens, drawn, toks, os⟩ := I.laid stay (Nat.le_succ _) (exo_ok there)
  have want := (raise_end (fld := fld) (C := C) q).2 at1 free
  have two : Vals [V.ref at1, v] [Value.ref at1, u] := .cons rfl (.cons rv .nil)
  have bind := bd _ [Value.ref at1, u] J.kIn rfl
  have body := (ok.mono (Nat.le_add_left 1 k)).run _ X.stack _ _ ⟨[.ref at1, u], []⟩ [.ref at1, u] _ _ (fun _ _ _ => False) (hr.make C [u] []) (J.env0.make C [u] []) bind two want
  refine wpAny_call (PySem.HandSPX.call_own PySem.F.excBase_ValueError (fun Y => PySem.HandSPX.refsVE_contains Y bm hb) (I.kIn _ _ hC) (PySem.W.looks_findIn I.kIn iC) (fun self => PySem.W.bind_fn I.kIn self tI) (by show 1 ≤ sizeLine; decide) (codeAny_mono body fun r z2 got => ?_))
  match r, got with
  | .error _, no => exact no.elim
  | .ok .next, no => exact no.elim
  | .ok .brk, no => exact no.elim
  | .ok .cont, no => exact no.elim
  | .ok (.ret _), ⟨y, H2, eos, bare, un, hok, rel, en, d, fs, ea, ed, nd, qq⟩ =>
    subst en
    obtain ⟨h2, g2, d2, t2, os2⟩ := z2
    obtain ⟨t0, G, JG, sub, gone, rec, na⟩ := mk_end0 (d2 := d2) (t2 := t2) I (Nat.le_succ _) stay un hok eos bare ea ed nd
    exact ⟨rel, at1, _, _, ⟨G, g2, d2, t2, os2⟩, _, .ref C, some d, rfl, JG, sub, gone, rec, ⟨rfl, rfl, fun vs e => by cases e; rfl⟩, rfl, rfl, na, rfl, bare, raises_own R.e.o.exC R.e.o.tyC, qq⟩
theorem pmk_erN {k : Nat} {p pos : Pos} {e : Expr} {te : TE} (R : ErR X.prog X.w X.K X.mg X.base x fld E C) (hr : Room (k + 2) X.A) (hg : Gl X x) (he : PE X e te) (hdb : (x == ("__debug__" : Str)) = false := by decide)
    (h1 : starEach [e] X.env = (false, eval e X.env) :: starEach [] X.env := by rfl) (h2 : (backTo pos (starEach [] X.env)).any (·.1) = false := by rfl) : L2N.PMk X (.Call (.Name x p) [e] [] pos) (tErr C fld te) := by
  intro pins z σ H Q I h
  refine wpAny_Call_Name_kw (ld_glob I hg R.g (PySem.W.callWith_K (h₀ := X.base) I.ok.mod.kin R.e.o.kC (thn ((pa_cons he pa_nil (hs := h1)).run pos pins z σ H (Asks C fld Q) I h) ?_) h1 h2) hdb)
  rintro us z1 ⟨vs, H1, J, rel, v, rfl, q⟩
  obtain ⟨u, rfl, ru⟩ := vals1 rel
  exact ⟨J.kIn, born R hr J ru q⟩
end
/-! ### C(e) while an error is handled -/
structure ErH (P : Program) (w : World) (K : PySem.W.Frag) (mg : Str → Option Value) (base : Heap) (fld : Str) (C : Addr) : Prop where
  i : ∃ f fd, PySem.W.findIn K (.ref C) "__init__" = some (some (.ref f)) ∧ PySem.W.typeIn K (.ref f) = some (.type "function") ∧ Binds K fd ["self", fld] [] ∧ L2H.FnH P w K mg base CX0 1 f fd ["self", fld] (spIniF fld C)
theorem FnH.up {P : Program} {w : World} {K : PySem.W.Frag} {mg : Str → Option Value} {base : Heap} {CX : CXT} {j k : Nat} {f : Addr} {fd : FuncData} {ps : List Str} {sp : Sp} (h : L2H.FnH P w K mg base CX j f fd ps sp) (jk : j ≤ k) : L2H.FnH P w K mg base CX k f fd ps sp :=
  ⟨h.len, fun A outer s H args us vs Q E p r => h.run A outer s H args us vs Q E p (r.mono jk)⟩
theorem pmk5_er {X : Cx} {x fld : Str} {E C : Addr} {k : Nat} {p pos : Pos} {e : Expr} {te : TE} (R : ErR X.prog X.w X.K X.mg X.base x fld E C) (h : ErH X.prog X.w X.K X.mg X.base fld C) (hr : L2H.RoomH (k + 2) X.A) (hc : L2H.HotC X) (hg : Gl X x) (he : PE X e te) (hdb : (x == ("__debug__" : Str)) = false := by decide)
    (h1 : starEach [e] X.env = (false, eval e X.env) :: starEach [] X.env := by rfl) (h2 : (backTo pos (starEach [] X.env)).any (·.1) = false := by rfl) : L2H.PMk5 X (.Call (.Name x p) [e] [] pos) (tMkO C (spIniF fld C) [] (tCons te tNil)) := by
  obtain ⟨f, fd, a, b, c, d⟩ := h.i
  exact L2H.pmk5_oexH R.e.o a b (FnH.up d (Nat.le_add_left 1 k)) hr hc c pass0 hg R.g (pa_cons he pa_nil (hs := h1)) hdb h1 h2
theorem erh_InvalidMoves {P : Program} {w : World} {K : PySem.W.Frag} {mg : Str → Option Value} {base : Heap} {E C0 : Addr} (c : CEE K mg E "InvalidMoves" "InvalidMoves.__init__" "position" iInvalidMoves) (g : mg "InvalidMoves" = some (.ref C0)) : ErH P w K mg base "position" C0 := by
  obtain ⟨C, f, fd, c, no⟩ := c
  have eC : C = C0 := by
    have := c.g.symm.trans g
    injection this with this
    injection this
  subst eC
  refine ⟨f, fd, c.i, c.t, c.b, ?_⟩
  refine Fun.okH c.F (N := ["self", "position"]) ⟨rfl, rfl, rfl, by decide +kernel, rfl, by decide +kernel, by decide +kernel⟩ (fun vs H Q E h => ?_) (fun cdv A outer s H vs Q E p hr h => ?_)
  · obtain ⟨a, v, rfl, _⟩ := h
    rfl
  · obtain ⟨a, v, rfl, ea, q⟩ := h
    exact ⟨_, pss_one (ps_ost (pv 0) (pv 1)), _, rfl, _, rfl, a, C, rfl, c.e.o, no, .inl ⟨ea, q⟩⟩
end Fw
namespace Fw
open PySem PySem.Spec PyProof.Rows L2
theorem le_sz {n : Nat} (h : n ≤ 100) : n ≤ sizeLine := Nat.le_trans h (by decide)
theorem rd_sm {H H1 : Hp} (s : Same H H1) {a : Addr} {o : HO} (h : Rd H a o) : Rd H1 a o := by
  rcases h with e | ⟨ob, e⟩
  · exact .inl (s _ _ e)
  · exact .inr ⟨ob, s _ _ e⟩
theorem sqL_sm {K : PySem.W.Frag} {H H1 : Hp} (s : Same H H1) {a : Addr} {xs : List V} (h : SqL K H a xs) : SqL K H1 a xs := by
  rcases h with e | e
  · exact .inl (rd_sm s e)
  · exact .inr e
theorem sqT_sm {K : PySem.W.Frag} {H H1 : Hp} (s : Same H H1) {a : Addr} {xs : List V} (h : SqT K H a xs) : SqT K H1 a xs := by
  rcases h with e | e
  · exact .inl (rd_sm s e)
  · exact .inr e
theorem same_put8 {H H8 : Hp} (s : Same H H8) {D : Addr} {o : HO} (hD : H D = none) : Same H (upd H8 D o) := fun b u e => by
  rw [upd_ne (ne_of_none e hD)]
  exact s b u e
def datas : List PyData := [.none, .bool true, .bool false, .int 0, .int 1, .int (-1), .int 9, .int (10 ^ (59 : Int).toNat), .str "", .str "a", .str "A", .str "a1", .str "abcdefghi", .tuple [], .list [], .dict [], .tuple [.int 0], .tuple [.int 1, .int 0], .list [.int 0, .int 1],
  .tuple [.int 0, .int 0], .tuple [.int 0, .int 1, .int 2], .tuple [.tuple [.int 0, .int 1]], .tuple [.str "a", .int 0], .str "a b", .tuple [.tuple [.str "a", .int 0]]]
abbrev nRand : List Str := ["_law_stream_here", "_law_some"]
theorem scRand : FnScope nRand ["_law_stream_here"] (defScope sRand) := ⟨rfl, rfl, rfl, by decide +kernel, rfl, by decide +kernel, by decide +kernel⟩
end Fw
set_option maxHeartbeats 2000000
namespace Fw
open PySem PySem.Spec PyProof.Rows L2
/-! any value of the laws: data, with {} as a leaf; no list of it is sys.modules or among av -/
mutual
inductive Dx (K : PySem.W.Frag) (av : List Addr) (H : Hp) : V → PyData → Prop
  | non : Dx K av H .non .none
  | bl (b : Bool) : Dx K av H (.bl b) (.bool b)
  | int (i : Int) : Dx K av H (.int i) (.int i)
  | str (x : Str) : Dx K av H (.str x) (.str x)
  | lst {a : Addr} {xs : List V} {ds : List PyData} : SqL K H a xs → a ∉ sysModules :: av → DxAll K av H xs ds → Dx K av H (.ref a) (.list ds)
  | tup {a : Addr} {xs : List V} {ds : List PyData} : SqT K H a xs → DxAll K av H xs ds → Dx K av H (.ref a) (.tuple ds)
  | dct {a : Addr} : H a = some (.dK []) → Dx K av H (.ref a) (.dict [])
inductive DxAll (K : PySem.W.Frag) (av : List Addr) (H : Hp) : List V → List PyData → Prop
  | nil : DxAll K av H [] []
  | cons {v : V} {vs : List V} {d : PyData} {ds : List PyData} : Dx K av H v d → DxAll K av H vs ds → DxAll K av H (v :: vs) (d :: ds)
end
mutual
theorem dx_sm {K : PySem.W.Frag} {av : List Addr} {H H1 : Hp} (s : Same H H1) : ∀ {v : V} {d : PyData}, Dx K av H v d → Dx K av H1 v d
  | _, _, .non => .non
  | _, _, .bl b => .bl b
  | _, _, .int i => .int i
  | _, _, .str x => .str x
  | _, _, .lst h n a => .lst (sqL_sm s h) n (dxA_sm s a)
  | _, _, .tup h a => .tup (sqT_sm s h) (dxA_sm s a)
  | _, _, .dct e => .dct (s _ _ e)
theorem dxA_sm {K : PySem.W.Frag} {av : List Addr} {H H1 : Hp} (s : Same H H1) : ∀ {v : List V} {d : List PyData}, DxAll K av H v d → DxAll K av H1 v d
  | _, _, .nil => .nil
  | _, _, .cons h a => .cons (dx_sm s h) (dxA_sm s a)
end
theorem rd_fr {s A B : Addr} {c : Nat} {H H1 : Hp} (hS : StreamAt H s A B c) (f : Fr s A H H1) {a : Addr} {xs : List V} (h : Rd H a (.tup xs)) : Rd H1 a (.tup xs) := by
  obtain ⟨big, cells, cnt, h1, h2, h3, _⟩ := hS.ex
  rcases h with e | ⟨ob, e⟩
  · exact .inl (f _ _ (ne_of e h1 (by intro q; cases q)) (ne_of e h2 (by intro q; cases q)) e)
  · exact .inr ⟨ob, f _ _ (ne_of e h1 (by intro q; cases q)) (ne_of e h2 (by intro q; cases q)) e⟩
mutual
theorem dx_fr {K : PySem.W.Frag} {s A B : Addr} {c : Nat} {H H1 : Hp} (hS : StreamAt H s A B c) (f : Fr s A H H1) : ∀ {v : V} {d : PyData}, Dx K [s, A] H v d → Dx K [s, A] H1 v d
  | _, _, .non => .non
  | _, _, .bl b => .bl b
  | _, _, .int i => .int i
  | _, _, .str x => .str x
  | _, _, .lst (a := a) h n t => .lst (by
      have n1 : a ≠ s := fun z => n (by simp [z])
      have n2 : a ≠ A := fun z => n (by simp [z])
      rcases h with (e | ⟨ob, e⟩) | e
      · exact .inl (.inl (f _ _ n1 n2 e))
      · exact .inl (.inr ⟨ob, f _ _ n1 n2 e⟩)
      · exact .inr e) n (dxA_fr hS f t)
  | _, _, .tup h t => .tup (by
      rcases h with e | e
      · exact .inl (rd_fr hS f e)
      · exact .inr e) (dxA_fr hS f t)
  | _, _, .dct e => .dct (by
      obtain ⟨big, cells, cnt, h1, h2, h3, _⟩ := hS.ex
      exact f _ _ (ne_of e h1 (by intro q; cases q)) (ne_of e h2 (by intro q; cases q)) e)
theorem dxA_fr {K : PySem.W.Frag} {s A B : Addr} {c : Nat} {H H1 : Hp} (hS : StreamAt H s A B c) (f : Fr s A H H1) : ∀ {v : List V} {d : List PyData}, DxAll K [s, A] H v d → DxAll K [s, A] H1 v d
  | _, _, .nil => .nil
  | _, _, .cons h t => .cons (dx_fr hS f h) (dxA_fr hS f t)
end
section
variable {X : Cx} {av : List Addr} {pins : List (Addr × Obj)} {σ : L2.St} {H : Hp} {s : Shared}
mutual
theorem dx_reads (I : Inv X pins σ H s) : ∀ {v : V} {d : PyData} {u : Value}, Dx X.K av H v d → RelV v u → ∃ as, Reads s.heap u d as ∧ sysModules ∉ as
  | _, _, _, .non, r => by
    cases r
    exact ⟨_, .none, fun z => nomatch z⟩
  | _, _, _, .bl b, r => by
    cases r
    exact ⟨_, .bool b, fun z => nomatch z⟩
  | _, _, _, .int i, r => by
    obtain ⟨t, rfl⟩ := r
    exact ⟨_, .int i t, fun z => nomatch z⟩
  | _, _, _, .str x, r => by
    obtain ⟨t, rfl⟩ := r
    exact ⟨_, .str x t, fun z => nomatch z⟩
  | _, _, _, .lst h n a, r => by
    cases r
    obtain ⟨its, rv, ⟨ob, k, ho, hc, _, hd⟩, _⟩ := I.list h
    obtain ⟨as, ra, na⟩ := dxA_reads I a rv
    refine ⟨_, .list ho hc hd ra, fun z => ?_⟩
    rcases List.mem_cons.mp z with e | e
    · exact n (e ▸ List.mem_cons_self)
    · exact na e
  | _, _, _, .tup h a, r => by
    cases r
    obtain ⟨its, rv, ⟨ob, ho, hc, k, hd⟩, _⟩ := I.tuple h
    obtain ⟨as, ra, na⟩ := dxA_reads I a rv
    exact ⟨_, .tuple ho hc hd ra, na⟩
  | _, _, _, .dct (a := a) e, r => by
    cases r
    obtain ⟨_, y, vs, kv, o, es, ep, ho, hx, hd, _, hp, _⟩ := (show ObjOk X.prog X.w H s.heap a (.dK []) from I.hok a _ e)
    cases kv
    have e0 : es.toList = [] := by
      generalize es.toList = l at hp
      cases hp
      rfl
    refine ⟨_, Reads.dict (kvs := []) ho hx.1 hd (by rw [e0]; exact .nil) (by rw [e0]; exact .nil), fun z => ?_⟩
    have z' : sysModules ∈ [a] := z
    rw [List.mem_singleton.mp z'] at y
    simp at y
theorem dxA_reads (I : Inv X pins σ H s) : ∀ {vs : List V} {ds : List PyData} {us : List Value}, DxAll X.K av H vs ds → Vals vs us → ∃ as, ReadsAll s.heap us ds as ∧ sysModules ∉ as
  | _, _, _, .nil, r => by
    cases r
    exact ⟨_, .nil, fun z => nomatch z⟩
  | _, _, _, .cons h t, r => by
    cases r with
    | cons r1 r2 =>
      obtain ⟨as, q1, n1⟩ := dx_reads I h r1
      obtain ⟨bs, q2, n2⟩ := dxA_reads I t r2
      exact ⟨_, .cons q1 q2, fun z => (List.mem_append.mp z).elim n1 n2⟩
end
/-- repr of such a value that lies in memory -/
def rReprD (K : PySem.W.Frag) (av : List Addr) : List V → Hp → VK → Prop := fun vs H Q => ∃ (a : Addr) (d : PyData), vs = [.ref a] ∧ Dx K av H (.ref a) d ∧ d.showable = true ∧ d.depth ≤ 60 ∧ d.shown.length ≤ sizeLine ∧ Q (.str d.shown) H
theorem call_reprD {X : Cx} (hg : X.A.guards = some []) (hu : X.A.units + 65 < cLine) : CallR X (.builtin "repr") (rReprD X.K av) := by
  intro pn sh σ H vs us Q J rr hh
  obtain ⟨a, d, rfl, hd, hs, hp, hz, q⟩ := hh
  obtain ⟨ua, rfl, ra⟩ := vals1 rr
  cases (show ua = Value.ref a from ra)
  obtain ⟨as, rd, nn⟩ := dx_reads J hd rfl
  exact repr_of_reads' rd hs (fun _ => nn) hg (by omega) (fun _ _ e => e) (fun h' t tk hk => ⟨.str _, H, J.kept hk, ⟨_, rfl⟩, q⟩) hz
end
end Fw
set_option maxHeartbeats 2000000
namespace Fw
open PySem PySem.Spec PyProof.Rows L2
/-! new lists that are told not to be sys.modules -/
section
variable {X : Cx} {es : List Expr} {t : TA} {pos : Pos}
def tLstN (t : TA) : TE := fun σ H Q => t σ H fun xs H1 => xs.length ≤ sizeLine ∧ ∀ p, H1 p = none → p ≠ sysModules → Q (.ref p) (upd H1 p (.lst xs))
theorem pe_lstN (h : PA X es t) : PE X (.List es pos) (tLstN t) :=
  ⟨fun pn sh σ H Q J hq => wpAny_List_spliced (thn (h.run pos pn sh σ H _ J hq) fun us s1 ⟨xs, H1, J1, rs, z, q⟩ =>
    ⟨rs.length ▸ z, .ref _, _, J1.lnew (t' := s1.toks) rs z, rfl, q _ J1.fresh fun e => Nat.ne_of_lt J1.big e.symm⟩)⟩
/-- list(t), t a tuple -/
def rListN (K : PySem.W.Frag) : List V → Hp → VK → Prop := fun xs H Q => ∃ (p : Addr) (ys : List V), xs = [.ref p] ∧ SqT K H p ys ∧ ∀ l, H l = none → l ≠ sysModules → Q (.ref l) (upd H l (.lst ys))
theorem call_listN : CallR X (.type "list") (rListN X.K) := by
  intro pn sh σ H xs us Q J rr hh
  obtain ⟨p, ys, rfl, hq, q⟩ := hh
  obtain ⟨ua, rfl, ra⟩ := vals1 rr
  cases ra
  obtain ⟨its, r', pl, hz⟩ := J.tuple hq
  obtain ⟨o, ho, hc, n, hd⟩ := pl
  have hl := r'.length
  refine call_list_seq p (.inr rfl) ho hc hd (fun h' c' kp e => ?_) (by simp only [List.size_toArray]; omega)
  exact ⟨.ref sh.heap.objs.size, _, J.laid (t' := sh.toks) kp (Nat.le_refl _) (show ObjOk X.prog X.w _ h' _ (.lst ys) from ⟨hz, its, c', r', e⟩), rfl, q _ (J.hok.fresh (Nat.le_refl _)) fun e => Nat.ne_of_lt J.big e.symm⟩
end
end Fw
set_option maxHeartbeats 2000000
namespace Fw
open PySem PySem.Spec PyProof.Rows L2
/-! ### a text and any value -/
theorem decl_str (b : Str) (u : Tok) (l : Addr) (dd : Option Addr) (es : Array DictEntry) (n : Nat) (ss : Array (Option Value)) :
    Meets (Builtin.«str.__eq__» ⟨[.str b u, .ref l], []⟩) (fun _ R s => s.heap.get? l = some { cls := .type "dict", dict := dd, data := .dict es n, slots := ss } ∧ R (.ok (.ret .notImplemented)) s) :=
  .of_wp fun prog w A R s h => by
    obtain ⟨hp, g, d, tk, os⟩ := s
    obtain ⟨hl, h⟩ := h
    wp_walk using wpAny_loadPart hl, wpAny_load hl
    exact ⟨_, rfl, h⟩
theorem decl_dict (b : Str) (u : Tok) (l : Addr) (dd : Option Addr) (es : Array DictEntry) (n : Nat) (ss : Array (Option Value)) :
    Meets (Builtin.«dict.__eq__» ⟨[.ref l, .str b u], []⟩) (fun _ R s => s.heap.get? l = some { cls := .type "dict", dict := dd, data := .dict es n, slots := ss } ∧ R (.ok (.ret .notImplemented)) s) :=
  .of_wp fun prog w A R s h => by
    obtain ⟨hp, g, d, tk, os⟩ := s
    obtain ⟨hl, h⟩ := h
    have f1 := F.sub_str_dict
    wp_walk using wpAny_loadPart hl, wpAny_load hl
    exact ⟨_, rfl, h⟩
/-- is it that text -/
def strIs (z : Str) : PyData → Bool
  | .str y => z == y
  | _ => false
theorem rc_dict {A : Around} {s : Shared} {l : Addr} {o : Obj} {es : Array DictEntry} {n : Nat} (b : Str) (u : Tok) (ho : s.heap.get? l = some o) (hc : o.cls = .type "dict") (hd : o.data = .dict es n) (hu : A.units < cLine) : SeqAt.RcAt A s (.str b u) (.ref l) false := fun prog w E Q h => by
  obtain ⟨c, dd, da, ss⟩ := o
  cases hc
  cases hd
  refine SeqAt.rc_eq_decline_or (k := false) (typeIs_str s b u) ⟨_, ho, rfl⟩ (by decide) F.sub_dict_str F.slot_str_eq F.slot_dict_eq_refl ?_ ?_ ?_ (.inr hu) h
  · exact fun _ q => call_meets F.slot_str_eq (typeIs_str s b u) F.entry_str_eq (F.args_str_eq_2 _ _) (decl_str b u l dd es n ss) ⟨ho, q⟩
  · exact fun _ q => call_meets F.slot_dict_eq_refl ⟨_, ho, rfl⟩ F.entry_dict_eq (F.args_dict_eq_2 _ _) (decl_dict b u l dd es n ss) ⟨ho, q⟩
  · exact fun _ q => wpAny_of_eq (rfl : isSame (.str b u) (.ref l) = pure false) q
theorem eq_of_rc {A : Around} {s : Shared} {b : Str} {u : Tok} {l : Addr} {k : Bool} (h : SeqAt.RcAt A s (.str b u) (.ref l) k) : SeqAt.EqAt A s (.str b u) (.ref l) k := fun prog w E Q q => by
  unfold eqBool
  refine wpAny_holding (wpAny_ite_split (fun e => absurd (eq_of_beq e) nofun) fun _ => ?_)
  exact wpAny_bind (h prog w E _ (wpAny_truthy_bool q))
section
variable {X : Cx} {pins : List (Addr × Obj)} {σ : L2.St} {H : Hp} {s : Shared} {av : List Addr} {A : Around}
theorem dict_at {a : Addr} (I : Inv X pins σ H s) (e : H a = some (.dK [])) : ∃ o es n, s.heap.get? a = some o ∧ o.cls = .type "dict" ∧ o.data = .dict es n := by
  obtain ⟨_, y, vs, kv, o, es, ep, ho, hx, hd, _⟩ := (show ObjOk X.prog X.w H s.heap a (.dK []) from I.hok a _ e)
  exact ⟨o, es, ep, ho, hx.1, hd⟩
theorem rc_any (I : Inv X pins σ H s) {v : V} {d : PyData} {x : Value} (h : Dx X.K av H v d) (r : RelV v x) (hu : A.units < cLine) (z : Str) (t : Tok) : SeqAt.RcAt A s (.str z t) x (strIs z d) := by
  cases h with
  | non => cases r; exact SeqAt.RcAt.str_none z t
  | bl b => cases r; exact SeqAt.RcAt.str_bool z t b
  | int i => obtain ⟨u, rfl⟩ := r; exact SeqAt.RcAt.str_int z t i u
  | str y => obtain ⟨u, rfl⟩ := r; exact SeqAt.RcAt.str_str z t y u
  | lst h _ _ =>
    cases r
    obtain ⟨its, _, pl, _⟩ := I.list h
    exact SeqAt.RcAt.str_list z t pl.isList hu
  | tup h _ =>
    cases r
    obtain ⟨its, _, pl, _⟩ := I.tuple h
    exact SeqAt.RcAt.str_tuple z t pl hu
  | dct e =>
    cases r
    obtain ⟨o, es, n, h1, h2, h3⟩ := dict_at I e
    exact rc_dict z t h1 h2 h3 hu
theorem eq_any (I : Inv X pins σ H s) {v : V} {d : PyData} {x : Value} (h : Dx X.K av H v d) (r : RelV v x) (hu : A.units < cLine) (z : Str) (t : Tok) : SeqAt.EqAt A s (.str z t) x (strIs z d) := by
  cases h with
  | non => cases r; exact SeqAt.EqAt.str_none z t
  | bl b => cases r; exact SeqAt.EqAt.str_bool z t b
  | int i => obtain ⟨u, rfl⟩ := r; exact SeqAt.EqAt.str_int z t i u
  | str y => obtain ⟨u, rfl⟩ := r; exact SeqAt.EqAt.str_str z t y u
  | lst h _ _ =>
    cases r
    obtain ⟨its, _, pl, _⟩ := I.list h
    exact SeqAt.EqAt.str_list z t pl.isList hu
  | tup h _ =>
    cases r
    obtain ⟨its, _, pl, _⟩ := I.tuple h
    exact SeqAt.EqAt.str_tuple z t pl hu
  | dct e =>
    cases r
    obtain ⟨o, es, n, h1, h2, h3⟩ := dict_at I e
    exact eq_of_rc (rc_dict z t h1 h2 h3 hu)
end
section
variable {X : Cx} {av : List Addr}
/-- text == any value -/
def rEqA (K : PySem.W.Frag) (av : List Addr) : R2 := fun x y H Q => ∃ z d, x = .str z ∧ Dx K av H y d ∧ Q (.bl (strIs z d)) H
theorem op_eqA (hu : X.A.units < cLine) : OpR X (compareOp .Eq) (rEqA X.K av) := by
  rintro pins s σ H _ y v u Q I rx ry ⟨z, d, rfl, h, q⟩
  obtain ⟨t, rfl⟩ := rx
  exact rc_any I h ry hu z t X.prog X.w X.xe _ ⟨.bl _, H, I, rfl, q⟩
/-- any value not in a list of texts -/
def rNotInA (K : PySem.W.Frag) (av : List Addr) : R2 := fun x y H Q => ∃ (l : Addr) (ns : List Str) (d : PyData), y = .ref l ∧ SqL K H l (ns.map V.str) ∧ Dx K av H x d ∧ Q (.bl (!ns.any fun z => strIs z d)) H
theorem any_vals {ns : List Str} {us : List Value} {f : Str → Bool} {g : Value → Bool} (r : Vals (ns.map V.str) us) (h : ∀ z t, g (.str z t) = f z) : us.toArray.any g = ns.any f := by
  rw [List.any_toArray]
  induction ns generalizing us with
  | nil => cases r; rfl
  | cons n ns ih =>
    cases r with
    | cons r1 r2 =>
      obtain ⟨t, rfl⟩ := r1
      rw [List.any_cons, List.any_cons, h, ih r2]
theorem vals_str : ∀ {ns : List Str} {us : List Value}, Vals (ns.map V.str) us → ∀ {y : Value}, y ∈ us → ∃ z t, y = Value.str z t
  | [], _, .nil, _, h => by cases h
  | n :: ns, _, .cons ⟨t, e⟩ r, _, h => by
    rcases List.mem_cons.mp h with h | h
    · exact ⟨n, t, h.trans e⟩
    · exact vals_str r h
theorem op_notInA (hu : X.A.units + 1 < cLine) : OpR X (compareOp .NotIn) (rNotInA X.K av) := by
  rintro pins s σ H x _ v u Q I rx ry ⟨l, ns, d, rfl, hl, h, q⟩
  cases ry
  obtain ⟨its, rv, pl, _⟩ := I.list hl
  have hu1 : X.A.in1.units < cLine := hu
  refine SeqAt.notIn_listAt (fun y => match y with | .str z _ => strIs z d | _ => false) pl.isList (fun y hy => ?_) ?_
  · obtain ⟨z, t, rfl⟩ := vals_str rv (by simpa using hy)
    exact eq_any I h rx hu1 z t
  · rw [any_vals (f := fun z => strIs z d) rv fun z t => rfl]
    exact ⟨.bl _, H, I, rfl, q⟩
end
end Fw
set_option maxHeartbeats 2000000
namespace Fw
open PySem PySem.Spec PyProof.Rows L2
mutual
/-- such a value, without the addresses that it avoids -/
theorem dx_nil {K : PySem.W.Frag} {av : List Addr} {H : Hp} : ∀ {v : V} {d : PyData}, Dx K av H v d → Dx K [] H v d
  | _, _, .non => .non
  | _, _, .bl b => .bl b
  | _, _, .int i => .int i
  | _, _, .str x => .str x
  | _, _, .lst h n t => .lst h (fun m => n (by rw [List.mem_singleton.mp m]; exact List.mem_cons_self)) (dxA_nil t)
  | _, _, .tup h t => .tup h (dxA_nil t)
  | _, _, .dct e => .dct e
theorem dxA_nil {K : PySem.W.Frag} {av : List Addr} {H : Hp} : ∀ {vs : List V} {ds : List PyData}, DxAll K av H vs ds → DxAll K [] H vs ds
  | _, _, .nil => .nil
  | _, _, .cons h t => .cons (dx_nil h) (dxA_nil t)
end
section
variable {P : Program} {w : World} {K : PySem.W.Frag} {mg : Str → Option Value} {base : Heap}
/-- room_of of any value that is no person's name: the error -/
def spRoomNo (K : PySem.W.Frag) (C : Addr) : Sp := fun vs H Q E => ∃ (p : Addr) (P : List (Str × Int)) (v : V) (d : PyData), vs = [.ref p, v] ∧ PlAt H p P ∧ Dx K [] H v d ∧ (∀ x ∈ P, strIs x.1 d = false) ∧
  ∀ dx H', Same H H' → H' dx = some (.xd [("name", v)]) → E (.ref C) (some dx) H'
theorem ok_roomno {f : Addr} {fd : FuncData} {k : Nat} {E0 C : Addr} (F : Fun K "room_of" "room_of" sRoomOf f fd) (RE : ErR P w K mg base "UnknownPerson" "name" E0 C) : FnOk P w K mg base (L2.CX P w) (k + 3) f fd pRoomOf (spRoomNo K C) := by
  refine F.okX scRoomOf (fun vs H Q E h => ?_) (fun cdv A outer s H vs Q E hr h => ?_)
  · obtain ⟨p, P, v, d, rfl, _⟩ := h
    rfl
  · obtain ⟨p, P, v, d, rfl, hP, hd, no, qE⟩ := h
    refine ⟨_, (pss_cons (ps_calm (ps_for PassesOwn.never rfl (pi_tup (pv 0)) (pg_tup (by rfl) (pgs_cons (pg_name (i := 2) scRoomOf.nd rfl (.inl rfl)) (pgs_cons (pg_name (i := 3) scRoomOf.nd rfl (.inl rfl)) pgs_nil)))
      (pss_one (ps_if (pt_cmpR (op_eqA (av := []) (Nat.lt_of_succ_lt (hu_of hr))) (pv 2) (pv 1) (nomark _))
       (pss_one (ps_ret (pv 3)))
       pss_nil))))
      (pss_one (ps_raise rfl (takes_of rfl rfl rfl rfl) (pmk_er RE hr (by rfl) (pv 1))))), ?_⟩
    refine ⟨_, rfl, p, rfl, hP.sq, for_pl hP (fun i σ' H' => ∃ y2 y3, σ' = [some (.ref p), some v, y2, y3] ∧ H' = H) ⟨_, _, rfl, rfl⟩ ?_ ?_ ?_⟩
    · rintro k σ' H' ⟨_, _, _, rfl⟩
      exact Tk.refl
    · rintro k n' r' σ' H' hk ⟨y2, y3, rfl, rfl⟩
      refine ⟨_, rfl, _, rfl, n', d, rfl, hd, _, rfl, ?_⟩
      rw [no (n', r') (List.mem_of_getElem? hk)]
      exact ⟨_, _, rfl, rfl⟩
    · rintro σ' H' ⟨y2, y3, rfl, rfl⟩
      exact ⟨_, rfl, raise_end fun d H2 s2 e2 => qE d H2 s2 e2⟩
end
end Fw
set_option maxHeartbeats 2000000
namespace Fw
open PySem PySem.Spec PyProof.Rows L2
theorem DxAll.pick {K : PySem.W.Frag} {av : List Addr} {H : Hp} : ∀ {vs : List V} {ds : List PyData}, DxAll K av H vs ds → ∀ j, j < vs.length → ∃ v d, vs[j]? = some v ∧ d ∈ ds ∧ Dx K av H v d
  | _, _, .nil, j, h => by cases h
  | _, _, .cons h1 h2, 0, _ => ⟨_, _, rfl, List.mem_cons_self, h1⟩
  | _, _, .cons h1 h2, j + 1, h => by
    obtain ⟨v, d, e, m, q⟩ := h2.pick j (Nat.lt_of_succ_lt_succ h)
    exact ⟨v, d, e, List.mem_cons_of_mem _ m, q⟩
/-- a random value, as data; what lay in memory but the stream stays -/
def spRandX (K : PySem.W.Frag) : Sp := fun vs H Q _ => ∃ (s A B : Addr) (c : Nat), vs = [.ref s] ∧ StreamAt H s A B c ∧ c < 2 ^ 40 ∧ ∀ H' v d, StreamAt H' s A B (c + 1) → Fr s A H H' → d ∈ datas → Dx K [s, A] H' v d → Q v H'
section
variable {P : Program} {w : World} {K : PySem.W.Frag} {mg : Str → Option Value} {base : Heap}
theorem ok_randX {f f2 : Addr} {fd d2 : FuncData} (F : Fun K "_law_random_value" "_law_random_value" sRand f fd) (T : Nm mg) (D : Def K mg "_law_draw" sDraw f2 d2 ["_law_stream_here", "_law_many"]) : FnOk P w K mg base CX0 2 f fd ["_law_stream_here"] (spRandX K) := by
  have GD : FnOk P w K mg base CX0 1 f2 d2 _ spDraw := ok_draw D.F T
  refine Fun.ok F scRand (fun vs H Q E h => ?_) (fun cdv A0 outer s0 H vs Q E hr h => ?_)
  · obtain ⟨s, A, B, c, rfl, _⟩ := h
    rfl
  · obtain ⟨s, A, B, c, rfl, hS, hc, q⟩ := h
    refine ⟨_, (pss_cons (ps_set (i := 1) scRand.nd rfl (.inl rfl) (pe_lst (pa_cons pe_non (pa_cons pe_bl (pa_cons pe_bl (pa_cons pe_int (pa_cons pe_int (pa_cons (pe_un un_neg pe_int) (pa_cons pe_int (pa_cons (pe_op op_pow pe_int pe_int) (pa_cons pe_str (pa_cons pe_str (pa_cons pe_str (pa_cons pe_str (pa_cons pe_str (pa_cons (pe_tup pa_nil) (pa_cons (pe_lstN pa_nil) (pa_cons pe_dnewK (pa_cons (pe_tup (pa_cons pe_int pa_nil)) (pa_cons (pe_tup (pa_cons pe_int (pa_cons pe_int pa_nil))) (pa_cons (pe_lstN (pa_cons pe_int (pa_cons pe_int pa_nil))) pa_nil)))))))))))))))))))))
      (pss_cons (ps_set (i := 1) scRand.nd rfl (.inl rfl) (pe_op op_cat (pv 1) (pe_lst (pa_cons (pe_tup (pa_cons pe_int (pa_cons pe_int pa_nil))) (pa_cons (pe_tup (pa_cons pe_int (pa_cons pe_int (pa_cons pe_int pa_nil)))) (pa_cons (pe_tup (pa_cons (pe_tup (pa_cons pe_int (pa_cons pe_int pa_nil))) pa_nil)) (pa_cons (pe_tup (pa_cons pe_str (pa_cons pe_int pa_nil))) (pa_cons pe_str (pa_cons (pe_tup (pa_cons (pe_tup (pa_cons pe_str (pa_cons pe_int pa_nil))) pa_nil)) pa_nil)))))))))
      (pss_one (ps_ret (pe_ix ix_list (pv 1) (pe_call GD hr (by rfl) D.g D.F.kp D.b .nil pass0 (pa_cons (pv 0) (pa_cons pe_int pa_nil))) (fun _ _ => rfl)))))), ?_⟩
    refine ⟨1, rfl, 10, 59, rfl, rfl, ⟨by decide, by decide, by decide⟩, le_sz (by simp), fun p1 n1 => ⟨le_sz (by simp), fun p2 n2 ns2 => fun p3 n3 => ⟨le_sz (by simp), fun p4 n4 => ⟨le_sz (by simp), fun p5 n5 => ⟨le_sz (by simp), fun p6 n6 ns6 => ⟨le_sz (by simp), fun p7 n7 => ?_⟩⟩⟩⟩⟩⟩
    refine ⟨_, rfl, le_sz (by simp), fun q1 m1 => ⟨le_sz (by simp), fun q2 m2 => ⟨le_sz (by simp), fun q3 m3 => ⟨le_sz (by simp), fun q4 m4 => ⟨le_sz (by simp), fun q5 m5 => ⟨le_sz (by simp), fun q6 m6 => ⟨le_sz (by simp), fun q7 m7 => ⟨le_sz (by simp), fun q8 m8 => ⟨p7, q8, _, _, rfl, rfl, (same_upd m8 _ _ (same_upd m7 _ _ (same_upd m6 _ _ (same_upd m5 _ _ (same_upd m4 _ _ (same_upd m3 _ _ (same_upd m2 _ _ (same_upd m1 _ _ upd_same)))))))), upd_same, le_sz (by simp), fun r1 k1 => ?_⟩⟩⟩⟩⟩⟩⟩⟩⟩
    let X1 : List V := [.non, .bl true, .bl false, .int 0, .int 1, .int (-1), .int 9, .int (10 ^ (59 : Int).toNat), .str "", .str "a", .str "A", .str "a1", .str "abcdefghi", .ref p1, .ref p2, .ref p3, .ref p4, .ref p5, .ref p6]
    let X2 : List V := [.ref q1, .ref q2, .ref q4, .ref q5, .str "a b", .ref q7]
    let H1 : Hp := upd H p1 (.tup [])
    have s1 : Same H H1 := same_upd n1
    have S1 : Same H H1 := s1
    have e1 : H1 p1 = some (.tup []) := upd_same
    let H2 : Hp := upd H1 p2 (.lst [])
    have s2 : Same H1 H2 := same_upd n2
    have S2 : Same H H2 := S1.trans s2
    have e2 : H2 p2 = some (.lst []) := upd_same
    let H3 : Hp := upd H2 p3 (.dK [])
    have s3 : Same H2 H3 := same_upd n3
    have S3 : Same H H3 := S2.trans s3
    have e3 : H3 p3 = some (.dK []) := upd_same
    let H4 : Hp := upd H3 p4 (.tup [.int 0])
    have s4 : Same H3 H4 := same_upd n4
    have S4 : Same H H4 := S3.trans s4
    have e4 : H4 p4 = some (.tup [.int 0]) := upd_same
    let H5 : Hp := upd H4 p5 (.tup [.int 1, .int 0])
    have s5 : Same H4 H5 := same_upd n5
    have S5 : Same H H5 := S4.trans s5
    have e5 : H5 p5 = some (.tup [.int 1, .int 0]) := upd_same
    let H6 : Hp := upd H5 p6 (.lst [.int 0, .int 1])
    have s6 : Same H5 H6 := same_upd n6
    have S6 : Same H H6 := S5.trans s6
    have e6 : H6 p6 = some (.lst [.int 0, .int 1]) := upd_same
    let H7 : Hp := upd H6 p7 (.lst X1)
    have s7 : Same H6 H7 := same_upd n7
    have S7 : Same H H7 := S6.trans s7
    have e7 : H7 p7 = some (.lst X1) := upd_same
    let H8 : Hp := upd H7 q1 (.tup [.int 0, .int 0])
    have s8 : Same H7 H8 := same_upd m1
    have S8 : Same H H8 := S7.trans s8
    have e8 : H8 q1 = some (.tup [.int 0, .int 0]) := upd_same
    let H9 : Hp := upd H8 q2 (.tup [.int 0, .int 1, .int 2])
    have s9 : Same H8 H9 := same_upd m2
    have S9 : Same H H9 := S8.trans s9
    have e9 : H9 q2 = some (.tup [.int 0, .int 1, .int 2]) := upd_same
    let H10 : Hp := upd H9 q3 (.tup [.int 0, .int 1])
    have s10 : Same H9 H10 := same_upd m3
    have S10 : Same H H10 := S9.trans s10
    have e10 : H10 q3 = some (.tup [.int 0, .int 1]) := upd_same
    let H11 : Hp := upd H10 q4 (.tup [.ref q3])
    have s11 : Same H10 H11 := same_upd m4
    have S11 : Same H H11 := S10.trans s11
    have e11 : H11 q4 = some (.tup [.ref q3]) := upd_same
    let H12 : Hp := upd H11 q5 (.tup [.str "a", .int 0])
    have s12 : Same H11 H12 := same_upd m5
    have S12 : Same H H12 := S11.trans s12
    have e12 : H12 q5 = some (.tup [.str "a", .int 0]) := upd_same
    let H13 : Hp := upd H12 q6 (.tup [.str "a", .int 0])
    have s13 : Same H12 H13 := same_upd m6
    have S13 : Same H H13 := S12.trans s13
    have e13 : H13 q6 = some (.tup [.str "a", .int 0]) := upd_same
    let H14 : Hp := upd H13 q7 (.tup [.ref q6])
    have s14 : Same H13 H14 := same_upd m7
    have S14 : Same H H14 := S13.trans s14
    have e14 : H14 q7 = some (.tup [.ref q6]) := upd_same
    let H15 : Hp := upd H14 q8 (.lst X2)
    have s15 : Same H14 H15 := same_upd m8
    have S15 : Same H H15 := S14.trans s15
    have e15 : H15 q8 = some (.lst X2) := upd_same
    let H16 : Hp := upd H15 r1 (.lst (X1 ++ X2))
    have s16 : Same H15 H16 := same_upd k1
    have S16 : Same H H16 := S15.trans s16
    have e16 : H16 r1 = some (.lst (X1 ++ X2)) := upd_same
    have E1 : H16 p1 = some (.tup []) := s16 _ _ (s15 _ _ (s14 _ _ (s13 _ _ (s12 _ _ (s11 _ _ (s10 _ _ (s9 _ _ (s8 _ _ (s7 _ _ (s6 _ _ (s5 _ _ (s4 _ _ (s3 _ _ (s2 _ _ e1))))))))))))))
    have E2 : H16 p2 = some (.lst []) := s16 _ _ (s15 _ _ (s14 _ _ (s13 _ _ (s12 _ _ (s11 _ _ (s10 _ _ (s9 _ _ (s8 _ _ (s7 _ _ (s6 _ _ (s5 _ _ (s4 _ _ (s3 _ _ e2)))))))))))))
    have E3 : H16 p3 = some (.dK []) := s16 _ _ (s15 _ _ (s14 _ _ (s13 _ _ (s12 _ _ (s11 _ _ (s10 _ _ (s9 _ _ (s8 _ _ (s7 _ _ (s6 _ _ (s5 _ _ (s4 _ _ e3))))))))))))
    have E4 : H16 p4 = some (.tup [.int 0]) := s16 _ _ (s15 _ _ (s14 _ _ (s13 _ _ (s12 _ _ (s11 _ _ (s10 _ _ (s9 _ _ (s8 _ _ (s7 _ _ (s6 _ _ (s5 _ _ e4)))))))))))
    have E5 : H16 p5 = some (.tup [.int 1, .int 0]) := s16 _ _ (s15 _ _ (s14 _ _ (s13 _ _ (s12 _ _ (s11 _ _ (s10 _ _ (s9 _ _ (s8 _ _ (s7 _ _ (s6 _ _ e5))))))))))
    have E6 : H16 p6 = some (.lst [.int 0, .int 1]) := s16 _ _ (s15 _ _ (s14 _ _ (s13 _ _ (s12 _ _ (s11 _ _ (s10 _ _ (s9 _ _ (s8 _ _ (s7 _ _ e6)))))))))
    have E7 : H16 p7 = some (.lst X1) := s16 _ _ (s15 _ _ (s14 _ _ (s13 _ _ (s12 _ _ (s11 _ _ (s10 _ _ (s9 _ _ (s8 _ _ e7))))))))
    have E8 : H16 q1 = some (.tup [.int 0, .int 0]) := s16 _ _ (s15 _ _ (s14 _ _ (s13 _ _ (s12 _ _ (s11 _ _ (s10 _ _ (s9 _ _ e8)))))))
    have E9 : H16 q2 = some (.tup [.int 0, .int 1, .int 2]) := s16 _ _ (s15 _ _ (s14 _ _ (s13 _ _ (s12 _ _ (s11 _ _ (s10 _ _ e9))))))
    have E10 : H16 q3 = some (.tup [.int 0, .int 1]) := s16 _ _ (s15 _ _ (s14 _ _ (s13 _ _ (s12 _ _ (s11 _ _ e10)))))
    have E11 : H16 q4 = some (.tup [.ref q3]) := s16 _ _ (s15 _ _ (s14 _ _ (s13 _ _ (s12 _ _ e11))))
    have E12 : H16 q5 = some (.tup [.str "a", .int 0]) := s16 _ _ (s15 _ _ (s14 _ _ (s13 _ _ e12)))
    have E13 : H16 q6 = some (.tup [.str "a", .int 0]) := s16 _ _ (s15 _ _ (s14 _ _ e13))
    have E14 : H16 q7 = some (.tup [.ref q6]) := s16 _ _ (s15 _ _ e14)
    have E15 : H16 q8 = some (.lst X2) := s16 _ _ e15
    have E16 : H16 r1 = some (.lst (X1 ++ X2)) := e16
    have hSN : StreamAt H16 s A B c := hS.same S16
    have z2 := (hS.same S1).ne n2
    have z6 := (hS.same S5).ne n6
    have z16 := (hS.same S15).ne k1
    have z3 := (hS.same S2).ne n3
    refine ⟨_, rfl, _, rfl, s, A, B, c, 25, rfl, hSN, hc, by decide, by decide, fun H' i hS2 fr g0 g1 => ?_⟩
    have fr' : Fr s A H16 H' := fr
    have tp : ∀ {p xs}, H16 p = some (.tup xs) → H' p = some (.tup xs) := fun e => fr'.tup hSN e
    have all : DxAll K [s, A] H' (X1 ++ X2) datas := (.cons (.non) (.cons (.bl _) (.cons (.bl _) (.cons (.int _) (.cons (.int _) (.cons (.int _) (.cons (.int _) (.cons (.int _) (.cons (.str _) (.cons (.str _) (.cons (.str _) (.cons (.str _) (.cons (.str _) (.cons (.tup (SqT.of (tp E1)) .nil) (.cons (.lst (SqL.of (fr' _ _ z2.1.symm z2.2.1.symm E2)) (by simp [ns2, z2.1.symm, z2.2.1.symm]) .nil) (.cons (.dct (fr' _ _ z3.1.symm z3.2.1.symm E3)) (.cons (.tup (SqT.of (tp E4)) (.cons (.int _) .nil)) (.cons (.tup (SqT.of (tp E5)) (.cons (.int _) (.cons (.int _) .nil))) (.cons (.lst (SqL.of (fr' _ _ z6.1.symm z6.2.1.symm E6)) (by simp [ns6, z6.1.symm, z6.2.1.symm]) (.cons (.int _) (.cons (.int _) .nil))) (.cons (.tup (SqT.of (tp E8)) (.cons (.int _) (.cons (.int _) .nil))) (.cons (.tup (SqT.of (tp E9)) (.cons (.int _) (.cons (.int _) (.cons (.int _) .nil)))) (.cons (.tup (SqT.of (tp E11)) (.cons (.tup (SqT.of (tp E10)) (.cons (.int _) (.cons (.int _) .nil))) .nil)) (.cons (.tup (SqT.of (tp E12)) (.cons (.str _) (.cons (.int _) .nil))) (.cons (.str _) (.cons (.tup (SqT.of (tp E14)) (.cons (.tup (SqT.of (tp E13)) (.cons (.str _) (.cons (.int _) .nil))) .nil)) .nil)))))))))))))))))))))))))
    obtain ⟨v, d, ev, md, hv⟩ := all.pick i.toNat (by show i.toNat < 25; omega)
    have ai : atI (X1 ++ X2) i = some v := by
      have := atI_nat ev
      rwa [Int.toNat_of_nonneg g0] at this
    refine ⟨r1, _, i, v, rfl, rfl, SqL.of (fr' _ _ z16.1.symm z16.2.1.symm E16), ai, q H' v d hS2 (fun b u z1 z2 z => fr' b u z1 z2 (S16 _ _ z)) md hv⟩
end
end Fw
set_option maxHeartbeats 2000000
namespace Fw
open PySem PySem.Spec PyProof.Rows L2
/-- the type's name of a value -/
def kindD : PyData → String
  | .none => "NoneType"
  | .bool _ => "bool"
  | .int _ => "int"
  | .str _ => "str"
  | .list _ => "list"
  | .tuple _ => "tuple"
  | .dict _ => "dict"
theorem dx_ty {K : PySem.W.Frag} {av : List Addr} {H : Hp} {v : V} {d : PyData} (h : Dx K av H v d) : TyX K H v (.type (kindD d)) := by
  cases h with
  | non => exact .base .non
  | bl b => exact .base (.bl b)
  | int i => exact .base (.int i)
  | str x => exact .base (.str x)
  | lst h n a =>
    rcases h with (e | ⟨ob, e⟩) | ⟨o, its, n, e, c, _⟩
    · exact .base (.lst e)
    · exact .base (.frz e)
    · exact .kList e c
  | tup h a =>
    rcases h with (e | ⟨ob, e⟩) | ⟨o, its, n, e, c, _⟩
    · exact .base (.tup e)
    · exact .fTuple e
    · exact .kTuple e c
  | dct e => exact .base (.dK e)
/-- the answer of isinstance(v, T) for T among tuple, int, bool, str -/
def isD (T : String) (d : PyData) : Bool := kindD d == T || (T == "int" && kindD d == "bool")
theorem kitD {K : PySem.W.Frag} {T : String} (hT : T ∈ ["tuple", "int", "bool", "str"]) (d : PyData) : PySem.W.kitOne K (.type (kindD d)) (.type T) = some (isD T d) := by
  have key : ∀ k ∈ ["NoneType", "bool", "int", "str", "list", "tuple", "dict"], ∀ T ∈ ["tuple", "int", "bool", "str"], (if (Value.type k == Value.type T) = true then some true else if PySem.W.kitMeta T = true then (fastBuiltinMro k).map (·.contains (Value.type T)) else none) = some (k == T || (T == "int" && k == "bool")) := by
    decide +kernel
  have hk : kindD d ∈ ["NoneType", "bool", "int", "str", "list", "tuple", "dict"] := by cases d <;> simp [kindD]
  exact key _ hk T hT
/-- isinstance(v, T) -/
def rIsD (K : PySem.W.Frag) (av : List Addr) : List V → Hp → VK → Prop := fun xs H Q => ∃ (x : V) (T : String) (d : PyData), xs = [x, .ty T] ∧ T ∈ ["tuple", "int", "bool", "str"] ∧ Dx K av H x d ∧ Q (.bl (isD T d)) H
theorem call_isD {X : Cx} {av : List Addr} : CallR X (.builtin "isinstance") (rIsD X.K av) := by
  intro pn sh σ H xs us Q J rr hh
  obtain ⟨x, T, d, rfl, hT, hd, q⟩ := hh
  exact call_isi pn sh σ H _ us Q J rr ⟨x, .ty T, _, .type T, _, rfl, .ty T, dx_ty hd, kitD hT d, q⟩
end Fw
set_option maxHeartbeats 2000000
namespace Fw
open PySem PySem.Spec PyProof.Rows L2
theorem strIs_eq {z : Str} {d : PyData} (h : strIs z d = true) : d = .str z := by
  cases d <;> first | (cases h; done) | skip
  rw [show z = _ from eq_of_beq h]
theorem dx_str {K : PySem.W.Frag} {av : List Addr} {H : Hp} {v : V} {z : Str} (h : Dx K av H v (.str z)) : v = .str z := by
  cases h
  rfl
section
variable {P : Program} {w : World} {K : PySem.W.Frag} {mg : Str → Option Value} {base : Heap}
/-- room_of of any value: the room, or the error -/
def spRoomAny (K : PySem.W.Frag) (C : Addr) : Sp := fun vs H Q E => ∃ (p : Addr) (P : List (Str × Int)) (v : V) (d : PyData), vs = [.ref p, v] ∧ PlAt H p P ∧ Dx K [] H v d ∧ (∀ nm r, v = .str nm → (nm, r) ∈ P → Q (.int r) H) ∧
  ((∀ x ∈ P, strIs x.1 d = false) → ∀ dx H', Same H H' → H' dx = some (.xd [("name", v)]) → E (.ref C) (some dx) H')
theorem ok_roomany {f : Addr} {fd : FuncData} {k : Nat} {E0 C : Addr} (F : Fun K "room_of" "room_of" sRoomOf f fd) (RE : ErR P w K mg base "UnknownPerson" "name" E0 C) : FnOk P w K mg base (L2.CX P w) (k + 3) f fd pRoomOf (spRoomAny K C) := by
  refine F.okX scRoomOf (fun vs H Q E h => ?_) (fun cdv A outer s H vs Q E hr h => ?_)
  · obtain ⟨p, P, v, d, rfl, _⟩ := h
    rfl
  · obtain ⟨p, P, v, d, rfl, hP, hd, q, qE⟩ := h
    refine ⟨_, (pss_cons (ps_calm (ps_for PassesOwn.never rfl (pi_tup (pv 0)) (pg_tup (by rfl) (pgs_cons (pg_name (i := 2) scRoomOf.nd rfl (.inl rfl)) (pgs_cons (pg_name (i := 3) scRoomOf.nd rfl (.inl rfl)) pgs_nil)))
      (pss_one (ps_if (pt_cmpR (op_eqA (av := []) (Nat.lt_of_succ_lt (hu_of hr))) (pv 2) (pv 1) (nomark _))
       (pss_one (ps_ret (pv 3)))
       pss_nil))))
      (pss_one (ps_raise rfl (takes_of rfl rfl rfl rfl) (pmk_er RE hr (by rfl) (pv 1))))), ?_⟩
    refine ⟨_, rfl, p, rfl, hP.sq, for_pl hP (fun i σ' H' => ∃ y2 y3, σ' = [some (.ref p), some v, y2, y3] ∧ H' = H ∧ ∀ x ∈ P.take i, strIs x.1 d = false) ⟨_, _, rfl, rfl, fun x hx => by cases hx⟩ ?_ ?_ ?_⟩
    · rintro k σ' H' ⟨_, _, _, rfl, _⟩
      exact Tk.refl
    · rintro k n' r' σ' H' hk ⟨y2, y3, rfl, rfl, hn⟩
      refine ⟨_, rfl, _, rfl, n', d, rfl, hd, _, rfl, ?_⟩
      refine ite2 (fun c => ?_) (fun c => ?_)
      · have e := strIs_eq c
        subst e
        exact ⟨_, rfl, q n' r' (dx_str hd) (List.mem_of_getElem? hk)⟩
      · refine ⟨_, _, rfl, rfl, fun x hx => ?_⟩
        rw [take_snoc hk, List.mem_append] at hx
        rcases hx with hx | hx
        · exact hn x hx
        · rw [List.mem_singleton.mp hx]
          exact Bool.eq_false_iff.mpr c
    · rintro σ' H' ⟨y2, y3, rfl, rfl, hn⟩
      rw [List.take_length] at hn
      exact ⟨_, rfl, raise_end fun d H2 s2 e2 => qE hn d H2 s2 e2⟩
end
end Fw
set_option maxHeartbeats 2000000
namespace Fw
open PySem PySem.Spec PyProof.Rows L2
/-! moves of any value into any value -/
/-- is it a room's number -/
def isRm (n : Int) : PyData → Bool
  | .int r => decide (0 ≤ r ∧ r < n)
  | _ => false
def isNum : PyData → Bool
  | .int _ => true
  | _ => false
theorem isNum_eq (d : PyData) : (isD "int" d && !isD "bool" d) = isNum d := by
  cases d <;> (simp only [isD, kindD, isNum]; decide)
theorem isNum_int {K : PySem.W.Frag} {av : List Addr} {H : Hp} {v : V} {d : PyData} (h : Dx K av H v d) (e : isNum d = true) : ∃ r : Int, d = .int r ∧ v = .int r := by
  cases h <;> first | (cases e; done) | exact ⟨_, rfl, rfl⟩
theorem isRm_no {n : Int} {d : PyData} (e : isNum d = false) : isRm n d = false := by
  cases d <;> first | (cases e; done) | rfl
/-- one of many readings, told later -/
theorem pe_any {X : Cx} {x : Expr} {ok : Addr → Prop} {t : Addr → TE} (h : ∀ C, ok C → PE X x (t C)) : PE X x (fun σ H Q => ∃ C, ok C ∧ t C σ H Q) :=
  ⟨fun pins s σ H Q I ⟨C, c, z⟩ => (h C c).run pins s σ H Q I z⟩
/-- what becomes of a move: 0 done, 1 unknown, 2 no room, 3 not adjacent, 4 empty -/
def MRes (n : Int) (D : List (Int × Int)) (P : List (Str × Int)) (v : V) (d : PyData) (w : V) (e : PyData) : Nat → Prop
  | 0 => ∃ nm c r, v = .str nm ∧ (nm, c) ∈ P ∧ w = .int r ∧ (0 ≤ r ∧ r < n) ∧ r ∈ nb n D c ∧ r ∈ P.map (·.2)
  | 1 => ∀ x ∈ P, strIs x.1 d = false
  | 2 => ∃ nm c, v = .str nm ∧ (nm, c) ∈ P ∧ isRm n e = false
  | 3 => ∃ nm c r, v = .str nm ∧ (nm, c) ∈ P ∧ w = .int r ∧ (0 ≤ r ∧ r < n) ∧ r ∉ nb n D c
  | 4 => ∃ nm c r, v = .str nm ∧ (nm, c) ∈ P ∧ w = .int r ∧ (0 ≤ r ∧ r < n) ∧ r ∈ nb n D c ∧ r ∉ P.map (·.2)
  | _ => False
section
variable {P : Program} {w : World} {K : PySem.W.Frag} {mg : Str → Option Value} {base : Heap}
def spIsNum (K : PySem.W.Frag) : Sp := fun vs H Q _ => ∃ (v : V) (d : PyData), vs = [v] ∧ Dx K [] H v d ∧ Q (.bl (isNum d)) H
theorem ok_isnum {f : Addr} {fd : FuncData} {k : Nat} (F : Fun K "is_integer" "is_integer" sIsInt f fd) (T : Nm mg) : FnOk P w K mg base CX0 (k + 1) f fd pIsInt (spIsNum K) := by
  refine F.ok scIsInt (fun vs H Q E h => ?_) (fun cdv A outer s H vs Q E hr h => ?_)
  · obtain ⟨v, d, rfl, _⟩ := h
    rfl
  · obtain ⟨v, d, rfl, hd, q⟩ := h
    refine ⟨_, (pss_one (ps_ret (pe_and (pe_callB (call_isD (av := [])) (by rfl) T.isinstance (by decide +kernel) (pa_cons (pv 0) (pa_cons (pe_bltn (v := .ty "int") (by rfl) T.int (by decide +kernel) rfl) pa_nil))) (pe_one (pe_not (pe_callB (call_isD (av := [])) (by rfl) T.isinstance (by decide +kernel) (pa_cons (pv 0) (pa_cons (pe_bltn (v := .ty "bool") (by rfl) T.bool (by decide +kernel) rfl) pa_nil)))))))), ?_⟩
    refine ⟨_, rfl, v, "int", d, rfl, by decide, hd, _, rfl, ?_⟩
    rw [← isNum_eq] at q
    cases e : isD "int" d with
    | false => rw [e] at q; exact iteF q
    | true => rw [e] at q; exact iteT ⟨_, rfl, v, "bool", d, rfl, by decide, hd, _, rfl, q⟩
def spIsRoomA (K : PySem.W.Frag) : Sp := fun vs H Q _ => ∃ (h : Addr) (n : Int) (D : List (Int × Int)) (v : V) (d : PyData), vs = [.ref h, v] ∧ HouseAt H h n D ∧ Dx K [] H v d ∧ Q (.bl (isRm n d)) H
theorem ok_isrooma {f : Addr} {fd : FuncData} {k : Nat} (F : Fun K "is_room" "is_room" sIsRoom f fd) (T : Nm mg) (Cis_integer : Cal P w K mg base (k + 1) "is_integer" pIsInt (spIsNum K)) : FnOk P w K mg base CX0 (k + 2) f fd pIsRoom (spIsRoomA K) := by
  refine F.ok scIsRoom (fun vs H Q E h => ?_) (fun cdv A outer s H vs Q E hr h => ?_)
  · obtain ⟨h, n, D, v, d, rfl, _⟩ := h
    rfl
  · obtain ⟨h, n, D, v, d, rfl, hH, hd, q⟩ := h
    refine ⟨_, (pss_one (ps_ret (pe_and (pe_cal Cis_integer hr (by rfl) (pa_cons (pv 1) pa_nil)) (pe_one (pe_chain op_le op_lt pe_int (pv 1) (pe_ix (ix_tupK K rfl) (pv 0) pe_int (fun _ _ => rfl))))))), ?_⟩
    obtain ⟨qd, eh⟩ := hH.room0
    refine ⟨_, rfl, v, d, rfl, hd, _, rfl, ?_⟩
    refine ite2 (fun c => ?_) (fun c => ?_)
    · obtain ⟨i, rfl, rfl⟩ := isNum_int hd c
      refine ⟨_, rfl, _, _, rfl, rfl, _, rfl, ?_⟩
      have q : Q (.bl (decide (0 ≤ i ∧ i < n))) H := q
      refine ite2 (fun c => ?_) (fun c => ?_)
      · refine ⟨_, rfl, h, _, _, _, rfl, rfl, SqT.of eh, atI0, _, _, rfl, rfl, ?_⟩
        have c : 0 ≤ i := of_decide_eq_true c
        rw [show decide (0 ≤ i ∧ i < n) = decide (i < n) by simp [c]] at q
        exact q
      · have c : ¬ 0 ≤ i := fun e => c (decide_eq_true e)
        rw [show decide (0 ≤ i ∧ i < n) = false by simp [c]] at q
        exact q
    · have c := Bool.eq_false_iff.mpr c
      rw [isRm_no c] at q
      exact q
/-- move_person of any value into any value -/
def spMoveAny (K : PySem.W.Frag) (CU CI CN CE : Addr) : Sp := fun vs H Q E => ∃ (h p : Addr) (n : Int) (D : List (Int × Int)) (P : List (Str × Int)) (v : V) (d : PyData) (w : V) (e : PyData), vs = [.ref h, .ref p, v, w] ∧ HouseAt H h n D ∧ Forest n D ∧ 0 ≤ n ∧ n ≤ 8 ∧ PlAt H p P ∧ Pl n P ∧ P.length ≤ 100 ∧ Dx K [] H v d ∧ Dx K [] H w e ∧
  (MRes n D P v d w e 0 → ∀ H' u, Same H H' → Q u H') ∧
  (MRes n D P v d w e 1 → ∀ x H', Same H H' → H' x = some (.xd [("name", v)]) → E (.ref CU) (some x) H') ∧
  (MRes n D P v d w e 2 → ∀ x H', Same H H' → H' x = some (.xd [("room", w)]) → E (.ref CI) (some x) H') ∧
  (MRes n D P v d w e 3 → ∀ x H', Same H H' → H' x = some (.xd [("room", w)]) → E (.ref CN) (some x) H') ∧
  (MRes n D P v d w e 4 → ∀ x H', Same H H' → H' x = some (.xd [("room", w)]) → E (.ref CE) (some x) H')
theorem ok_moveany {f : Addr} {fd : FuncData} {k : Nat} {E0 E1 E2 E3 CU CI CN CE : Addr} (F : Fun K "move_person" "move_person" sMove f fd) (T : Nm mg) (Croom_of : CalX P w K mg base (k + 3) "room_of" pRoomOf (spRoomAny K CU)) (Cis_room : Cal P w K mg base (k + 3) "is_room" pIsRoom (spIsRoomA K))
    (Cneighbors : Cal P w K mg base (k + 3) "neighbors" ["house", "room"] spNb) (Cpeople_in : Cal P w K mg base (k + 3) "people_in" pPIn spPIn) (Cwith : Cal P w K mg base (k + 3) "with_person_in" pWith spWith) (RI : ErR P w K mg base "InvalidRoom" "room" E1 CI) (RN : ErR P w K mg base "NotAdjacent" "room" E2 CN) (RE : ErR P w K mg base "EmptyRoom" "room" E3 CE) : FnOk P w K mg base (L2.CX P w) (k + 4) f fd pMove (spMoveAny K CU CI CN CE) := by
  refine F.okX scMove (fun vs H Q E h => ?_) (fun cdv A outer s H vs Q E hr h => ?_)
  · obtain ⟨h, p, n, D, P, v, d, w, e, rfl, _⟩ := h
    rfl
  · obtain ⟨h, p, n, D, P, v, d, w, e, rfl, hH, hF, n0, n1, hP, pl, lP, hv, hw, q0, q1, q2, q3, q4⟩ := h
    refine ⟨_, (pss_cons (ps_set (i := 4) scMove.nd rfl (.inl rfl) (pe_calX Croom_of (takes_of rfl rfl rfl rfl) hr (by rfl) (pa_cons (pv 1) (pa_cons (pv 2) pa_nil))))
      (pss_cons (ps_if (pt_not (pt_val (pe_cal Cis_room hr (by rfl) (pa_cons (pv 0) (pa_cons (pv 3) pa_nil)))))
      (pss_one (ps_raise rfl (takes_of rfl rfl rfl rfl) (pmk_er RI hr (by rfl) (pv 3))))
      pss_nil)
      (pss_cons (ps_if (pt_cmpR (op_notInK K rfl) (pv 3) (pe_cal Cneighbors hr (by rfl) (pa_cons (pv 0) (pa_cons (pv 4) pa_nil))) (by rfl))
      (pss_one (ps_raise rfl (takes_of rfl rfl rfl rfl) (pmk_er RN hr (by rfl) (pv 3))))
      pss_nil)
      (pss_cons (ps_if (pt_not (pt_truthK K rfl (pe_cal Cpeople_in hr (by rfl) (pa_cons (pv 1) (pa_cons (pv 3) pa_nil))) (by intro _; rfl)))
      (pss_one (ps_raise rfl (takes_of rfl rfl rfl rfl) (pmk_er RE hr (by rfl) (pv 3))))
      pss_nil)
      (pss_one (ps_ret (pe_cal Cwith hr (by rfl) (pa_cons (pv 1) (pa_cons (pv 2) (pa_cons (pv 3) pa_nil)))))))))), ?_⟩
    refine ⟨_, rfl, _, rfl, p, P, v, d, rfl, hP, hv, fun nm c ev hm => ?_, q1⟩
    refine ⟨_, rfl, _, rfl, h, n, D, w, e, rfl, hH, hw, _, rfl, ?_⟩
    cases er : isRm n e with
    | false => exact iteT ⟨_, rfl, raise_end fun x H' s' e' => q2 ⟨nm, c, ev, hm, er⟩ x H' s' e'⟩
    | true =>
      have ir : ∃ r : Int, w = .int r ∧ 0 ≤ r ∧ r < n := by
        cases hw <;> first | (cases er; done) | exact ⟨_, rfl, of_decide_eq_true er⟩
      obtain ⟨r, rfl, r0, r1⟩ := ir
      refine iteF ⟨_, rfl, _, rfl, _, rfl, h, n, D, c, rfl, hH, hF, fun H1 t s1 e1 => ⟨t, _, rfl, .inr (SqT.of e1), rfl, flat_vi _, _, rfl, ?_⟩⟩
      rw [if_pos rfl, inV_vi]
      by_cases hr1 : ¬ r ∈ nb n D c
      · rw [decide_eq_false hr1]
        exact iteT ⟨_, rfl, raise_end fun x H' s' e' => q3 ⟨nm, c, r, ev, hm, rfl, ⟨r0, r1⟩, hr1⟩ x H' (s1.trans s') e'⟩
      have hr1 := Decidable.not_not.mp hr1
      rw [decide_eq_true hr1]
      refine iteF ⟨_, rfl, _, rfl, p, P, r, rfl, hP.same s1, lP, fun H2 u s2 e2 => ⟨_, .inr (.inl ⟨_, SqT.of e2, rfl⟩), ?_⟩⟩
      have em : ((inside P [r]).map V.str).isEmpty = !decide (r ∈ P.map (·.2)) := by
        rw [Bool.eq_iff_iff, List.isEmpty_iff, List.map_eq_nil_iff, inside_nil, Bool.not_eq_true', decide_eq_false_iff_not]
        constructor
        · intro z m
          obtain ⟨y, hy, ey⟩ := List.mem_map.mp m
          exact z y hy (List.mem_singleton.mpr ey)
        · intro z x hx m
          exact z (List.mem_map.mpr ⟨x, hx, List.mem_singleton.mp m⟩)
      rw [em]
      by_cases hr2 : ¬ r ∈ P.map (·.2)
      · rw [decide_eq_false hr2]
        exact iteT ⟨_, rfl, raise_end fun x H' s' e' => q4 ⟨nm, c, r, ev, hm, rfl, ⟨r0, r1⟩, hr1, hr2⟩ x H' ((s1.trans s2).trans s') e'⟩
      have hr2 := Decidable.not_not.mp hr2
      rw [decide_eq_true hr2]
      subst ev
      exact iteF ⟨_, rfl, _, rfl, _, rfl, p, P, nm, r, rfl, hP.same (s1.trans s2), lP, fun H3 u s3 e3 => q0 ⟨nm, c, r, rfl, hm, rfl, ⟨r0, r1⟩, hr1, hr2⟩ _ _ ((s1.trans s2).trans s3)⟩
end
end Fw
set_option maxHeartbeats 2000000
namespace Fw
open PySem PySem.Spec PyProof.Rows L2
/-- the answer that the law writes down -/
def mUs (v w : V) : Nat → List V
  | 0 => []
  | 1 => [.str "UnknownPerson", v]
  | 2 => [.str "InvalidRoom", w]
  | 3 => [.str "NotAdjacent", w]
  | _ => [.str "EmptyRoom", w]
theorem MRes.uniq {n : Int} {D : List (Int × Int)} {P : List (Str × Int)} {K : PySem.W.Frag} {H : Hp} {v w : V} {d e : PyData} (pl : Pl n P) (hv : Dx K [] H v d) (hw : Dx K [] H w e) : ∀ {i j : Nat}, MRes n D P v d w e i → MRes n D P v d w e j → i = j := by
  have no1 : ∀ {nm c}, v = .str nm → (nm, c) ∈ P → (∀ x ∈ P, strIs x.1 d = false) → False := fun {nm c} e1 m no => by
    subst e1
    cases hv
    have := no _ m
    rw [show strIs nm (.str nm) = true from BEq.rfl] at this
    cases this
  have no2 : ∀ {r : Int}, w = .int r → 0 ≤ r ∧ r < n → isRm n e = false → False := fun {r} e1 rr no => by
    subst e1
    cases hw
    have : decide (0 ≤ r ∧ r < n) = false := no
    exact of_decide_eq_false this rr
  have one : ∀ {nm c nm' c'}, v = .str nm → (nm, c) ∈ P → v = .str nm' → (nm', c') ∈ P → c = c' := fun {nm c nm' c'} e1 m1 e2 m2 => by
    have : nm' = nm := V.str.inj (e2.symm.trans e1)
    subst this
    have := key_uniq pl.nodup m1 m2 rfl
    cases this
    rfl
  have two : ∀ {r r' : Int}, w = .int r → w = .int r' → r = r' := fun e1 e2 => V.int.inj (e1.symm.trans e2)
  intro i j
  match i, j with
  | 0, 0 => exact fun _ _ => rfl
  | 1, 1 => exact fun _ _ => rfl
  | 2, 2 => exact fun _ _ => rfl
  | 3, 3 => exact fun _ _ => rfl
  | 4, 4 => exact fun _ _ => rfl
  | 1, 0 => exact fun x ⟨_, _, _, e1, m, _⟩ => (no1 e1 m x).elim
  | 1, 2 => exact fun x ⟨_, _, e1, m, _⟩ => (no1 e1 m x).elim
  | 1, 3 => exact fun x ⟨_, _, _, e1, m, _⟩ => (no1 e1 m x).elim
  | 1, 4 => exact fun x ⟨_, _, _, e1, m, _⟩ => (no1 e1 m x).elim
  | 0, 1 => exact fun ⟨_, _, _, e1, m, _⟩ x => (no1 e1 m x).elim
  | 2, 1 => exact fun ⟨_, _, e1, m, _⟩ x => (no1 e1 m x).elim
  | 3, 1 => exact fun ⟨_, _, _, e1, m, _⟩ x => (no1 e1 m x).elim
  | 4, 1 => exact fun ⟨_, _, _, e1, m, _⟩ x => (no1 e1 m x).elim
  | 2, 0 => exact fun ⟨_, _, _, _, x⟩ ⟨_, _, _, _, _, e1, rr, _⟩ => (no2 e1 rr x).elim
  | 2, 3 => exact fun ⟨_, _, _, _, x⟩ ⟨_, _, _, _, _, e1, rr, _⟩ => (no2 e1 rr x).elim
  | 2, 4 => exact fun ⟨_, _, _, _, x⟩ ⟨_, _, _, _, _, e1, rr, _⟩ => (no2 e1 rr x).elim
  | 0, 2 => exact fun ⟨_, _, _, _, _, e1, rr, _⟩ ⟨_, _, _, _, x⟩ => (no2 e1 rr x).elim
  | 3, 2 => exact fun ⟨_, _, _, _, _, e1, rr, _⟩ ⟨_, _, _, _, x⟩ => (no2 e1 rr x).elim
  | 4, 2 => exact fun ⟨_, _, _, _, _, e1, rr, _⟩ ⟨_, _, _, _, x⟩ => (no2 e1 rr x).elim
  | 0, 3 => exact fun ⟨_, _, _, a1, a2, a3, _, a4, _⟩ ⟨_, _, _, b1, b2, b3, _, b4⟩ => by rw [one a1 a2 b1 b2, two a3 b3] at a4; exact absurd a4 b4
  | 4, 3 => exact fun ⟨_, _, _, a1, a2, a3, _, a4, _⟩ ⟨_, _, _, b1, b2, b3, _, b4⟩ => by rw [one a1 a2 b1 b2, two a3 b3] at a4; exact absurd a4 b4
  | 3, 0 => exact fun ⟨_, _, _, b1, b2, b3, _, b4⟩ ⟨_, _, _, a1, a2, a3, _, a4, _⟩ => by rw [one a1 a2 b1 b2, two a3 b3] at a4; exact absurd a4 b4
  | 3, 4 => exact fun ⟨_, _, _, b1, b2, b3, _, b4⟩ ⟨_, _, _, a1, a2, a3, _, a4, _⟩ => by rw [one a1 a2 b1 b2, two a3 b3] at a4; exact absurd a4 b4
  | 0, 4 => exact fun ⟨_, _, _, _, _, a3, _, _, a5⟩ ⟨_, _, _, _, _, b3, _, _, b5⟩ => by rw [two a3 b3] at a5; exact absurd a5 b5
  | 4, 0 => exact fun ⟨_, _, _, _, _, b3, _, _, b5⟩ ⟨_, _, _, _, _, a3, _, _, a5⟩ => by rw [two a3 b3] at a5; exact absurd a5 b5
  | _ + 5, _ => exact fun x => x.elim
  | 0, _ + 5 => exact fun _ x => x.elim
  | 1, _ + 5 => exact fun _ x => x.elim
  | 2, _ + 5 => exact fun _ x => x.elim
  | 3, _ + 5 => exact fun _ x => x.elim
  | 4, _ + 5 => exact fun _ x => x.elim
/-- low <= it <= high -/
def inR (lo hi : Int) : PyData → Bool
  | .int r => decide (lo ≤ r ∧ r ≤ hi)
  | _ => false
theorem inR_rm (n : Int) (d : PyData) : inR 0 (n - 1) d = isRm n d := by
  cases d with
  | int r =>
    show decide (0 ≤ r ∧ r ≤ n - 1) = decide (0 ≤ r ∧ r < n)
    rw [decide_eq_decide]
    constructor <;> intro h <;> omega
  | _ => rfl
theorem inR_no {lo hi : Int} {d : PyData} (e : isNum d = false) : inR lo hi d = false := by
  cases d <;> first | (cases e; done) | rfl
section
variable {P : Program} {w : World} {K : PySem.W.Frag} {mg : Str → Option Value} {base : Heap}
def spLIntA (K : PySem.W.Frag) : Sp := fun vs H Q _ => ∃ (v : V) (d : PyData) (lo hi : Int), vs = [v, .int lo, .int hi] ∧ Dx K [] H v d ∧ Q (.bl (inR lo hi d)) H
abbrev nLInt : List Str := ["_law_value", "_law_low", "_law_high"]
theorem scLInt : FnScope nLInt ["_law_value", "_law_low", "_law_high"] (defScope sLInt) := ⟨rfl, rfl, rfl, by decide +kernel, rfl, by decide +kernel, by decide +kernel⟩
theorem ok_linta {f : Addr} {fd : FuncData} {k : Nat} (F : Fun K "_law_is_integer" "_law_is_integer" sLInt f fd) (T : Nm mg) : FnOk P w K mg base CX0 (k + 1) f fd ["_law_value", "_law_low", "_law_high"] (spLIntA K) := by
  refine F.ok scLInt (fun vs H Q E h => ?_) (fun cdv A outer s H vs Q E hr h => ?_)
  · obtain ⟨v, d, lo, hi, rfl, _⟩ := h
    rfl
  · obtain ⟨v, d, lo, hi, rfl, hd, q⟩ := h
    refine ⟨_, (pss_one (ps_ret (pe_and (pe_callB (call_isD (av := [])) (by rfl) T.isinstance (by decide +kernel) (pa_cons (pv 0) (pa_cons (pe_bltn (v := .ty "int") (by rfl) T.int (by decide +kernel) rfl) pa_nil))) (pe_and (pe_not (pe_callB (call_isD (av := [])) (by rfl) T.isinstance (by decide +kernel) (pa_cons (pv 0) (pa_cons (pe_bltn (v := .ty "bool") (by rfl) T.bool (by decide +kernel) rfl) pa_nil)))) (pe_one (pe_chain op_le op_le (pv 1) (pv 0) (pv 2))))))), ?_⟩
    refine ⟨_, rfl, v, "int", d, rfl, by decide, hd, _, rfl, ?_⟩
    have ie := isNum_eq d
    cases e : isD "int" d with
    | false =>
      rw [e] at ie
      have : isNum d = false := ie.symm
      rw [inR_no this] at q
      exact iteF q
    | true =>
      rw [e] at ie
      refine iteT ⟨_, rfl, v, "bool", d, rfl, by decide, hd, _, rfl, ?_⟩
      cases b : isD "bool" d with
      | true =>
        rw [b] at ie
        have : isNum d = false := ie.symm
        rw [inR_no this] at q
        exact ⟨_, rfl, iteF q⟩
      | false =>
        rw [b] at ie
        obtain ⟨r, rfl, rfl⟩ := isNum_int hd ie.symm
        have q : Q (.bl (decide (lo ≤ r ∧ r ≤ hi))) H := q
        refine ⟨_, rfl, iteT ⟨_, rfl, _, rfl, _, _, rfl, rfl, _, rfl, ?_⟩⟩
        refine ite2 (fun c => ?_) (fun c => ?_)
        · refine ⟨_, rfl, _, _, rfl, rfl, ?_⟩
          have c : lo ≤ r := of_decide_eq_true c
          rw [show decide (lo ≤ r ∧ r ≤ hi) = decide (r ≤ hi) by simp [c]] at q
          exact q
        · have c : ¬ lo ≤ r := fun e => c (decide_eq_true e)
          rw [show decide (lo ≤ r ∧ r ≤ hi) = false by simp [c]] at q
          exact q
/-- what a move of any value comes to, as the law writes it down -/
def spMAns (K : PySem.W.Frag) : Sp := fun vs H Q _ => ∃ (h p : Addr) (n : Int) (D : List (Int × Int)) (P : List (Str × Int)) (v : V) (d : PyData) (w : V) (e : PyData), vs = [.ref h, .ref p, v, w] ∧ HouseAt H h n D ∧ Forest n D ∧ 0 ≤ n ∧ n ≤ 8 ∧ PlD H p P ∧ Pl n P ∧ P.length ≤ 100 ∧ Dx K [] H v d ∧ Dx K [] H w e ∧
  ∀ H' l i, Same H H' → l ≠ sysModules → H' l = some (.lst (mUs v w i)) → MRes n D P v d w e i → Q (.ref l) H'
abbrev nLMoveExp : List Str := ["_law_house_here", "_law_placement_here", "_law_name", "_law_room", "_law_one"]
theorem scLMoveExp : FnScope nLMoveExp ["_law_house_here", "_law_placement_here", "_law_name", "_law_room"] (defScope sLMoveExp) := ⟨rfl, rfl, rfl, by decide +kernel, rfl, by decide +kernel, by decide +kernel⟩
theorem ok_lmexp {f : Addr} {fd : FuncData} {k : Nat} (F : Fun K "_law_move_expected" "_law_move_expected" sLMoveExp f fd) (T : Nm mg) (Tdict : mg "dict" = none) (C_law_is_integer : Cal P w K mg base (k + 1) "_law_is_integer" ["_law_value", "_law_low", "_law_high"] (spLIntA K)) (C_law_neighbors : Cal P w K mg base (k + 1) "_law_neighbors" ["_law_house_here", "_law_room"] spLNb) : FnOk P w K mg base CX0 (k + 2) f fd ["_law_house_here", "_law_placement_here", "_law_name", "_law_room"] (spMAns K) := by
  refine F.ok scLMoveExp (fun vs H Q E h => ?_) (fun cdv A outer s H vs Q E hr h => ?_)
  · obtain ⟨h, p, n, D, P, v, d, w, e, rfl, _⟩ := h
    rfl
  · obtain ⟨h, p, n, D, P, v, d, w, e, rfl, hH, hF, n0, n1, hP, pl, lP, hv, hw, q⟩ := h
    refine ⟨_, (pss_cons (ps_if (PW.pt (pw_or (pt_not (pt_val (pe_callB (call_isD (av := [])) (by rfl) T.isinstance (by decide +kernel) (pa_cons (pv 2) (pa_cons (pe_bltn (v := .ty "str") (by rfl) T.str (by decide +kernel) rfl) pa_nil))))) (pw_or1 (pt_cmpR (op_notInA (av := []) (hu_of hr)) (pv 2) (pe_lc (own := [("_law_one", 4)]) (g := gName 4) (by rfl) scLMoveExp.nd (pi_tupK K rfl (pv 1))
 (blkOk_by (own := [("_law_one", 4)]) (N := nLMoveExp) (sc := defScope sLMoveExp) (by decide +kernel))
 (fun _ _ _ _ _ => (pg_name (i := 4) scLMoveExp.nd rfl (.inl rfl))) (fun _ _ _ _ _ => pts_nil) (fun _ _ _ _ _ => (pe_ix (ix_tupK K rfl) (pv 4) pe_int (fun _ _ => rfl)))) (by rfl)))))
      (pss_one (ps_ret (pe_lstN (pa_cons pe_str (pa_cons (pv 2) pa_nil)))))
      pss_nil)
      (pss_cons (ps_if (pt_not (pt_val (pe_cal C_law_is_integer hr (by rfl) (pa_cons (pv 3) (pa_cons pe_int (pa_cons (pe_op op_sub (pe_ix (ix_tupK K rfl) (pv 0) pe_int (fun _ _ => rfl)) pe_int) pa_nil))))))
      (pss_one (ps_ret (pe_lstN (pa_cons pe_str (pa_cons (pv 3) pa_nil)))))
      pss_nil)
      (pss_cons (ps_if (pt_cmpR (op_notInK K rfl) (pv 3) (pe_cal C_law_neighbors hr (by rfl) (pa_cons (pv 0) (pa_cons (pe_dget (hu_of hr) (pe_callTy (call_dictT rfl) (by rfl) Tdict (by decide +kernel) (pa_cons (pv 1) pa_nil)) (pv 2) (fun _ _ => rfl)) pa_nil))) (by rfl))
      (pss_one (ps_ret (pe_lstN (pa_cons pe_str (pa_cons (pv 3) pa_nil)))))
      pss_nil)
      (pss_one (ps_ret (pe_ifExp (pt_cmpR (op_inK K rfl) (pv 3) (pe_lc (own := [("_law_one", 4)]) (g := gName 4) (by rfl) scLMoveExp.nd (pi_tupK K rfl (pv 1))
 (blkOk_by (own := [("_law_one", 4)]) (N := nLMoveExp) (sc := defScope sLMoveExp) (by decide +kernel))
 (fun _ _ _ _ _ => (pg_name (i := 4) scLMoveExp.nd rfl (.inl rfl))) (fun _ _ _ _ _ => pts_nil) (fun _ _ _ _ _ => (pe_ix (ix_tupK K rfl) (pv 4) pe_int (fun _ _ => rfl)))) (by rfl)) (pe_lstN pa_nil) (pe_lstN (pa_cons pe_str (pa_cons (pv 3) pa_nil))))))))), ?_⟩
    have fin : ∀ (i : Nat) {J : Hp}, Same H J → MRes n D P v d w e i → (mUs v w i).length ≤ sizeLine ∧ ∀ l, J l = none → l ≠ sysModules → Q (.ref l) (upd J l (.lst (mUs v w i))) := fun i J s1 mr => by
      refine ⟨?_, fun l hl ns => q _ l i (s1.trans (same_upd hl)) ns upd_same mr⟩
      match i with
      | 0 => exact Nat.zero_le _
      | 1 => show 2 ≤ sizeLine; decide
      | 2 => show 2 ≤ sizeLine; decide
      | 3 => show 2 ≤ sizeLine; decide
      | _ + 4 => show 2 ≤ sizeLine; decide
    refine ⟨_, rfl, v, "str", d, rfl, by decide, hv, _, rfl, ?_⟩
    refine ite2 (fun c => ?_) (fun c => ?_)
    · refine iteT ⟨_, rfl, fin 1 (Same.refl _) fun x hx => ?_⟩
      cases d <;> first | rfl | (cases c; done)
    have : isD "str" d = true := by cases e : isD "str" d with | true => rfl | false => rw [e] at c; exact absurd rfl c
    have ex : ∃ z, d = .str z := by
      cases d <;> first | (cases this; done) | exact ⟨_, rfl⟩
    obtain ⟨z, rfl⟩ := ex
    obtain rfl := dx_str hv
    obtain ⟨ps, h1, h2, h3⟩ := id hP.pl
    have lps : ps.length ≤ 100 := by rw [h2, List.length_map] at lP; exact lP
    refine ⟨_, rfl, _, rfl, p, rfl, ⟨_, h1.sq⟩, fun L hL => lc_tup (K := K) (a := p) (xs := ps.map fun q => V.ref q.1) (fun k H' => Same H H' ∧ H' L = some (.lst (((P.take k).map (·.1)).map V.str))) ⟨same_upd hL, upd_same⟩ (fun k H' _ hh => (h1.same hh.1).sq) ?_ ?_⟩
    · rintro k x H' hx ⟨s', e'⟩
      obtain ⟨q', hq, rfl⟩ := get_pl hx
      have hk : P[k]? = some (q'.2.1, q'.2.2) := by rw [h2, List.getElem?_map, hq]; rfl
      refine ⟨rfl, ?_⟩
      unfold tYes
      refine iteT ⟨_, rfl, q'.1, _, _, _, rfl, rfl, SqT.of (s' _ _ (h3 q' (List.mem_of_getElem? hq))), atI0, _, e', ?_, same_put s' hL, ?_⟩
      · rw [List.length_map, List.length_map, List.length_take]
        exact small1000 (by omega)
      · rw [upd_same, names_snoc hk, vs_app]
        rfl
    rintro H1 ⟨s1, e1⟩
    rw [List.length_map, show ps.length = P.length by rw [h2, List.length_map], List.take_length] at e1
    refine ⟨L, _, .str z, rfl, SqL.of e1, .str z, _, rfl, ?_⟩
    refine ite2 (fun c => ?_) (fun c => ?_)
    · refine ⟨_, rfl, fin 1 s1 fun x hx => ?_⟩
      rw [Bool.not_eq_true', List.any_eq_false] at c
      exact Bool.eq_false_iff.mpr (c x.1 (List.mem_map_of_mem (f := (·.1)) hx))
    have c : ((P.map (·.1)).any fun y => strIs y (.str z)) = true := by
      cases e : ((P.map (·.1)).any fun y => strIs y (.str z)) with | true => rfl | false => rw [e] at c; exact absurd rfl c
    obtain ⟨y, hy, ey⟩ := List.any_eq_true.mp c
    obtain ⟨x, hx, rfl⟩ := List.mem_map.mp hy
    have ex : x.1 = z := eq_of_beq ey
    have hm : (z, x.2) ∈ P := by rw [← ex]; exact hx
    obtain ⟨qd, eh⟩ := hH.room0
    refine ⟨_, rfl, _, rfl, h, _, _, _, rfl, rfl, SqT.of (s1 _ _ eh), atI0, _, _, rfl, rfl, w, e, 0, n - 1, rfl, dx_sm s1 hw, _, rfl, ?_⟩
    rw [inR_rm]
    cases er : isRm n e with
    | false => exact iteT ⟨_, rfl, fin 2 s1 ⟨z, x.2, rfl, hm, er⟩⟩
    | true =>
      have ir : ∃ r : Int, w = .int r ∧ 0 ≤ r ∧ r < n := by
        cases hw <;> first | (cases er; done) | exact ⟨_, rfl, of_decide_eq_true er⟩
      obtain ⟨r, rfl, r0, r1⟩ := ir
      refine iteF ⟨_, rfl, _, rfl, _, rfl, p, P, rfl, hP.same s1, pl.nodup, by omega, fun m hm' => ?_⟩
      have s2 := s1.trans (same_upd (o := .dK (dkI P)) hm')
      have g1 := DGet.k (k := Sum.inr z) (show (upd H1 m (.dK (dkI P))) m = some (.dK (dkI P)) from upd_same)
      rw [valV_dkI pl.nodup hm] at g1
      generalize upd H1 m (.dK (dkI P)) = H2 at *
      refine ⟨_, rfl, m, _, rfl, g1, h, n, D, x.2, rfl, hH.same s2, hF, fun H3 l s3 hl el => ⟨l, _, rfl, .inl (SqL.of el), rfl, flat_vi _, _, rfl, ?_⟩⟩
      have s3 := s2.trans s3
      rw [if_pos rfl, inV_vi]
      by_cases hr1 : ¬ r ∈ nb n D x.2
      · rw [decide_eq_false hr1]
        exact iteT ⟨_, rfl, fin 3 s3 ⟨z, x.2, r, rfl, hm, rfl, ⟨r0, r1⟩, hr1⟩⟩
      have hr1 := Decidable.not_not.mp hr1
      rw [decide_eq_true hr1]
      refine iteF ⟨_, rfl, _, rfl, p, rfl, ⟨_, (h1.same s3).sq⟩, fun L hL => lc_tup (K := K) (a := p) (xs := ps.map fun q => V.ref q.1) (fun k H' => Same H3 H' ∧ H' L = some (.lst (vi ((P.take k).map (·.2))))) ⟨same_upd hL, upd_same⟩ (fun k H' _ hh => ((h1.same s3).same hh.1).sq) ?_ ?_⟩
      · rintro k x H' hx ⟨s', e'⟩
        obtain ⟨q', hq, rfl⟩ := get_pl hx
        have hk : P[k]? = some (q'.2.1, q'.2.2) := by rw [h2, List.getElem?_map, hq]; rfl
        refine ⟨rfl, ?_⟩
        unfold tYes
        refine iteT ⟨_, rfl, q'.1, _, _, _, rfl, rfl, SqT.of (s' _ _ (s3 _ _ (h3 q' (List.mem_of_getElem? hq)))), atI1, _, e', ?_, same_put s' hL, ?_⟩
        · rw [List.length_map, List.length_map, List.length_take]
          exact small1000 (by omega)
        · rw [upd_same, take_snoc hk, List.map_append, vi_app]
          rfl
      rintro H4 ⟨s4, e4⟩
      rw [List.length_map, show ps.length = P.length by rw [h2, List.length_map], List.take_length] at e4
      refine ⟨L, _, rfl, .inl (SqL.of e4), rfl, flat_vi _, _, rfl, ?_⟩
      rw [if_neg (by decide), inV_vi]
      by_cases hr2 : r ∈ P.map (·.2)
      · rw [decide_eq_true hr2]
        exact iteT (fin 0 (s3.trans s4) ⟨z, x.2, r, rfl, hm, rfl, ⟨r0, r1⟩, hr1, hr2⟩)
      · rw [decide_eq_false hr2]
        exact iteF ⟨_, rfl, fin 4 (s3.trans s4) ⟨z, x.2, r, rfl, hm, rfl, ⟨r0, r1⟩, hr1, hr2⟩⟩
end
end Fw
set_option maxHeartbeats 2000000
namespace Fw
open PySem PySem.Spec PyProof.Rows L2
/-! values of any kind with a bound: the numbers' size, the depth, the bulk -/
mutual
def okI (b : Nat) : PyData → Bool
  | .int i => decide (i.natAbs ≤ 10 ^ 59 + b)
  | .str z => z.cps.toList.all fun c => decide (c < 1114112)
  | .list ds => okIA b ds
  | .tuple ds => okIA b ds
  | .dict kvs => kvs.isEmpty
  | .none => true
  | .bool _ => true
def okIA (b : Nat) : List PyData → Bool
  | [] => true
  | d :: ds => okI b d && okIA b ds
end
theorem int_short {i : Int} {b : Nat} (h : i.natAbs ≤ 10 ^ 59 + b) (hb : b ≤ 1000) : (PyData.shown (.int i)).length ≤ 70 ∧ i.natAbs.log2 < 1920 := by
  have h1 : i.natAbs < 10 ^ 60 := by
    have : (10 : Nat) ^ 59 + 1000 < 10 ^ 60 := by decide +kernel
    omega
  constructor
  · have e := int_text_length_le10 (k := 60) (by decide) h1
    show (Str.ofString (toString i)).length ≤ 70
    rw [PySem.ofString_length]
    omega
  · by_cases z : i.natAbs = 0
    · rw [z]; decide
    · rw [Nat.log2_lt z]
      have : (10 : Nat) ^ 60 < 2 ^ 200 := by decide +kernel
      have : (2 : Nat) ^ 200 ≤ 2 ^ 1920 := Nat.pow_le_pow_right (by decide) (by decide)
      omega
mutual
theorem okI_short {b : Nat} (hb : b ≤ 1000) : ∀ d : PyData, okI b d = true → d.leavesShort 70 = true ∧ d.showable = true
  | .int i, h => by
    have h := int_short (of_decide_eq_true (show decide (i.natAbs ≤ 10 ^ 59 + b) = true from h)) hb
    simp only [PyData.leavesShort, PyData.showable]
    exact ⟨decide_eq_true h.1, decide_eq_true h.2⟩
  | .str z, h => by
    simp only [PyData.leavesShort, PyData.showable]
    refine ⟨?_, trivial⟩
    have h : (z.cps.toList.all fun c => decide (c < 1114112)) = true := h
    rw [List.all_eq_true] at h ⊢
    intro c hc
    have := of_decide_eq_true (h c hc)
    have e : (16 : Nat) ^ 8 = 4294967296 := by decide
    exact decide_eq_true (by omega)
  | .list ds, h => by
    simp only [PyData.leavesShort, PyData.showable]
    exact okIA_short hb ds h
  | .tuple ds, h => by
    simp only [PyData.leavesShort, PyData.showable]
    exact okIA_short hb ds h
  | .dict [], _ => by
    simp [PyData.leavesShort, PyData.showable, PyData.leavesShortKv, PyData.showableKv]
  | .dict (_ :: _), h => by cases h
  | .none, _ => by simp [PyData.leavesShort, PyData.showable]
  | .bool _, _ => by simp [PyData.leavesShort, PyData.showable]
theorem okIA_short {b : Nat} (hb : b ≤ 1000) : ∀ ds : List PyData, okIA b ds = true → PyData.leavesShortAll 70 ds = true ∧ PyData.showableAll ds = true
  | [], _ => ⟨rfl, rfl⟩
  | d :: ds, h => by
    have h : (okI b d && okIA b ds) = true := h
    rw [Bool.and_eq_true] at h
    obtain ⟨a1, a2⟩ := okI_short hb d h.1
    obtain ⟨b1, b2⟩ := okIA_short hb ds h.2
    simp only [PyData.leavesShortAll, PyData.showableAll, a1, a2, b1, b2, Bool.and_true, and_self]
end
mutual
theorem okI_up {a b : Nat} (h : a ≤ b) : ∀ d : PyData, okI a d = true → okI b d = true
  | .int i, z => decide_eq_true (Nat.le_trans (of_decide_eq_true (show decide (i.natAbs ≤ 10 ^ 59 + a) = true from z)) (by omega))
  | .str _, z => z
  | .list ds, z => okIA_up h ds z
  | .tuple ds, z => okIA_up h ds z
  | .dict _, z => z
  | .none, _ => rfl
  | .bool _, _ => rfl
theorem okIA_up {a b : Nat} (h : a ≤ b) : ∀ ds : List PyData, okIA a ds = true → okIA b ds = true
  | [], _ => rfl
  | d :: ds, z => by
    have z : (okI a d && okIA a ds) = true := z
    rw [Bool.and_eq_true] at z
    show (okI b d && okIA b ds) = true
    rw [Bool.and_eq_true]
    exact ⟨okI_up h d z.1, okIA_up h ds z.2⟩
end
structure Gd (b k n : Nat) (d : PyData) : Prop where
  i : okI b d = true
  p : d.depth ≤ k
  w : d.bulk ≤ n
structure GdA (b k n : Nat) (ds : List PyData) : Prop where
  i : okIA b ds = true
  p : PyData.depthAll ds ≤ k
  w : PyData.bulkAll ds ≤ n
theorem Gd.up {a b j k m n : Nat} {d : PyData} (h : Gd a j m d) (h1 : a ≤ b) (h2 : j ≤ k) (h3 : m ≤ n) : Gd b k n d := ⟨okI_up h1 d h.i, Nat.le_trans h.p h2, Nat.le_trans h.w h3⟩
theorem GdA.up {a b j k m n : Nat} {d : List PyData} (h : GdA a j m d) (h1 : a ≤ b) (h2 : j ≤ k) (h3 : m ≤ n) : GdA b k n d := ⟨okIA_up h1 d h.i, Nat.le_trans h.p h2, Nat.le_trans h.w h3⟩
theorem GdA.nil {b k n : Nat} : GdA b k n [] := ⟨rfl, Nat.zero_le _, Nat.zero_le _⟩
theorem GdA.cons {b k m n : Nat} {d : PyData} {ds : List PyData} (h : Gd b k m d) (t : GdA b k n ds) : GdA b k (m + 1 + n) (d :: ds) := by
  refine ⟨?_, ?_, ?_⟩
  · show (okI b d && okIA b ds) = true
    rw [h.i, t.i]; rfl
  · simp only [PyData.depthAll]
    have := h.p; have := t.p; omega
  · simp only [PyData.bulkAll]
    have := h.w; have := t.w; omega
theorem GdA.un {b k n : Nat} {d : PyData} {ds : List PyData} (h : GdA b k n (d :: ds)) : ∃ m l, m + 1 + l ≤ n ∧ Gd b k m d ∧ GdA b k l ds := by
  obtain ⟨h1, h2, h3⟩ := h
  have h1 : (okI b d && okIA b ds) = true := h1
  rw [Bool.and_eq_true] at h1
  simp only [PyData.depthAll] at h2
  simp only [PyData.bulkAll] at h3
  exact ⟨_, _, h3, ⟨h1.1, by omega, Nat.le_refl _⟩, ⟨h1.2, by omega, Nat.le_refl _⟩⟩
theorem GdA.app {b k n : Nat} {ys : List PyData} (t : GdA b k n ys) : ∀ {m : Nat} {xs : List PyData}, GdA b k m xs → GdA b k (m + n) (xs ++ ys)
  | m, [], _ => t.up (Nat.le_refl _) (Nat.le_refl _) (by omega)
  | m, x :: xs, h => by
    obtain ⟨a, l, e, h1, h2⟩ := h.un
    exact (GdA.cons h1 (GdA.app t h2)).up (Nat.le_refl _) (Nat.le_refl _) (by omega)
theorem GdA.split {b k n : Nat} : ∀ {xs ys : List PyData}, GdA b k n (xs ++ ys) → ∃ m l, m + l ≤ n ∧ GdA b k m xs ∧ GdA b k l ys
  | [], ys, h => ⟨0, n, by omega, .nil, h⟩
  | x :: xs, ys, h => by
    obtain ⟨a, l, e, h1, h2⟩ := GdA.un (d := x) (ds := xs ++ ys) h
    obtain ⟨m, r, e2, h3, h4⟩ := h2.split
    exact ⟨a + 1 + m, r, by omega, .cons h1 h3, h4⟩
theorem GdA.at {b k n : Nat} {ds : List PyData} (h : GdA b k n ds) (i : Nat) : ∃ m l, m + l ≤ n ∧ GdA b k m (ds.take i) ∧ GdA b k l (ds.drop i) := by
  have := h
  rw [← List.take_append_drop i ds] at this
  exact this.split
theorem GdA.rev {b k : Nat} : ∀ {ds : List PyData} {n : Nat}, GdA b k n ds → GdA b k n ds.reverse
  | [], _, h => h
  | x :: xs, n, h => by
    obtain ⟨a, l, e, h1, h2⟩ := h.un
    rw [List.reverse_cons]
    exact (GdA.app (GdA.cons h1 (GdA.nil (n := 0))) h2.rev).up (Nat.le_refl _) (Nat.le_refl _) (by omega)
theorem GdA.get {b k : Nat} : ∀ {ds : List PyData} {n : Nat}, GdA b k n ds → ∀ {d : PyData}, d ∈ ds → Gd b k n d
  | x :: xs, n, h, d, m => by
    obtain ⟨a, l, e, h1, h2⟩ := h.un
    rcases List.mem_cons.mp m with rfl | m
    · exact h1.up (Nat.le_refl _) (Nat.le_refl _) (by omega)
    · exact (h2.get m).up (Nat.le_refl _) (Nat.le_refl _) (by omega)
theorem GdA.len {b k : Nat} : ∀ {ds : List PyData} {n : Nat}, GdA b k n ds → ds.length ≤ n
  | [], _, _ => Nat.zero_le _
  | x :: xs, n, h => by
    obtain ⟨a, l, e, h1, h2⟩ := h.un
    have := h2.len
    rw [List.length_cons]
    omega
theorem Gd.tup {b k n : Nat} {ds : List PyData} (h : GdA b k n ds) : Gd b (k + 1) n (.tuple ds) := ⟨h.i, by simp only [PyData.depth]; have := h.p; omega, by simp only [PyData.bulk]; exact h.w⟩
theorem Gd.lst {b k n : Nat} {ds : List PyData} (h : GdA b k n ds) : Gd b (k + 1) n (.list ds) := ⟨h.i, by simp only [PyData.depth]; have := h.p; omega, by simp only [PyData.bulk]; exact h.w⟩
theorem Gd.un {b k n : Nat} {ds : List PyData} (h : Gd b (k + 1) n (.tuple ds)) : GdA b k n ds := ⟨h.i, by have := h.p; simp only [PyData.depth] at this; omega, by have := h.w; simp only [PyData.bulk] at this; exact this⟩
theorem Gd.flat {b n : Nat} {ds : List PyData} (h : Gd b 0 n (.tuple ds)) : False := by
  have := h.p
  simp only [PyData.depth] at this
  omega
/-- it can be shown -/
theorem Gd.shows {b k n : Nat} {d : PyData} (h : Gd b k n d) (hb : b ≤ 1000) (hk : k ≤ 60) (hn : n ≤ 100000) : d.showable = true ∧ d.depth ≤ 60 ∧ d.shown.length ≤ sizeLine := by
  obtain ⟨h1, h2⟩ := okI_short hb d h.i
  refine ⟨h2, Nat.le_trans h.p hk, ?_⟩
  have h3 := PyData.shown_le_bulk 70 (by decide) d h1
  have h4 : (70 + 2) * d.bulk ≤ 72 * 100000 := Nat.mul_le_mul_left _ (Nat.le_trans h.w hn)
  rw [sizeLine_eq]
  omega
theorem datas_gd : ∀ d ∈ datas, okI 0 d = true ∧ d.depth ≤ 2 ∧ d.bulk ≤ 10 := by decide +kernel
theorem gd_data {d : PyData} (h : d ∈ datas) : Gd 0 2 10 d := ⟨(datas_gd d h).1, (datas_gd d h).2.1, (datas_gd d h).2.2⟩
/-! slices and sums of tuples whose items are told -/
theorem DxAll.app {K : PySem.W.Frag} {av : List Addr} {H : Hp} : ∀ {xs ys : List V} {ds es : List PyData}, DxAll K av H xs ds → DxAll K av H ys es → DxAll K av H (xs ++ ys) (ds ++ es)
  | _, _, _, _, .nil, t => t
  | _, _, _, _, .cons h r, t => .cons h (r.app t)
theorem DxAll.take {K : PySem.W.Frag} {av : List Addr} {H : Hp} : ∀ {xs : List V} {ds : List PyData} (i : Nat), DxAll K av H xs ds → DxAll K av H (xs.take i) (ds.take i)
  | _, _, 0, _ => by rw [List.take_zero, List.take_zero]; exact .nil
  | _, _, i + 1, .nil => .nil
  | _, _, i + 1, .cons h r => .cons h (r.take i)
theorem DxAll.drop {K : PySem.W.Frag} {av : List Addr} {H : Hp} : ∀ {xs : List V} {ds : List PyData} (i : Nat), DxAll K av H xs ds → DxAll K av H (xs.drop i) (ds.drop i)
  | _, _, 0, h => h
  | _, _, i + 1, .nil => .nil
  | _, _, i + 1, .cons h r => r.drop i
theorem DxAll.rev {K : PySem.W.Frag} {av : List Addr} {H : Hp} : ∀ {xs : List V} {ds : List PyData}, DxAll K av H xs ds → DxAll K av H xs.reverse ds.reverse
  | _, _, .nil => .nil
  | _, _, .cons h r => by
    rw [List.reverse_cons, List.reverse_cons]
    exact r.rev.app (.cons h .nil)
theorem DxAll.len {K : PySem.W.Frag} {av : List Addr} {H : Hp} : ∀ {xs : List V} {ds : List PyData}, DxAll K av H xs ds → xs.length = ds.length
  | _, _, .nil => rfl
  | _, _, .cons _ r => congrArg (· + 1) r.len
theorem DxAll.at {K : PySem.W.Frag} {av : List Addr} {H : Hp} : ∀ {xs : List V} {ds : List PyData}, DxAll K av H xs ds → ∀ {i : Nat} {x : V}, xs[i]? = some x → ∃ d, ds[i]? = some d ∧ Dx K av H x d
  | _, _, .cons h r, 0, x, e => by cases e; exact ⟨_, rfl, h⟩
  | _, _, .cons h r, i + 1, x, e => r.at e
section
variable {X : Cx}
/-- t[lo:hi]: some tuple with those items -/
def rSlS (K : PySem.W.Frag) : V → Option Int → Option Int → Hp → VK → Prop := fun x lo hi H Q => ∃ a xs, x = .ref a ∧ SqT K H a xs ∧ ∀ H' p, Same H H' → SqT K H' p (cutV xs lo hi) → Q (.ref p) H'
theorem cut_whole {xs : List V} {lo hi : Option Int} (h1 : HT.sIx xs.length 0 lo = 0) (h2 : HT.sIx xs.length xs.length hi = xs.length) : cutV xs lo hi = xs := by
  unfold cutV
  rw [h1, h2, List.drop_zero, Nat.sub_zero, List.take_length]
theorem sl_tupS : SlR X (rSlS X.K) := by
  intro pins s σ H x v vl vu lo hi sl Q I rx hs pl pu h
  obtain ⟨a, xs, rfl, hx, q⟩ := h
  refine sl_tupA pins s σ H _ v vl vu lo hi sl Q I rx hs pl pu ⟨a, xs, rfl, hx, fun w => q H a (Same.refl _) ?_, fun _ p hp => q _ p (same_upd hp) (SqT.of upd_same)⟩
  rw [cut_whole w.1 w.2]
  exact hx
/-- t + u: some tuple with those items -/
def rCatS (K : PySem.W.Frag) : R2 := fun x y H Q => ∃ a b xs ys, x = .ref a ∧ y = .ref b ∧ SqT K H a xs ∧ SqT K H b ys ∧ xs.length + ys.length ≤ sizeLine ∧ ∀ H' p, Same H H' → SqT K H' p (xs ++ ys) → Q (.ref p) H'
theorem op_catS : OpR X (binaryOp .Add) (rCatS X.K) := by
  intro pins s σ H x y v u Q I rx ry h
  obtain ⟨a, b, xs, ys, rfl, rfl, ha, hb, hz, q⟩ := h
  refine op_catA pins s σ H _ _ v u Q I rx ry ⟨a, b, xs, ys, rfl, rfl, ha, hb, hz, fun e => q H b (Same.refl _) (by rw [e]; exact hb), fun _ e => q H a (Same.refl _) (by rw [e, List.append_nil]; exact ha), fun _ _ p hp => q _ p (same_upd hp) (SqT.of upd_same)⟩
end
theorem cut_to {xs : List V} {i : Int} (h0 : 0 ≤ i) (h1 : i ≤ (xs.length : Nat)) : cutV xs none (some i) = xs.take i.toNat := by
  unfold cutV
  show (xs.drop 0).take ((if i < 0 then (i + (xs.length : Nat)).toNat else min i.toNat xs.length) - 0) = _
  rw [if_neg (by omega), List.drop_zero, Nat.sub_zero, show min i.toNat xs.length = i.toNat by omega]
theorem cut_from {xs : List V} {i : Int} (h0 : 0 ≤ i) (h1 : i ≤ (xs.length : Nat)) : cutV xs (some i) none = xs.drop i.toNat := by
  unfold cutV
  show (xs.drop (if i < 0 then (i + (xs.length : Nat)).toNat else min i.toNat xs.length)).take (xs.length - (if i < 0 then (i + (xs.length : Nat)).toNat else min i.toNat xs.length)) = _
  rw [if_neg (by omega), show min i.toNat xs.length = i.toNat by omega, List.take_of_length_le (by rw [List.length_drop]; exact Nat.le_refl _)]
end Fw
set_option maxHeartbeats 2000000
namespace Fw
open PySem PySem.Spec PyProof.Rows L2
section
variable {X : Cx}
/-- t == (), whatever lies in t -/
def rEq0 (K : PySem.W.Frag) : R2 := fun x y H Q => ∃ (a b : Addr) (xs : List V), x = .ref a ∧ y = .ref b ∧ SqT K H a xs ∧ SqT K H b [] ∧ Q (.bl xs.isEmpty) H
theorem op_eq0 (hu : X.A.units < cLine) : OpR X (compareOp .Eq) (rEq0 X.K) := by
  intro pn sh σ H x y v u Q J rx ry hh
  obtain ⟨a, b, xs, rfl, rfl, ha, hb, q⟩ := hh
  cases rx
  cases ry
  obtain ⟨ia, ra, pa, _⟩ := J.tuple ha
  obtain ⟨ib, rb, pb, _⟩ := J.tuple hb
  cases rb
  refine SeqAt.eq_tupleAt (e := fun _ => true) pa pb hu (fun j h1 h2 => absurd h2 (by simp)) ?_
  refine ⟨.bl xs.isEmpty, H, J, ?_, q⟩
  have hl := ra.length
  show Value.bool _ = Value.bool _
  congr 1
  cases xs with
  | nil =>
    cases ra
    rfl
  | cons x0 xs =>
    cases ra
    simp
/-- v + k, v an int or a bool -/
def intOf : PyData → Int
  | .int i => i
  | .bool b => if b = true then 1 else 0
  | _ => 0
def rAddB (K : PySem.W.Frag) (av : List Addr) : R2 := fun x y H Q => ∃ (d : PyData) (k : Int), Dx K av H x d ∧ isD "int" d = true ∧ y = .int k ∧ Q (.int (intOf d + k)) H
theorem op_addB {av : List Addr} : OpR X (binaryOp .Add) (rAddB X.K av) := by
  intro pn sh σ H x y v u Q J rx ry hh
  obtain ⟨d, k, hd, hi, rfl, q⟩ := hh
  obtain ⟨t, rfl⟩ := ry
  cases hd with
  | int i =>
    obtain ⟨t0, rfl⟩ := rx
    exact add_int ⟨.int _, H, J.tok _, ⟨_, rfl⟩, q⟩
  | bl b =>
    cases rx
    exact IntBool.add_bool_int ⟨.int _, H, J.tok _, ⟨_, rfl⟩, q⟩
  | non => cases hi
  | str x => cases hi
  | lst h n a => cases hi
  | tup h a => cases hi
  | dct e => cases hi
end
end Fw
namespace Fw
open PySem PySem.Spec PyProof.Rows L2 HT
/-! ### t[::-1] -/
section
variable {P : Program} {w : World} {A : Around} {E : Value → Shared → Prop} {s : Shared}
theorem back_parts (n : Nat) : Builtin.Slice.sliceAdjust none none (-1) (n : Int) = ((n : Int) - 1, -1) ∧ Builtin.Slice.slicePlaces ((n : Int) - 1) (-1) (-1) = n := by
  constructor
  · rfl
  · unfold Builtin.Slice.slicePlaces
    rw [if_neg (by decide)]
    by_cases h : n = 0
    · subst h; rfl
    · rw [if_pos (by omega), show (-(-1 : Int)) = 1 from rfl, Int.ediv_one]
      omega
theorem applied_back {sl : Addr} {n : Nat} {vs : Value} {Q : Int × Int × Nat → Shared → Prop} (hs : s.heap.IsSliceOf sl .none .none vs) (ps : IsPart vs (some (-1))) (h : Q ((n : Int) - 1, -1, n) s) :
    wpAny (model P w) A (Builtin.Slice.sliceApplied (.ref sl) (pure (n : Int))) Q E s := by
  obtain ⟨os, g1, g2, g3⟩ := id hs
  unfold Builtin.Slice.sliceApplied Builtin.Slice.sliceFields
  refine wpAny_bind (wpAny_bind (wpAny_field g1 g3 (x := .none) rfl (wpAny_bind (wpAny_field g1 g3 (x := .none) rfl (wpAny_bind (wpAny_field g1 g3 (x := vs) rfl (wpAny_pure ?_)))))))
  refine wpAny_bind (slicePart_ ps ?_)
  show wpAny _ _ (if ((-1 : Int) == 0) = true then _ else _) _ _ s
  rw [if_neg (by decide)]
  refine wpAny_bind (slicePart_none (wpAny_bind (slicePart_none (wpAny_bind (wpAny_pure ?_)))))
  show wpAny _ _ (match Builtin.Slice.sliceAdjust none none (-1) (n : Int) with | (lo, hi) => pure (lo, (-1 : Int), Builtin.Slice.slicePlaces lo hi (-1))) _ _ s
  rw [(back_parts n).1]
  show wpAny _ _ (pure ((n : Int) - 1, (-1 : Int), Builtin.Slice.slicePlaces ((n : Int) - 1) (-1) (-1))) _ _ s
  rw [(back_parts n).2]
  exact wpAny_pure h
theorem fm_eq {α β : Type} {f : α → Option β} {g : α → β} : ∀ {l : List α}, (∀ x ∈ l, f x = some (g x)) → l.filterMap f = l.map g
  | [], _ => rfl
  | x :: l, h => by
    rw [List.filterMap_cons, h x (List.mem_cons_self ..), List.map_cons, fm_eq (l := l) fun y hy => h y (List.mem_cons_of_mem _ hy)]
theorem pick_back (xs : List Value) : ((List.range xs.toArray.size).filterMap fun (k : Nat) => xs.toArray[(((xs.toArray.size : Nat) : Int) - 1 + (k : Int) * (-1)).toNat]?) = xs.reverse := by
  rw [List.size_toArray]
  have e : ∀ k ∈ List.range xs.length, xs.toArray[(((xs.length : Nat) : Int) - 1 + (k : Int) * (-1)).toNat]? = some (xs.reverse[k]?.getD .none) := fun k hk => by
    have hk := List.mem_range.mp hk
    have e1 : (((xs.length : Nat) : Int) - 1 + (k : Int) * (-1)).toNat = xs.length - 1 - k := by omega
    rw [e1, List.getElem?_toArray, List.getElem?_reverse hk, List.getElem?_eq_getElem (by omega)]
    rfl
  have e2 : (List.range xs.length).filterMap (fun (k : Nat) => xs.toArray[(((xs.length : Nat) : Int) - 1 + (k : Int) * (-1)).toNat]?) = (List.range xs.length).map fun k => xs.reverse[k]?.getD .none := by
    exact fm_eq e
  rw [e2]
  refine List.ext_getElem (by simp) fun i h1 h2 => ?_
  rw [List.getElem_map, List.getElem_range, List.getElem?_eq_getElem h2]
  rfl
theorem tuple_back {t sl : Addr} {xs : List Value} {vs : Value} {Q : Value → Shared → Prop} (ht : IsTup s.heap t xs.toArray) (hs : s.heap.IsSliceOf sl .none .none vs) (ps : IsPart vs (some (-1))) (hz : xs.length ≤ sizeLine)
    (h : Q (.ref s.heap.objs.size) { s with heap := s.heap.push { cls := .type "tuple", data := .seq xs.reverse.toArray } }) : wpAny (model P w) A (getItem (.ref t) (.ref sl)) Q E s := by
  have fits : sizeOk (.seq xs.reverse.toArray) := by
    show xs.reverse.toArray.size ≤ sizeLine
    simpa using hz
  obtain ⟨os, g1, g2, g3⟩ := id hs
  have ty : s.TypeIs (.ref sl) "slice" := ⟨os, g1, g2⟩
  unfold getItem
  try with_reducible refine wpAny_holding ?_
  first | refine wpAny_bind (wpAny_pure ?_) | skip
  refine wpAny_bind (wpAny_sequenceKey ht.typeIs (by decide) (wpAny_bind (wpAny_callSpecial?_slot (name := Str.ofString "__getitem__") ht.typeIs PyProof.Rows.slot_tuple_getitem
    (wpAny_call_entry PyProof.Rows.slot_tuple_getitem ht.typeIs entry_tuple_getitem ?_ (args_tuple_getitem _ _)))))
  show wpAny _ _ (Builtin.Tuple.tupleItemsOf (.ref t) >>= _) _ _ s
  refine wpAny_bind (tupleItemsOf_ ht (wpAny_bind (wpAny_typeOf ty ?_)))
  rw [if_pos (by decide)]
  refine wpAny_bind (applied_back hs ps ?_)
  have no : ¬ ((((xs.toArray.size : Nat) : Int) - 1 == 0 && (-1 : Int) == 1 && xs.toArray.size == xs.toArray.size) = true) := by
    rw [show ((-1 : Int) == 1) = false by decide, Bool.and_false, Bool.false_and]
    exact Bool.false_ne_true
  show wpAny _ _ (if (((xs.toArray.size : Nat) : Int) - 1 == 0 && (-1 : Int) == 1 && xs.toArray.size == xs.toArray.size) = true then _ else _) _ _ s
  rw [if_neg no, pick_back]
  first
    | exact wpAny_bind (m := Builtin.Tuple.tupleExact _) (wpAny_newObj_type (wpAny_pure ⟨_, rfl, wpAny_pure h⟩) fits)
    | exact wpAny_bind (m := Builtin.Tuple.tupleExact _) (wpAny_newObj_type (wpAny_bind (wpAny_pure (wpAny_pure ⟨_, rfl, wpAny_pure h⟩))) fits)
    | exact wpAny_bind (wpAny_bind (m := Builtin.Tuple.tupleExact _) (wpAny_newObj_type (wpAny_pure (wpAny_pure ⟨_, rfl, wpAny_pure h⟩)) fits))
    | exact wpAny_bind (wpAny_bind (m := Builtin.Tuple.tupleExact _) (wpAny_newObj_type (wpAny_pure ⟨_, rfl, wpAny_pure h⟩) fits))
end
def tRevT (K : PySem.W.Frag) (te : TE) : TE := fun σ H Q => te σ H fun x H1 => ∃ a xs, x = .ref a ∧ SqT K H1 a xs ∧ ∀ p, H1 p = none → Q (.ref p) (upd H1 p (.tup xs.reverse))
theorem pe_revT {X : Cx} {e : Expr} {te : TE} {k : Nat} {p1 p2 p3 pos : Pos} (he : PE X e te) : PE X (.Subscript e (.Slice none none (some (.UnaryOp .USub (.Constant (.int 1) k p1) p2)) p3) pos) (tRevT X.K te) := by
  constructor
  intro pins s σ H Q I h
  refine Subscript_ (thn (he.run pins s σ H _ I h) ?_)
  rintro v s1 ⟨x, H1, I1, r1, a, xs, rfl, hx, q⟩
  cases r1
  have st : PO X (some (.UnaryOp .USub (.Constant (.int 1) k p1) p2)) (tPart (tUn (rU fun i => .int (-i)) (tC (.int 1)))) := po_some (pe_un un_neg pe_int)
  refine wpAny_Slice (thn (po_none.run pins s1 σ H1 (fun o H2 => o = none ∧ H2 = H1) I1 ⟨rfl, rfl⟩) ?_)
  rintro vl s2 ⟨l, H2, I2, pl, rfl, rfl⟩
  refine thn (po_none.run pins s2 σ H2 (fun o H3 => o = none ∧ H3 = H2) I2 ⟨rfl, rfl⟩) ?_
  rintro vu s3 ⟨u, H3, I3, pu, rfl, rfl⟩
  refine thn (st.run pins s3 σ H3 (fun o H4 => o = some (-1) ∧ H4 = H3) I3 ⟨1, rfl, -1, rfl, rfl, rfl⟩) ?_
  rintro vs s4 ⟨o, H4, I4, ps, rfl, rfl⟩
  have J : Inv X pins σ H4 { s4 with heap := s4.heap.push { cls := .type "slice", data := .fields #[vl, vu, vs] } } := I4.kept (t' := s4.toks) fun b ob g => Heap.get?_push_of_some _ g
  obtain ⟨its, r, ht, hz⟩ := J.tuple hx
  cases pl
  cases pu
  show wpAny (model X.prog X.w) X.A (subscriptTail e (.Slice none none (some (.UnaryOp .USub (.Constant (.int 1) k p1) p2)) p3) (.ref a) (.ref s4.heap.objs.size)) (EP X pins σ Q) X.xe { s4 with heap := s4.heap.push { cls := .type "slice", data := .fields #[.none, .none, vs] } }
  refine tail_any (ops := [.ref a, .ref s4.heap.objs.size]) ht.typeIs PyProof.Rows.slot_tuple_getitem.lookup (tuple_back ht (Heap.IsSliceOf.new _ _ _ vs) ps (by rw [← r.length]; exact hz) ?_) (by with_unfolding_all rfl)
  refine ⟨.ref _, _, J.laid (t' := s4.toks) (o := .tup xs.reverse) (fun b ob g => Heap.get?_push_of_some _ g) (Nat.le_refl _) ⟨by rw [List.length_reverse]; exact hz, _, r.reverse, IsTup.new _ _⟩, rfl, q _ (J.hok.fresh (Nat.le_refl _))⟩
end Fw
set_option maxHeartbeats 4000000
namespace Fw
open PySem PySem.Spec PyProof.Rows L2
theorem iteF' {b : Bool} {A B : Prop} (h : ¬ b = true) (a : B) : if b = true then A else B := by rw [if_neg h]; exact a
theorem sqT_fr {K : PySem.W.Frag} {s A B : Addr} {c : Nat} {H H1 : Hp} (hS : StreamAt H s A B c) (f : Fr s A H H1) {a : Addr} {xs : List V} (h : SqT K H a xs) : SqT K H1 a xs := by
  rcases h with e | e
  · exact .inl (rd_fr hS f e)
  · exact .inr e
section
variable {P : Program} {w : World} {K : PySem.W.Frag} {mg : Str → Option Value} {base : Heap}
/-- the value with one element replaced, removed or doubled; what lay in memory but the stream stays -/
def spAlt (K : PySem.W.Frag) (k : Nat) : Sp := fun vs H Q _ => ∃ (st SA SB : Addr) (c : Nat) (v : V) (d : PyData) (b n : Nat), vs = [.ref st, v] ∧ StreamAt H st SA SB c ∧ c + 4 * (k + 1) < 2 ^ 28 ∧ Dx K [st, SA] H v d ∧ Gd b k n d ∧ n ≤ 10000 ∧
  ∀ H' v' d', StreamAt H' st SA SB (c + 4 * (k + 1)) → Fr st SA H H' → Dx K [st, SA] H' v' d' → Gd (b + 9) (k + 2) (2 * n + 30) d' → Q v' H'
abbrev nAlt : List Str := ["_law_stream_here", "_law_value", "_law_spot", "_law_course", "_law_some", "_law_more"]
theorem scAlt : FnScope nAlt ["_law_stream_here", "_law_value"] (defScope sAlt) := ⟨rfl, rfl, rfl, by decide +kernel, rfl, by decide +kernel, by decide +kernel⟩
abbrev pAlt : List Str := ["_law_stream_here", "_law_value"]
theorem ok_alt0 {f : Addr} {fd : FuncData} {k : Nat} (F : Fun K "_law_altered" "_law_altered" sAlt f fd) (T : Nm mg) (C_law_draw : Cal P w K mg base (k + 2) "_law_draw" ["_law_stream_here", "_law_many"] spDraw) (C_law_random_value : Cal P w K mg base (k + 2) "_law_random_value" ["_law_stream_here"] (spRandX K)) : FnOk P w K mg base CX0 (k + 3) f fd pAlt (spAlt K 0) := by
  refine F.ok scAlt (fun vs H Q E h => ?_) (fun cdv A outer s H vs Q E hr h => ?_)
  · obtain ⟨st, SA, SB, c, v, d, b, n, rfl, _⟩ := h
    rfl
  · obtain ⟨st, SA, SB, c, v, d, b, n, rfl, hS, hc, hd, gd, hn, q⟩ := h
    refine ⟨_, (pss_cons (ps_if (PW.pt (pw_or (pt_not (pt_val (pe_callB (call_isD (av := [st, SA])) (by rfl) T.isinstance (by decide +kernel) (pa_cons (pv 1) (pa_cons (pe_bltn (v := .ty "tuple") (by rfl) T.tuple (by decide +kernel) rfl) pa_nil))))) (pw_or (pt_cmpR (op_eq0 (Nat.lt_of_succ_lt (hu_of hr))) (pv 1) (pe_tup pa_nil) (nomark _)) (pw_or1 (pt_cmpR op_eq (pe_cal C_law_draw hr (by rfl) (pa_cons (pv 0) (pa_cons pe_int pa_nil))) pe_int (nomark _))))))
      (pss_one (ps_ret (pe_cal C_law_random_value hr (by rfl) (pa_cons (pv 0) pa_nil))))
      pss_nil)
      pss_never), ?_⟩
    refine ⟨_, rfl, v, "tuple", d, rfl, by decide, hd, _, rfl, ?_⟩
    refine ite2 (fun z => ?_) (fun z => ?_)
    · refine iteT ⟨_, rfl, st, SA, SB, c, rfl, hS, by omega, fun H1 v1 d1 hS1 fr1 m1 x1 => ?_⟩
      exact q _ _ _ (hS1.mono (by omega)) fr1 x1 ((gd_data m1).up (by omega) (by omega) (by omega))
    · have : isD "tuple" d = true := by cases e : isD "tuple" d with | true => rfl | false => rw [e] at z; exact absurd rfl z
      cases hd with
      | tup _ _ => exact gd.flat.elim
      | _ => exact absurd this (by simp [isD, kindD])
theorem ok_altS {f : Addr} {fd : FuncData} {k : Nat} (F : Fun K "_law_altered" "_law_altered" sAlt f fd) (T : Nm mg) (C_law_draw : Cal P w K mg base (k + 3) "_law_draw" ["_law_stream_here", "_law_many"] spDraw) (C_law_random_value : Cal P w K mg base (k + 3) "_law_random_value" ["_law_stream_here"] (spRandX K)) (C_law_altered : Cal P w K mg base (k + 3) "_law_altered" pAlt (spAlt K k)) : FnOk P w K mg base CX0 (k + 4) f fd pAlt (spAlt K (k + 1)) := by
  refine F.ok scAlt (fun vs H Q E h => ?_) (fun cdv A outer s H vs Q E hr h => ?_)
  · obtain ⟨st, SA, SB, c, v, d, b, n, rfl, _⟩ := h
    rfl
  · obtain ⟨st, SA, SB, c, v, d, b, n, rfl, hS, hc, hd, gd, hn, q⟩ := h
    refine ⟨_, (pss_cons (ps_if (PW.pt (pw_or (pt_not (pt_val (pe_callB (call_isD (av := [st, SA])) (by rfl) T.isinstance (by decide +kernel) (pa_cons (pv 1) (pa_cons (pe_bltn (v := .ty "tuple") (by rfl) T.tuple (by decide +kernel) rfl) pa_nil))))) (pw_or (pt_cmpR (op_eq0 (Nat.lt_of_succ_lt (hu_of hr))) (pv 1) (pe_tup pa_nil) (nomark _)) (pw_or1 (pt_cmpR op_eq (pe_cal C_law_draw hr (by rfl) (pa_cons (pv 0) (pa_cons pe_int pa_nil))) pe_int (nomark _))))))
      (pss_one (ps_ret (pe_cal C_law_random_value hr (by rfl) (pa_cons (pv 0) pa_nil))))
      pss_nil)
      (pss_cons (ps_set (i := 2) scAlt.nd rfl (.inl rfl) (pe_cal C_law_draw hr (by rfl) (pa_cons (pv 0) (pa_cons (pe_callB (call_lenK K rfl) (by rfl) T.len (by decide +kernel) (pa_cons (pv 1) pa_nil)) pa_nil))))
      (pss_cons (ps_set (i := 3) scAlt.nd rfl (.inl rfl) (pe_cal C_law_draw hr (by rfl) (pa_cons (pv 0) (pa_cons pe_int pa_nil))))
      (pss_cons (ps_if (pt_cmpR op_lt (pv 3) pe_int (nomark _))
      (pss_cons (ps_set (i := 4) scAlt.nd rfl (.inl rfl) (pe_lst (pa_cons (pe_op op_catS (pe_slice sl_tupS (pv 1) po_none (po_some (pv 2))) (pe_slice sl_tupS (pv 1) (po_some (pe_op op_add (pv 2) pe_int)) po_none)) (pa_cons (pe_op op_catS (pe_slice sl_tupS (pv 1) po_none (po_some (pe_op op_add (pv 2) pe_int))) (pe_slice sl_tupS (pv 1) (po_some (pv 2)) po_none)) (pa_cons (pe_revT (pv 1)) (pa_cons (pe_callTy call_listN (by rfl) T.list (by decide +kernel) (pa_cons (pv 1) pa_nil)) pa_nil))))))
       (pss_one (ps_ret (pe_ix (ix_listK K rfl) (pv 4) (pv 3) (fun _ _ => rfl)))))
      pss_nil)
      (pss_cons (ps_if (PW.pt (pw_and (pt_cmpR op_eq (pv 3) pe_int (nomark _)) (pw_and1 (pt_val (pe_callB (call_isD (av := [st, SA])) (by rfl) T.isinstance (by decide +kernel) (pa_cons (pe_ix (ix_tupK K rfl) (pv 1) (pv 2) (fun _ _ => rfl)) (pa_cons (pe_bltn (v := .ty "int") (by rfl) T.int (by decide +kernel) rfl) pa_nil)))))))
      (pss_cons (ps_set (i := 5) scAlt.nd rfl (.inl rfl) (pe_op (op_addB (av := [st, SA])) (pe_ix (ix_tupK K rfl) (pv 1) (pv 2) (fun _ _ => rfl)) (pe_ix (ix_listK K rfl) (pe_lst (pa_cons pe_int (pa_cons (pe_un un_neg pe_int) (pa_cons pe_int (pa_cons (pe_un un_neg pe_int) (pa_cons pe_int pa_nil)))))) (pe_cal C_law_draw hr (by rfl) (pa_cons (pv 0) (pa_cons pe_int pa_nil))) (fun _ _ => rfl))))
       (pss_one (ps_ret (pe_op op_catS (pe_op op_catS (pe_slice sl_tupS (pv 1) po_none (po_some (pv 2))) (pe_tup (pa_cons (pv 5) pa_nil))) (pe_slice sl_tupS (pv 1) (po_some (pe_op op_add (pv 2) pe_int)) po_none)))))
      pss_nil)
      (pss_one (ps_ret (pe_op op_catS (pe_op op_catS (pe_slice sl_tupS (pv 1) po_none (po_some (pv 2))) (pe_tup (pa_cons (pe_cal C_law_altered hr (by rfl) (pa_cons (pv 0) (pa_cons (pe_ix (ix_tupK K rfl) (pv 1) (pv 2) (fun _ _ => rfl)) pa_nil))) pa_nil))) (pe_slice sl_tupS (pv 1) (po_some (pe_op op_add (pv 2) pe_int)) po_none))))))))), ?_⟩
    have rnd : ∀ {J : Hp} {c' : Nat}, StreamAt J st SA SB c' → c' ≤ c + 4 → Fr st SA H J → spRandX K [.ref st] J Q E0 := fun {J c'} hSJ hc' fJ =>
      ⟨st, SA, SB, c', rfl, hSJ, by omega, fun H1 v1 d1 hS1 fr1 m1 x1 => q _ _ _ (hS1.mono (by omega)) (fJ.trans fr1) x1 ((gd_data m1).up (by omega) (by omega) (by omega))⟩
    refine ⟨_, rfl, v, "tuple", d, rfl, by decide, hd, _, rfl, ?_⟩
    refine ite2 (fun z => ?_) (fun z => ?_)
    · exact iteT ⟨_, rfl, rnd hS (by omega) Fr.refl⟩
    have it : isD "tuple" d = true := by cases e : isD "tuple" d with | true => rfl | false => rw [e] at z; exact absurd rfl z
    cases hd with
    | @tup a xs ds sq da =>
      clear it z
      have gA := gd.un
      have lx : xs.length = ds.length := da.len
      have ln := gA.len
      refine ⟨_, rfl, Nat.zero_le _, fun e he => ⟨a, e, xs, rfl, rfl, sqT_sm (same_upd he) sq, SqT.of upd_same, _, rfl, ?_⟩⟩
      have s0 := same_upd (o := .tup []) he
      have hS0 := hS.same s0
      have f0 : Fr st SA H (upd H e (.tup [])) := Fr.of s0
      generalize upd H e (.tup []) = H0 at *
      by_cases x0 : xs = []
      · subst x0
        exact iteT (iteT ⟨_, rfl, rnd hS0 (by omega) f0⟩)
      have xe : xs.isEmpty = false := by cases xs with | nil => exact absurd rfl x0 | cons _ _ => rfl
      have lp : 0 < xs.length := List.length_pos_iff.mpr x0
      rw [xe]
      refine iteF ⟨_, rfl, st, SA, SB, c, 6, rfl, hS0, by omega, by decide, by decide, fun H1 r hS1 fr1 r0 r1 => ⟨rfl, _, rfl, ?_⟩⟩
      have f1 := f0.trans fr1
      refine ite2 (fun z => ?_) (fun z => ?_)
      · exact ⟨_, rfl, rnd hS1 (by omega) f1⟩
      clear z r0 r1 r
      have tk : ∀ {J : Hp}, Fr st SA H J → SqT K J a xs ∧ DxAll K [st, SA] J xs ds := fun {J} fJ => by
        refine ⟨?_, dxA_fr hS fJ da⟩
        rcases sq with e | e
        · exact .inl (rd_fr hS fJ e)
        · exact .inr e
      refine ⟨_, rfl, _, rfl, a, xs, rfl, .inr (tk f1).1, st, SA, SB, c + 1, (xs.length : Nat), rfl, hS1, by omega, by omega, by omega, fun H2 i hS2 fr2 i0 i1 => ?_⟩
      have f2 := f1.trans fr2
      refine ⟨_, rfl, st, SA, SB, c + 2, 8, rfl, hS2, by omega, by decide, by decide, fun H3 r hS3 fr3 r0 r1 => ?_⟩
      have f3 := f2.trans fr3
      obtain ⟨sq3, da3⟩ := tk f3
      clear fr1 fr2 fr3 f0 s0 he hS0 hS1 hS2 f1 f2
      have ci := cut_to (xs := xs) i0 (by omega)
      have cj := cut_from (xs := xs) (i := i + 1) (by omega) (by omega)
      have ck := cut_to (xs := xs) (i := i + 1) (by omega) (by omega)
      have cl := cut_from (xs := xs) i0 (by omega)
      have ej : (i + 1).toNat = i.toNat + 1 := by omega
      rw [ej] at cj ck
      have ln' : xs.length ≤ 10000 := by omega
      have big : ∀ {x y : Nat}, x ≤ 10000 → y ≤ 10000 → x + y ≤ sizeLine := fun {x y} h1 h2 => by rw [sizeLine_eq]; omega
      have ltk : ∀ j, (xs.take j).length ≤ 10000 := fun j => by rw [List.length_take]; omega
      have ldr : ∀ j, (xs.drop j).length ≤ 10000 := fun j => by rw [List.length_drop]; omega
      refine ⟨_, rfl, _, _, rfl, rfl, _, rfl, ?_⟩
      refine ite2 (fun z => ?_) (fun z => ?_)
      · have r4 : r < 4 := of_decide_eq_true z
        -- one element less
        refine ⟨_, rfl, _, rfl, _, rfl, a, xs, rfl, sq3, fun J1 p1 s1 e1 => ⟨_, rfl, _, rfl, _, _, rfl, rfl, _, rfl, a, xs, rfl, sqT_sm s1 sq3, fun J2 p2 s2 e2 => ?_⟩⟩
        rw [ci] at e1
        rw [cj] at e2
        refine ⟨p1, p2, _, _, rfl, rfl, sqT_sm s2 e1, e2, big (ltk _) (ldr _), fun J3 p3 s3 e3 => ?_⟩
        have S3 := s1.trans (s2.trans s3)
        clear e1 e2 s1 s2 s3
        -- one element twice
        refine ⟨_, rfl, _, rfl, _, _, rfl, rfl, _, rfl, a, xs, rfl, sqT_sm S3 sq3, fun J4 p4 s4 e4 => ⟨_, rfl, _, rfl, _, rfl, a, xs, rfl, sqT_sm (S3.trans s4) sq3, fun J5 p5 s5 e5 => ?_⟩⟩
        rw [ck] at e4
        rw [cl] at e5
        refine ⟨p4, p5, _, _, rfl, rfl, sqT_sm s5 e4, e5, big (ltk _) (ldr _), fun J6 p6 s6 e6 => ?_⟩
        have S6 := S3.trans (s4.trans (s5.trans s6))
        have e3 := sqT_sm (s4.trans (s5.trans s6)) e3
        clear e4 e5 s4 s5 s6 S3
        -- turned round; as a list
        refine ⟨_, rfl, a, xs, rfl, sqT_sm S6 sq3, fun p7 h7 => ?_⟩
        have s7 := same_upd (o := .tup xs.reverse) h7
        have e7 : (upd J6 p7 (.tup xs.reverse)) p7 = some (.tup xs.reverse) := upd_same
        generalize upd J6 p7 (.tup xs.reverse) = J7 at *
        have S7 := S6.trans s7
        refine ⟨_, rfl, a, xs, rfl, sqT_sm S7 sq3, fun l hl nl => ?_⟩
        have zl := (hS3.same S7).ne hl
        have s8 := same_upd (o := .lst xs) hl
        have e8 : (upd J7 l (.lst xs)) l = some (.lst xs) := upd_same
        generalize upd J7 l (.lst xs) = J8 at *
        have S8 := S7.trans s8
        refine ⟨by show 4 ≤ sizeLine; decide, fun L hL => ?_⟩
        have s9 := same_upd (o := .lst [.ref p3, .ref p6, .ref p7, .ref l]) hL
        have e9 : (upd J8 L (.lst [.ref p3, .ref p6, .ref p7, .ref l])) L = some (.lst [.ref p3, .ref p6, .ref p7, .ref l]) := upd_same
        generalize upd J8 L (.lst [.ref p3, .ref p6, .ref p7, .ref l]) = J9 at *
        have S9 := S8.trans s9
        have da9 := dxA_sm S9 da3
        have hS9 : StreamAt J9 st SA SB (c + 4 * (k + 1 + 1)) := (hS3.same S9).mono (by omega)
        have f9 := f3.trans (Fr.of S9)
        have e3 := sqT_sm (s7.trans (s8.trans s9)) e3
        have e6 := sqT_sm (s7.trans (s8.trans s9)) e6
        have e7 := (s8.trans s9) _ _ e7
        have e8 := s9 _ _ e8
        obtain ⟨m1, l1, g1, gt1, gd1⟩ := gA.at i.toNat
        obtain ⟨m2, l2, g2, gt2, gd2⟩ := gA.at (i.toNat + 1)
        have cases4 : r = 0 ∨ r = 1 ∨ r = 2 ∨ r = 3 := by omega
        have up : ∀ {m : Nat} {x : PyData}, Gd b (k + 1) m x → m ≤ 2 * n + 30 → Gd (b + 9) (k + 1 + 2) (2 * n + 30) x := fun h1 h2 => h1.up (by omega) (by omega) h2
        rcases cases4 with rfl | rfl | rfl | rfl
        · exact ⟨_, rfl, _, rfl, L, _, _, _, rfl, rfl, SqL.of e9, atI0, q _ _ _ hS9 f9 (.tup e3 ((da9.take _).app (da9.drop _))) (up (.tup (GdA.app gd2 gt1)) (by omega))⟩
        · exact ⟨_, rfl, _, rfl, L, _, _, _, rfl, rfl, SqL.of e9, atI1, q _ _ _ hS9 f9 (.tup e6 ((da9.take _).app (da9.drop _))) (up (.tup (GdA.app gd1 gt2)) (by omega))⟩
        · exact ⟨_, rfl, _, rfl, L, _, _, _, rfl, rfl, SqL.of e9, atI2, q _ _ _ hS9 f9 (.tup (SqT.of e7) da9.rev) (up (.tup gA.rev) (by omega))⟩
        · exact ⟨_, rfl, _, rfl, L, _, _, _, rfl, rfl, SqL.of e9, atI_nat (j := 3) rfl, q _ _ _ hS9 f9 (.lst (SqL.of e8) (by simp [nl, zl.1.symm, zl.2.1.symm]) da9) (up (.lst gA) (by omega))⟩
      · have r4 : ¬ r < 4 := fun h => z (decide_eq_true h)
        have hx : ∃ x, xs[i.toNat]? = some x := ⟨xs[i.toNat]'(by omega), List.getElem?_eq_getElem _⟩
        obtain ⟨x, ex⟩ := hx
        obtain ⟨dx, edx, hdx⟩ := da3.at ex
        have ax : atI xs i = some x := by
          have := atI_nat ex
          rwa [Int.toNat_of_nonneg i0] at this
        obtain ⟨m1, l1, g1, gt1, gd1⟩ := gA.at i.toNat
        have ed : ds.drop i.toNat = dx :: ds.drop (i.toNat + 1) := by
          have lt : i.toNat < ds.length := lt_of_get edx
          rw [List.drop_eq_getElem_cons lt]
          congr 1
          rw [List.getElem?_eq_getElem lt] at edx
          exact Option.some.inj edx
        rw [ed] at gd1
        obtain ⟨m2, l2, g2, gx, gd2⟩ := gd1.un
        -- what is put together
        have fin : ∀ {J : Hp} {y : V} {dy : PyData} {m c' : Nat}, StreamAt J st SA SB c' → c' ≤ c + 4 * (k + 1 + 1) → Fr st SA H J → Dx K [st, SA] J y dy → Gd (b + 9) (k + 2) m dy → m ≤ n + 30 + m2 → ∀ {J' : Hp} {p : Addr}, Same J J' → SqT K J' p (xs.take i.toNat ++ [y] ++ xs.drop (i.toNat + 1)) → Q (.ref p) J' := fun {J y dy m c'} hSJ hc' fJ hy gy hm {J' p} sJ ep => by
          have daJ := dxA_sm sJ (tk fJ).2
          refine q _ _ _ ((hSJ.same sJ).mono (by omega)) (fJ.trans (Fr.of sJ)) (.tup ep (((daJ.take _).app (.cons (dx_sm sJ hy) .nil)).app (daJ.drop _))) ?_
          refine (Gd.tup (GdA.app (gd2.up (b := b + 9) (k := k + 2) (n := l2) (by omega) (by omega) (by omega)) (GdA.app (GdA.cons gy (GdA.nil (n := 0))) (gt1.up (b := b + 9) (k := k + 2) (n := m1) (by omega) (by omega) (by omega))))).up (by omega) (by omega) (by omega)
        refine ⟨_, rfl, rfl, _, rfl, ?_⟩
        by_cases r5 : r = 4
        · subst r5
          refine iteT ⟨_, rfl, _, rfl, a, xs, i, x, rfl, rfl, sq3, ax, x, "int", dx, rfl, by decide, hdx, _, rfl, ?_⟩
          refine ite2 (fun z => ?_) (fun z => ?_)
          · -- another number
            refine ⟨_, rfl, _, rfl, a, xs, i, x, rfl, rfl, sq3, ax, 1, rfl, 9, rfl, by show 5 ≤ sizeLine; decide, fun l hl => ?_⟩
            have zl := hS3.ne hl
            have s1 := same_upd (o := .lst [.int 1, .int (-1), .int 2, .int (-9), .int 8]) hl
            have e1 : (upd H3 l (.lst [.int 1, .int (-1), .int 2, .int (-9), .int 8])) l = some (.lst [.int 1, .int (-1), .int 2, .int (-9), .int 8]) := upd_same
            generalize upd H3 l (.lst [.int 1, .int (-1), .int 2, .int (-9), .int 8]) = J1 at *
            refine ⟨_, rfl, st, SA, SB, c + 3, 5, rfl, hS3.same s1, by omega, by decide, by decide, fun J2 t hS2 fr2 t0 t1 => ?_⟩
            have e2 := fr2 _ _ zl.1.symm zl.2.1.symm e1
            have hm : ∃ m : Int, atI [V.int 1, .int (-1), .int 2, .int (-9), .int 8] t = some (.int m) ∧ -9 ≤ m ∧ m ≤ 8 := by
              have : t = 0 ∨ t = 1 ∨ t = 2 ∨ t = 3 ∨ t = 4 := by omega
              rcases this with rfl | rfl | rfl | rfl | rfl
              · exact ⟨1, atI0, by decide, by decide⟩
              · exact ⟨-1, atI1, by decide, by decide⟩
              · exact ⟨2, atI2, by decide, by decide⟩
              · exact ⟨-9, atI_nat (j := 3) rfl, by decide, by decide⟩
              · exact ⟨8, atI_nat (j := 4) rfl, by decide, by decide⟩
            obtain ⟨m, am, m0, m8⟩ := hm
            have f4 := f3.trans ((Fr.of s1).trans fr2)
            have hdx4 := dx_fr (hS3.same s1) fr2 (dx_sm s1 hdx)
            refine ⟨l, _, t, _, rfl, rfl, SqL.of e2, am, dx, m, hdx4, z, rfl, ?_⟩
            refine ⟨_, rfl, _, rfl, _, rfl, a, xs, rfl, (tk f4).1, fun J3 p3 s3 e3 => ⟨_, rfl, by show 1 ≤ sizeLine; decide, fun t2 ht2 => ?_⟩⟩
            rw [ci] at e3
            refine ⟨p3, t2, _, _, rfl, rfl, sqT_sm (same_upd ht2) e3, SqT.of upd_same, big (ltk _) (by show 1 ≤ 10000; decide), fun J4 p4 s4 e4 => ?_⟩
            have S4 := s3.trans ((same_upd (o := .tup [.int (intOf dx + m)]) ht2).trans s4)
            refine ⟨_, rfl, _, rfl, _, _, rfl, rfl, _, rfl, a, xs, rfl, sqT_sm S4 (tk f4).1, fun J5 p5 s5 e5 => ?_⟩
            rw [cj] at e5
            refine ⟨p4, p5, _, _, rfl, rfl, sqT_sm s5 e4, e5, ?_, fun J6 p6 s6 e6 => ?_⟩
            · rw [List.length_append]
              refine big (y := (xs.drop (i.toNat + 1)).length) ?_ (ldr _)
              show (xs.take i.toNat).length + 1 ≤ 10000
              rw [List.length_take]
              omega
            · refine fin (J := J2) (dy := .int (intOf dx + m)) (m := 0) hS2 (by omega) f4 (.int _) ⟨?_, Nat.zero_le _, Nat.zero_le _⟩ (by omega) (S4.trans (s5.trans s6)) e6
              refine decide_eq_true ?_
              have bd : (intOf dx).natAbs ≤ 10 ^ 59 + b := by
                cases dx with
                | int v => exact of_decide_eq_true (show decide (v.natAbs ≤ 10 ^ 59 + b) = true from gx.i)
                | bool v => cases v <;> (show _ ≤ 10 ^ 59 + b; simp [intOf]; try omega)
                | _ => simp [intOf]
              omega
          · -- one element altered
            refine ⟨_, rfl, _, rfl, _, rfl, a, xs, rfl, sq3, fun J1 p1 s1 e1 => ⟨_, rfl, _, rfl, _, rfl, a, xs, i, x, rfl, rfl, sqT_sm s1 sq3, ax, st, SA, SB, c + 3, x, dx, b, m2, rfl, hS3.same s1, by omega, dx_sm s1 hdx, gx, by omega, fun J2 y dy hS2 fr2 hy gy => ⟨by show 1 ≤ sizeLine; decide, fun t ht => ?_⟩⟩⟩
            rw [ci] at e1
            have e2 := sqT_sm (same_upd (o := .tup [y]) ht) (sqT_fr (hS3.same s1) fr2 e1)
            refine ⟨p1, t, _, _, rfl, rfl, e2, SqT.of upd_same, big (ltk _) (by show 1 ≤ 10000; decide), fun J3 p3 s3 e3 => ?_⟩
            have S3 := (same_upd (o := .tup [y]) ht).trans s3
            have f4 := f3.trans ((Fr.of s1).trans fr2)
            refine ⟨_, rfl, _, rfl, _, _, rfl, rfl, _, rfl, a, xs, rfl, sqT_sm S3 (tk f4).1, fun J4 p4 s4 e4 => ?_⟩
            rw [cj] at e4
            refine ⟨p3, p4, _, _, rfl, rfl, sqT_sm s4 e3, e4, ?_, fun J5 p5 s5 e5 => ?_⟩
            · rw [List.length_append]
              refine big (y := (xs.drop (i.toNat + 1)).length) ?_ (ldr _)
              show (xs.take i.toNat).length + 1 ≤ 10000
              rw [List.length_take]
              omega
            · exact fin hS2 (by omega) f4 hy (gy.up (by omega) (by omega) (Nat.le_refl _)) (by omega) (S3.trans (s4.trans s5)) e5
        · refine iteF' (by intro z; exact r5 (V.int.inj (of_decide_eq_true z))) (iteF ?_)
          refine ⟨_, rfl, _, rfl, _, rfl, a, xs, rfl, sq3, fun J1 p1 s1 e1 => ⟨_, rfl, _, rfl, _, rfl, a, xs, i, x, rfl, rfl, sqT_sm s1 sq3, ax, st, SA, SB, c + 3, x, dx, b, m2, rfl, hS3.same s1, by omega, dx_sm s1 hdx, gx, by omega, fun J2 y dy hS2 fr2 hy gy => ⟨by show 1 ≤ sizeLine; decide, fun t ht => ?_⟩⟩⟩
          rw [ci] at e1
          have e2 := sqT_sm (same_upd (o := .tup [y]) ht) (sqT_fr (hS3.same s1) fr2 e1)
          refine ⟨p1, t, _, _, rfl, rfl, e2, SqT.of upd_same, big (ltk _) (by show 1 ≤ 10000; decide), fun J3 p3 s3 e3 => ?_⟩
          have S3 := (same_upd (o := .tup [y]) ht).trans s3
          have f4 := f3.trans ((Fr.of s1).trans fr2)
          refine ⟨_, rfl, _, rfl, _, _, rfl, rfl, _, rfl, a, xs, rfl, sqT_sm S3 (tk f4).1, fun J4 p4 s4 e4 => ?_⟩
          rw [cj] at e4
          refine ⟨p3, p4, _, _, rfl, rfl, sqT_sm s4 e3, e4, ?_, fun J5 p5 s5 e5 => ?_⟩
          · rw [List.length_append]
            refine big (y := (xs.drop (i.toNat + 1)).length) ?_ (ldr _)
            show (xs.take i.toNat).length + 1 ≤ 10000
            rw [List.length_take]
            omega
          · exact fin hS2 (by omega) f4 hy (gy.up (by omega) (by omega) (Nat.le_refl _)) (by omega) (S3.trans (s4.trans s5)) e5
    | _ => exact absurd it (by simp [isD, kindD])
theorem cal_alt (D : DefE K mg "_law_altered" sAlt pAlt) (T : Nm mg) (C_law_draw : Cal P w K mg base 1 "_law_draw" ["_law_stream_here", "_law_many"] spDraw) (C_law_random_value : Cal P w K mg base 2 "_law_random_value" ["_law_stream_here"] (spRandX K)) : ∀ k : Nat, Cal P w K mg base (k + 3) "_law_altered" pAlt (spAlt K k)
  | 0 => D.cal fun _ _ d => ok_alt0 d.F T (C_law_draw.up (by decide)) (C_law_random_value.up (by decide))
  | k + 1 => D.cal fun _ _ d => ok_altS d.F T (C_law_draw.up (by omega)) (C_law_random_value.up (by omega)) (cal_alt D T C_law_draw C_law_random_value k)
end
end Fw
set_option maxHeartbeats 2000000
namespace Fw
open PySem PySem.Spec PyProof.Rows L2
/-! placements of any value -/
open RZ
def letr (z : Str) : Bool := z.cps.toList.all fun c => decide (97 ≤ c ∧ c ≤ 122)
def nmOk (z : Str) : Bool := decide (1 ≤ z.length ∧ z.length ≤ 8) && letr z
def nmD : PyData → Bool
  | .str z => nmOk z
  | _ => false
def isPr : PyData → Bool
  | .tuple ds => decide (ds.length = 2)
  | _ => false
/-- a person in a room -/
def prD (n : Int) : PyData → Bool
  | .tuple [a, b] => nmD a && isRm n b
  | _ => false
theorem prD_no {n : Int} {d : PyData} (h : isPr d = false) : prD n d = false := by
  cases d with
  | tuple ds =>
    match ds with
    | [] => rfl
    | [_] => rfl
    | [_, _] => cases h
    | _ :: _ :: _ :: _ => rfl
  | _ => rfl
theorem prD_pp {n : Int} {d : PyData} (h : prD n d = true) : ∃ x : Str × Int, d = pp x ∧ nmOk x.1 = true ∧ 0 ≤ x.2 ∧ x.2 < n := by
  cases d with
  | tuple ds =>
    match ds, h with
    | [a, b], h =>
      have h : (nmD a && isRm n b) = true := h
      rw [Bool.and_eq_true] at h
      obtain ⟨h1, h2⟩ := h
      cases a <;> first | (cases h1; done) | skip
      cases b <;> first | (cases h2; done) | skip
      rename_i z r
      exact ⟨(z, r), rfl, h1, of_decide_eq_true h2⟩
  | _ => cases h
theorem pp_prD {n : Int} {x : Str × Int} (h : nmOk x.1 = true ∧ 0 ≤ x.2 ∧ x.2 < n) : prD n (pp x) = true := by
  show (nmOk x.1 && decide (0 ≤ x.2 ∧ x.2 < n)) = true
  rw [h.1, decide_eq_true h.2]
  rfl
theorem prD_all {n : Int} : ∀ {ds : List PyData}, ds.all (prD n) = true → ∃ P : List (Str × Int), ds = P.map pp ∧ ∀ x ∈ P, nmOk x.1 = true ∧ 0 ≤ x.2 ∧ x.2 < n
  | [], _ => ⟨[], rfl, fun x hx => by cases hx⟩
  | d :: ds, h => by
    rw [List.all_cons, Bool.and_eq_true] at h
    obtain ⟨x, rfl, hx⟩ := prD_pp h.1
    obtain ⟨P, rfl, hP⟩ := prD_all h.2
    refine ⟨x :: P, rfl, fun y hy => ?_⟩
    rcases List.mem_cons.mp hy with rfl | hy
    · exact hx
    · exact hP y hy
theorem all_prD {n : Int} {P : List (Str × Int)} (h : ∀ x ∈ P, nmOk x.1 = true ∧ 0 ≤ x.2 ∧ x.2 < n) : (P.map pp).all (prD n) = true := by
  rw [List.all_eq_true]
  intro d hd
  obtain ⟨x, hx, rfl⟩ := List.mem_map.mp hd
  exact pp_prD (h x hx)
theorem pp_inj {x y : Str × Int} (h : pp x = pp y) : x = y := by
  obtain ⟨a, b⟩ := x
  obtain ⟨c, d⟩ := y
  have h : PyData.tuple [.str a, .int b] = .tuple [.str c, .int d] := h
  injection h with h
  injection h with h1 h2
  injection h2 with h2 _
  injection h1 with h1
  injection h2 with h2
  rw [h1, h2]
theorem pps_inj : ∀ {P Q : List (Str × Int)}, P.map pp = Q.map pp → P = Q
  | [], [], _ => rfl
  | [], _ :: _, h => by cases h
  | _ :: _, [], h => by cases h
  | x :: P, y :: Q, h => by
    rw [List.map_cons, List.map_cons] at h
    injection h with h1 h2
    rw [pp_inj h1, pps_inj h2]
/-- it is a placement of a house of n rooms -/
def PlP (n : Int) (d : PyData) : Prop := ∃ P : List (Str × Int), d = pld P ∧ P.length ≤ 12 ∧ (∀ x ∈ P, nmOk x.1 = true ∧ 0 ≤ x.2 ∧ x.2 < n) ∧ (P.map (·.1)).Pairwise ltS
open Classical in
noncomputable def plB (n : Int) (d : PyData) : Bool := decide (PlP n d)
theorem plB_yes {n : Int} {d : PyData} (h : PlP n d) : plB n d = true := @decide_eq_true _ (Classical.propDecidable _) h
theorem plB_no {n : Int} {d : PyData} (h : ¬ PlP n d) : plB n d = false := @decide_eq_false _ (Classical.propDecidable _) h
/-- each less than the next -/
def stepB (ns : List Str) (j : Nat) : Bool := decide ((ns.getD j "").cps.toList < (ns.getD (j + 1) "").cps.toList)
theorem up_steps {ns : List Str} : ns.Pairwise ltS ↔ ∀ j, j + 1 < ns.length → stepB ns j = true := by
  constructor
  · intro h j hj
    refine decide_eq_true ?_
    have := (List.pairwise_iff_getElem.mp h) j (j + 1) (by omega) hj (by omega)
    rw [List.getD_eq_getElem?_getD, List.getD_eq_getElem?_getD, List.getElem?_eq_getElem (by omega), List.getElem?_eq_getElem hj]
    exact this
  · intro h
    rw [List.pairwise_iff_getElem]
    intro i j hi hj lt
    obtain ⟨m, rfl⟩ : ∃ m, j = i + 1 + m := ⟨j - (i + 1), by omega⟩
    have one : ∀ a (ha : a + 1 < ns.length), ltS (ns[a]'(by omega)) (ns[a + 1]'ha) := fun a ha => by
      have := of_decide_eq_true (h a ha)
      rw [List.getD_eq_getElem?_getD, List.getD_eq_getElem?_getD, List.getElem?_eq_getElem (by omega), List.getElem?_eq_getElem ha] at this
      exact this
    clear lt
    induction m with
    | zero => exact one i hj
    | succ m ih => exact ltS_trans (ih (by omega) one) (one (i + 1 + m) hj)
open Classical in
noncomputable def ascB (ns : List Str) : Bool := @decide (ns.Pairwise ltS) (Classical.propDecidable _)
theorem ascB_yes {ns : List Str} (h : ns.Pairwise ltS) : ascB ns = true := @decide_eq_true _ (Classical.propDecidable _) h
theorem ascB_no {ns : List Str} (h : ¬ ns.Pairwise ltS) : ascB ns = false := @decide_eq_false _ (Classical.propDecidable _) h
theorem ascB_iff {ns : List Str} : ascB ns = true ↔ ns.Pairwise ltS := by
  constructor
  · intro h
    refine Classical.byContradiction fun n => ?_
    rw [ascB_no n] at h
    cases h
  · exact ascB_yes
theorem plB_iff {n : Int} {d : PyData} : plB n d = true ↔ PlP n d := by
  constructor
  · intro h
    refine Classical.byContradiction fun m => ?_
    rw [plB_no m] at h
    cases h
  · exact plB_yes
theorem up_all (ns : List Str) : ((List.range (ns.length - 1)).map (stepB ns)).all id = ascB ns := by
  rw [Bool.eq_iff_iff, ascB_iff, up_steps, List.all_eq_true]
  constructor
  · intro h j hj
    exact h _ (List.mem_map.mpr ⟨j, List.mem_range.mpr (by omega), rfl⟩)
  · intro h x hx
    obtain ⟨j, hj, rfl⟩ := List.mem_map.mp hx
    exact h j (by have := List.mem_range.mp hj; omega)
theorem range_snocB (f : Nat → Bool) (i : Nat) : ((List.range (i + 1)).map f).map V.bl = ((List.range i).map f).map V.bl ++ [V.bl (f i)] := by
  rw [List.range_succ, List.map_append, List.map_append]
  rfl
theorem a_le (c : Nat) : (!decide ((⟨#[c]⟩ : Str).cps.toList < (Str.ofString "a").cps.toList)) = decide (97 ≤ c) := by
  by_cases h : 97 ≤ c
  · rw [one_le h, decide_eq_true h]; rfl
  · rw [decide_eq_false h, show (Str.ofString "a").cps.toList = [97] by decide +kernel, decide_eq_true]
    · rfl
    · show [c] < [97]
      rw [List.cons_lt_cons_iff]
      exact .inl (by omega)
theorem z_ge (c : Nat) : (!decide ((Str.ofString "z").cps.toList < (⟨#[c]⟩ : Str).cps.toList)) = decide (c ≤ 122) := by
  by_cases h : c ≤ 122
  · rw [one_ge h, decide_eq_true h]; rfl
  · rw [decide_eq_false h, show (Str.ofString "z").cps.toList = [122] by decide +kernel, decide_eq_true]
    · rfl
    · show [122] < [c]
      rw [List.cons_lt_cons_iff]
      exact .inl (by omega)
theorem dxA_pps {K : PySem.W.Frag} {H : Hp} : ∀ {ps : List (Addr × Str × Int)}, (∀ p ∈ ps, H p.1 = some (.tup [.str p.2.1, .int p.2.2])) → DxAll K [] H (ps.map fun p => V.ref p.1) ((ps.map (·.2)).map pp)
  | [], _ => .nil
  | p :: ps, h => .cons (.tup (SqT.of (h p (List.mem_cons_self ..))) (.cons (.str _) (.cons (.int _) .nil))) (dxA_pps fun q hq => h q (List.mem_cons_of_mem _ hq))
theorem PlAt.dx {K : PySem.W.Frag} {H : Hp} {p : Addr} {P : List (Str × Int)} (x : PlAt H p P) : Dx K [] H (.ref p) (pld P) := by
  obtain ⟨ps, h1, h2, h3⟩ := x
  rw [h2]
  exact .tup h1.sq (dxA_pps h3)
theorem gd_str {b k n : Nat} {z : Str} (h : Gd b k n (.str z)) : z.length ≤ n := by
  have := h.w
  simp only [PyData.bulk] at this
  exact this
theorem letr_all (z : Str) : ((List.range z.cps.size).map fun i => decide (97 ≤ z.cps.toList.getD i 0 ∧ z.cps.toList.getD i 0 ≤ 122)).all id = letr z := by
  unfold letr
  rw [Bool.eq_iff_iff, List.all_eq_true, List.all_eq_true]
  have lz : z.cps.toList.length = z.cps.size := Array.length_toList
  constructor
  · intro h c hc
    obtain ⟨i, hi, rfl⟩ := List.getElem_of_mem hc
    have := h _ (List.mem_map.mpr ⟨i, List.mem_range.mpr (by omega), rfl⟩)
    rw [List.getD_eq_getElem?_getD, List.getElem?_eq_getElem hi] at this
    exact this
  · intro h x hx
    obtain ⟨i, hi, rfl⟩ := List.mem_map.mp hx
    have hi := List.mem_range.mp hi
    have hi' : i < z.cps.toList.length := by omega
    rw [List.getD_eq_getElem?_getD, List.getElem?_eq_getElem hi']
    exact h _ (List.getElem_mem hi')
section
variable {P : Program} {w : World} {K : PySem.W.Frag} {mg : Str → Option Value} {base : Heap}
def spIsPairA (K : PySem.W.Frag) : Sp := fun vs H Q _ => ∃ (v : V) (d : PyData), vs = [v] ∧ Dx K [] H v d ∧ Q (.bl (isPr d)) H
theorem ok_ispaira {f : Addr} {fd : FuncData} {k : Nat} (F : Fun K "is_pair" "is_pair" sIsPair f fd) (T : Nm mg) : FnOk P w K mg base CX0 (k + 1) f fd pIsInt (spIsPairA K) := by
  refine F.ok scIsPair (fun vs H Q E h => ?_) (fun cdv A outer s H vs Q E hr h => ?_)
  · obtain ⟨v, d, rfl, _⟩ := h
    rfl
  · obtain ⟨v, d, rfl, hd, q⟩ := h
    refine ⟨_, (pss_one (ps_ret (pe_and (pe_callB (call_isD (av := [])) (by rfl) T.isinstance (by decide +kernel) (pa_cons (pv 0) (pa_cons (pe_bltn (v := .ty "tuple") (by rfl) T.tuple (by decide +kernel) rfl) pa_nil))) (pe_one (pe_cmpR op_eq (pe_callB (call_lenK K rfl) (by rfl) T.len (by decide +kernel) (pa_cons (pv 0) pa_nil)) pe_int (nomark _)))))), ?_⟩
    refine ⟨_, rfl, v, "tuple", d, rfl, by decide, hd, _, rfl, ?_⟩
    cases e : isD "tuple" d with
    | false =>
      have : isPr d = false := by cases d <;> first | rfl | (cases e; done)
      rw [this] at q
      exact iteF q
    | true =>
      cases hd with
      | @tup a xs ds sq da =>
        refine iteT ⟨_, rfl, a, xs, rfl, .inr sq, rfl, ?_⟩
        have : decide (V.int ((xs.length : Nat) : Int) = V.int 2) = isPr (.tuple ds) := by
          rw [da.len]
          show _ = decide (ds.length = 2)
          rw [decide_eq_decide]
          constructor
          · intro h
            have := V.int.inj h
            omega
          · intro h
            rw [h]
            rfl
        rw [this]
        exact q
      | _ => exact absurd e (by simp [isD, kindD])
end
end Fw
set_option maxHeartbeats 4000000
namespace Fw
open PySem PySem.Spec PyProof.Rows L2
/-! sequences of moves of any value -/
/-- can the person be moved there -/
def canD (n : Int) (D : List (Int × Int)) (P : List (Str × Int)) (nm : Str) (r : Int) : Bool := (P.any fun x => decide (x.1 = nm ∧ r ∈ nb n D x.2)) && decide (r ∈ P.map (·.2))
/-- the placement behind one move, if it can be made -/
def stepD (n : Int) (D : List (Int × Int)) (P : List (Str × Int)) : PyData → Option (List (Str × Int))
  | .tuple [.str nm, .int r] => if canD n D P nm r = true then some (mvd P nm r) else none
  | _ => none
/-- the placement behind the moves, or the place of the first that can't be made -/
def seqD (n : Int) (D : List (Int × Int)) : List (Str × Int) → Nat → List PyData → Nat ⊕ List (Str × Int)
  | P, _, [] => .inr P
  | P, i, d :: ds => match stepD n D P d with
    | none => .inl i
    | some R => seqD n D R (i + 1) ds
theorem canD_of {n : Int} {D : List (Int × Int)} {P : List (Str × Int)} {nm : Str} {c r : Int} (h1 : (nm, c) ∈ P) (h2 : r ∈ nb n D c) (h3 : r ∈ P.map (·.2)) : canD n D P nm r = true := by
  unfold canD
  rw [decide_eq_true h3, Bool.and_true, List.any_eq_true]
  exact ⟨_, h1, decide_eq_true ⟨rfl, h2⟩⟩
theorem can_un {n : Int} {D : List (Int × Int)} {P : List (Str × Int)} {nm : Str} {r : Int} (h : canD n D P nm r = true) : ∃ c, (nm, c) ∈ P ∧ r ∈ nb n D c ∧ r ∈ P.map (·.2) := by
  unfold canD at h
  rw [Bool.and_eq_true, List.any_eq_true] at h
  obtain ⟨⟨x, hx, e⟩, h3⟩ := h
  obtain ⟨rfl, h2⟩ := of_decide_eq_true e
  exact ⟨x.2, hx, h2, of_decide_eq_true h3⟩
theorem step_some {n : Int} {D : List (Int × Int)} {P R : List (Str × Int)} {d : PyData} (h : stepD n D P d = some R) : ∃ nm c r, d = .tuple [.str nm, .int r] ∧ (nm, c) ∈ P ∧ r ∈ nb n D c ∧ r ∈ P.map (·.2) ∧ R = mvd P nm r := by
  unfold stepD at h
  split at h
  · split at h
    · rename_i z
      obtain ⟨c, h1, h2, h3⟩ := can_un z
      cases h
      exact ⟨_, c, _, rfl, h1, h2, h3, rfl⟩
    · cases h
  · cases h
theorem step_yes {n : Int} {D : List (Int × Int)} {P : List (Str × Int)} {nm : Str} {c r : Int} (h1 : (nm, c) ∈ P) (h2 : r ∈ nb n D c) (h3 : r ∈ P.map (·.2)) : stepD n D P (.tuple [.str nm, .int r]) = some (mvd P nm r) := by
  show (if canD n D P nm r = true then some (mvd P nm r) else none) = _
  rw [if_pos (canD_of h1 h2 h3)]
theorem step_pair {n : Int} {D : List (Int × Int)} {P : List (Str × Int)} {d : PyData} (h : isPr d = false) : stepD n D P d = none := by
  cases e : stepD n D P d with
  | none => rfl
  | some R =>
    obtain ⟨_, _, _, rfl, _⟩ := step_some e
    cases h
/-- what MRes says, by steps -/
theorem mres_step {n : Int} {D : List (Int × Int)} {P : List (Str × Int)} {K : PySem.W.Frag} {H : Hp} {v w : V} {d e : PyData} (pl : (P.map (·.1)).Nodup) (hv : Dx K [] H v d) (hw : Dx K [] H w e) : ∀ {i : Nat}, MRes n D P v d w e i → (i = 0 → ∃ nm c r, v = .str nm ∧ w = .int r ∧ (nm, c) ∈ P ∧ r ∈ nb n D c ∧ r ∈ P.map (·.2) ∧ stepD n D P (.tuple [d, e]) = some (mvd P nm r)) ∧ (i ≠ 0 → stepD n D P (.tuple [d, e]) = none) := by
  have back : ∀ {R}, stepD n D P (.tuple [d, e]) = some R → ∃ nm c r, d = .str nm ∧ v = .str nm ∧ e = .int r ∧ w = .int r ∧ (nm, c) ∈ P ∧ r ∈ nb n D c ∧ r ∈ P.map (·.2) := fun {R} h => by
    obtain ⟨nm, c, r, ed, h1, h2, h3, _⟩ := step_some h
    injection ed with ed
    injection ed with e1 e2
    injection e2 with e2 _
    subst e1 e2
    refine ⟨nm, c, r, rfl, dx_str hv, rfl, ?_, h1, h2, h3⟩
    cases hw
    rfl
  have one : ∀ {nm nm' : Str} {c c' : Int}, (nm, c) ∈ P → (nm', c') ∈ P → v = .str nm → v = .str nm' → c = c' := fun {nm nm' c c'} m1 m2 e1 e2 => by
    have : nm' = nm := V.str.inj (e2.symm.trans e1)
    subst this
    have := key_uniq pl m1 m2 rfl
    cases this
    rfl
  intro i
  match i with
  | 0 =>
    rintro ⟨nm, c, r, rfl, hm, rfl, rr, h2, h3⟩
    refine ⟨fun _ => ⟨nm, c, r, rfl, rfl, hm, h2, h3, ?_⟩, fun z => absurd rfl z⟩
    cases hv
    cases hw
    exact step_yes hm h2 h3
  | 1 =>
    intro no
    refine ⟨fun z => (nomatch z), fun _ => ?_⟩
    cases s : stepD n D P (.tuple [d, e]) with
    | none => rfl
    | some R =>
      obtain ⟨nm, c, r, rfl, _, _, _, hm, _⟩ := back s
      have := no _ hm
      rw [show strIs nm (.str nm) = true from BEq.rfl] at this
      cases this
  | 2 =>
    rintro ⟨nm', c', e1, _, no⟩
    refine ⟨fun z => (nomatch z), fun _ => ?_⟩
    cases s : stepD n D P (.tuple [d, e]) with
    | none => rfl
    | some R =>
      obtain ⟨nm, c, r, _, _, rfl, _, hm, h2, _⟩ := back s
      have : decide (0 ≤ r ∧ r < n) = false := no
      exact absurd (mem_nb.mp h2).1 (of_decide_eq_false this)
  | 3 =>
    rintro ⟨nm', c', r', e1, hm', e2, _, no⟩
    refine ⟨fun z => (nomatch z), fun _ => ?_⟩
    cases s : stepD n D P (.tuple [d, e]) with
    | none => rfl
    | some R =>
      obtain ⟨nm, c, r, _, e3, _, e4, hm, h2, _⟩ := back s
      rw [one hm' hm e1 e3, show r' = r from V.int.inj (e2.symm.trans e4)] at no
      exact absurd h2 no
  | 4 =>
    rintro ⟨nm', c', r', e1, hm', e2, _, _, no⟩
    refine ⟨fun z => (nomatch z), fun _ => ?_⟩
    cases s : stepD n D P (.tuple [d, e]) with
    | none => rfl
    | some R =>
      obtain ⟨nm, c, r, _, e3, _, e4, hm, _, h3⟩ := back s
      rw [show r' = r from V.int.inj (e2.symm.trans e4)] at no
      exact absurd h3 no
  | _ + 5 => exact fun z => z.elim
section
variable {P : Program} {w : World} {K : PySem.W.Frag} {mg : Str → Option Value} {base : Heap}
theorem ok_roomN {f : Addr} {fd : FuncData} {k : Nat} {E0 C : Addr} (F : Fun K "room_of" "room_of" sRoomOf f fd) (RE : ErR P w K mg base "UnknownPerson" "name" E0 C) : FnOk P w K mg base (L2N.CX P w) (k + 3) f fd pRoomOf (spRoomAny K C) := by
  refine Fun.okN F scRoomOf (fun vs H Q E h => ?_) (fun cdv A outer s H vs Q E hr h => ?_)
  · obtain ⟨p, P, v, d, rfl, _⟩ := h
    rfl
  · obtain ⟨p, P, v, d, rfl, hP, hd, q, qE⟩ := h
    refine ⟨_, (pss_cons (ps_calm (ps_for PassesOwn.never rfl (pi_tup (pv 0)) (pg_tup (by rfl) (pgs_cons (pg_name (i := 2) scRoomOf.nd rfl (.inl rfl)) (pgs_cons (pg_name (i := 3) scRoomOf.nd rfl (.inl rfl)) pgs_nil)))
      (pss_one (ps_if (pt_cmpR (op_eqA (av := []) (Nat.lt_of_succ_lt (hu_of hr))) (pv 2) (pv 1) (nomark _))
       (pss_one (ps_ret (pv 3)))
       pss_nil))))
      (pss_one (L2N.ps_raise rfl (L2N.takes_of rfl rfl rfl rfl) (pmk_erN RE hr (by rfl) (pv 1))))), ?_⟩
    refine ⟨_, rfl, p, rfl, hP.sq, for_pl hP (fun i σ' H' => ∃ y2 y3, σ' = [some (.ref p), some v, y2, y3] ∧ H' = H ∧ ∀ x ∈ P.take i, strIs x.1 d = false) ⟨_, _, rfl, rfl, fun x hx => by cases hx⟩ ?_ ?_ ?_⟩
    · rintro k σ' H' ⟨_, _, _, rfl, _⟩
      exact Tk.refl
    · rintro k n' r' σ' H' hk ⟨y2, y3, rfl, rfl, hn⟩
      refine ⟨_, rfl, _, rfl, n', d, rfl, hd, _, rfl, ?_⟩
      refine ite2 (fun c => ?_) (fun c => ?_)
      · have e := strIs_eq c
        subst e
        exact ⟨_, rfl, q n' r' (dx_str hd) (List.mem_of_getElem? hk)⟩
      · refine ⟨_, _, rfl, rfl, fun x hx => ?_⟩
        rw [take_snoc hk, List.mem_append] at hx
        rcases hx with hx | hx
        · exact hn x hx
        · rw [List.mem_singleton.mp hx]
          exact Bool.eq_false_iff.mpr c
    · rintro σ' H' ⟨y2, y3, rfl, rfl, hn⟩
      rw [List.take_length] at hn
      exact ⟨_, rfl, _, rfl, fun d H2 s2 e2 => qE hn d H2 s2 e2⟩
/-- move_person of any value into any value: the placement behind it, or one of four errors -/
def spMoveN (K : PySem.W.Frag) (Cs : List Addr) : Sp := fun vs H Q E => ∃ (h p : Addr) (n : Int) (D : List (Int × Int)) (P : List (Str × Int)) (v : V) (d : PyData) (w : V) (e : PyData), vs = [.ref h, .ref p, v, w] ∧ HouseAt H h n D ∧ Forest n D ∧ 0 ≤ n ∧ n ≤ 8 ∧ PlAt H p P ∧ Pl n P ∧ P.length ≤ 100 ∧ Dx K [] H v d ∧ Dx K [] H w e ∧
  (∀ R, stepD n D P (.tuple [d, e]) = some R → ∀ H' u, Same H H' → PlD H' u R → Pl n R → R.length = P.length → Q (.ref u) H') ∧
  (stepD n D P (.tuple [d, e]) = none → ∀ C ∈ Cs, ∀ x H', Same H H' → E (.ref C) (some x) H')
theorem ok_moveN {f : Addr} {fd : FuncData} {k : Nat} {E0 E1 E2 E3 CU CI CN CE : Addr} (F : Fun K "move_person" "move_person" sMove f fd) (T : Nm mg) (Croom_of : CalN P w K mg base (k + 3) "room_of" pRoomOf (spRoomAny K CU)) (Cis_room : Cal P w K mg base (k + 3) "is_room" pIsRoom (spIsRoomA K))
    (Cneighbors : Cal P w K mg base (k + 3) "neighbors" ["house", "room"] spNb) (Cpeople_in : Cal P w K mg base (k + 3) "people_in" pPIn spPIn) (Cwith : Cal P w K mg base (k + 3) "with_person_in" pWith spWith) (RI : ErR P w K mg base "InvalidRoom" "room" E1 CI) (RN : ErR P w K mg base "NotAdjacent" "room" E2 CN) (RE : ErR P w K mg base "EmptyRoom" "room" E3 CE) : FnOk P w K mg base (L2N.CX P w) (k + 4) f fd pMove (spMoveN K [CU, CI, CN, CE]) := by
  refine Fun.okN F scMove (fun vs H Q E h => ?_) (fun cdv A outer s H vs Q E hr h => ?_)
  · obtain ⟨h, p, n, D, P, v, d, w, e, rfl, _⟩ := h
    rfl
  · obtain ⟨h, p, n, D, P, v, d, w, e, rfl, hH, hF, n0, n1, hP, pl, lP, hv, hw, q, qE⟩ := h
    refine ⟨_, (pss_cons (ps_set (i := 4) scMove.nd rfl (.inl rfl) (pe_calN Croom_of (L2N.takes_of rfl rfl rfl rfl) hr (by rfl) (pa_cons (pv 1) (pa_cons (pv 2) pa_nil))))
      (pss_cons (ps_if (pt_not (pt_val (pe_cal Cis_room hr (by rfl) (pa_cons (pv 0) (pa_cons (pv 3) pa_nil)))))
      (pss_one (L2N.ps_raise rfl (L2N.takes_of rfl rfl rfl rfl) (pmk_erN RI hr (by rfl) (pv 3))))
      pss_nil)
      (pss_cons (ps_if (pt_cmpR (op_notInK K rfl) (pv 3) (pe_cal Cneighbors hr (by rfl) (pa_cons (pv 0) (pa_cons (pv 4) pa_nil))) (by rfl))
      (pss_one (L2N.ps_raise rfl (L2N.takes_of rfl rfl rfl rfl) (pmk_erN RN hr (by rfl) (pv 3))))
      pss_nil)
      (pss_cons (ps_if (pt_not (pt_truthK K rfl (pe_cal Cpeople_in hr (by rfl) (pa_cons (pv 1) (pa_cons (pv 3) pa_nil))) (by intro _; rfl)))
      (pss_one (L2N.ps_raise rfl (L2N.takes_of rfl rfl rfl rfl) (pmk_erN RE hr (by rfl) (pv 3))))
      pss_nil)
      (pss_one (ps_ret (pe_cal Cwith hr (by rfl) (pa_cons (pv 1) (pa_cons (pv 2) (pa_cons (pv 3) pa_nil)))))))))), ?_⟩
    have out : ∀ {i : Nat}, MRes n D P v d w e i → i ≠ 0 → ∀ C ∈ [CU, CI, CN, CE], ∀ x H', Same H H' → E (.ref C) (some x) H' := fun m z => qE ((mres_step pl.nodup hv hw m).2 z)
    refine ⟨_, rfl, _, rfl, p, P, v, d, rfl, hP, hv, fun nm c ev hm => ?_, fun no dx H' s' _ => out (i := 1) no (by decide) CU (by simp) dx H' s'⟩
    refine ⟨_, rfl, _, rfl, h, n, D, w, e, rfl, hH, hw, _, rfl, ?_⟩
    cases er : isRm n e with
    | false => exact iteT ⟨_, rfl, _, rfl, fun x H' s' e' => out (i := 2) ⟨nm, c, ev, hm, er⟩ (by decide) CI (by simp) x H' s'⟩
    | true =>
      have ir : ∃ r : Int, w = .int r ∧ 0 ≤ r ∧ r < n := by
        cases hw <;> first | (cases er; done) | exact ⟨_, rfl, of_decide_eq_true er⟩
      obtain ⟨r, rfl, r0, r1⟩ := ir
      refine iteF ⟨_, rfl, _, rfl, _, rfl, h, n, D, c, rfl, hH, hF, fun H1 t s1 e1 => ⟨t, _, rfl, .inr (SqT.of e1), rfl, flat_vi _, _, rfl, ?_⟩⟩
      rw [if_pos rfl, inV_vi]
      by_cases hr1 : ¬ r ∈ nb n D c
      · rw [decide_eq_false hr1]
        exact iteT ⟨_, rfl, _, rfl, fun x H' s' e' => out (i := 3) ⟨nm, c, r, ev, hm, rfl, ⟨r0, r1⟩, hr1⟩ (by decide) CN (by simp) x H' (s1.trans s')⟩
      have hr1 := Decidable.not_not.mp hr1
      rw [decide_eq_true hr1]
      refine iteF ⟨_, rfl, _, rfl, p, P, r, rfl, hP.same s1, lP, fun H2 u s2 e2 => ⟨_, .inr (.inl ⟨_, SqT.of e2, rfl⟩), ?_⟩⟩
      have em : ((inside P [r]).map V.str).isEmpty = !decide (r ∈ P.map (·.2)) := by
        rw [Bool.eq_iff_iff, List.isEmpty_iff, List.map_eq_nil_iff, inside_nil, Bool.not_eq_true', decide_eq_false_iff_not]
        constructor
        · intro z m
          obtain ⟨y, hy, ey⟩ := List.mem_map.mp m
          exact z y hy (List.mem_singleton.mpr ey)
        · intro z x hx m
          exact z (List.mem_map.mpr ⟨x, hx, List.mem_singleton.mp m⟩)
      rw [em]
      by_cases hr2 : ¬ r ∈ P.map (·.2)
      · rw [decide_eq_false hr2]
        exact iteT ⟨_, rfl, _, rfl, fun x H' s' e' => out (i := 4) ⟨nm, c, r, ev, hm, rfl, ⟨r0, r1⟩, hr1, hr2⟩ (by decide) CE (by simp) x H' ((s1.trans s2).trans s')⟩
      have hr2 := Decidable.not_not.mp hr2
      rw [decide_eq_true hr2]
      subst ev
      have st : stepD n D P (.tuple [d, e]) = some (mvd P nm r) := by
        cases hv
        cases hw
        exact step_yes hm hr1 hr2
      exact iteF ⟨_, rfl, _, rfl, _, rfl, p, P, nm, r, rfl, hP.same (s1.trans s2), lP, fun H3 u s3 e3 => q _ st _ u ((s1.trans s2).trans s3) e3 (pl.mvd r0 r1) (mvd_len _ _ _)⟩
end
end Fw
set_option maxHeartbeats 4000000
namespace Fw
open PySem PySem.Spec PyProof.Rows L2
/-- what comes of moves of any value: the placement, or the error's position -/
def outD (n : Int) (D : List (Int × Int)) (P : List (Str × Int)) : PyData → V ⊕ List (Str × Int)
  | .tuple ds => match seqD n D P 0 ds with
    | .inl i => .inl (.int (i : Nat))
    | .inr R => .inr R
  | _ => .inl .non
theorem outD_not {n : Int} {D : List (Int × Int)} {P : List (Str × Int)} {d : PyData} (h : isD "tuple" d = false) : outD n D P d = .inl .non := by
  cases d <;> first | rfl | (cases h; done)
theorem out_no {n : Int} {D : List (Int × Int)} {P : List (Str × Int)} {ds : List PyData} {i : Nat} (h : seqD n D P 0 ds = .inl i) : outD n D P (.tuple ds) = .inl (.int (i : Nat)) := by
  show (match seqD n D P 0 ds with | .inl i => .inl (.int (i : Nat)) | .inr R => .inr R : V ⊕ List (Str × Int)) = _
  rw [h]
theorem out_yes {n : Int} {D : List (Int × Int)} {P R : List (Str × Int)} {ds : List PyData} (h : seqD n D P 0 ds = .inr R) : outD n D P (.tuple ds) = .inr R := by
  show (match seqD n D P 0 ds with | .inl i => .inl (.int (i : Nat)) | .inr R => .inr R : V ⊕ List (Str × Int)) = _
  rw [h]
theorem seq_at {n : Int} {D : List (Int × Int)} {P : List (Str × Int)} {i : Nat} {ds : List PyData} {d : PyData} (h : ds[i]? = some d) : seqD n D P i (ds.drop i) = match stepD n D P d with
    | none => .inl i
    | some R => seqD n D R (i + 1) (ds.drop (i + 1)) := by
  have lt : i < ds.length := lt_of_get h
  have e : ds.drop i = d :: ds.drop (i + 1) := by
    rw [List.drop_eq_getElem_cons lt]
    congr 1
    rw [List.getElem?_eq_getElem lt] at h
    exact Option.some.inj h
  rw [e]
  rfl
theorem seq_none {n : Int} {D : List (Int × Int)} {P : List (Str × Int)} {i : Nat} {d : PyData} {ds : List PyData} (e : stepD n D P d = none) : seqD n D P i (d :: ds) = .inl i := by
  rw [seqD, e]
theorem seq_some {n : Int} {D : List (Int × Int)} {P R : List (Str × Int)} {i : Nat} {d : PyData} {ds : List PyData} (e : stepD n D P d = some R) : seqD n D P i (d :: ds) = seqD n D R (i + 1) ds := by
  rw [seqD, e]
theorem seq_app {n : Int} {D : List (Int × Int)} {ys : List PyData} : ∀ {xs : List PyData} {P : List (Str × Int)} {i : Nat}, seqD n D P i (xs ++ ys) = match seqD n D P i xs with
    | .inl j => .inl j
    | .inr R => seqD n D R (i + xs.length) ys
  | [], P, i => rfl
  | x :: xs, P, i => by
    rw [List.cons_append]
    cases e : stepD n D P x with
    | none => rw [seq_none e, seq_none e]
    | some R => rw [seq_some e, seq_some e, seq_app (xs := xs), List.length_cons, show i + 1 + xs.length = i + (xs.length + 1) by omega]
theorem seq_shift {n : Int} {D : List (Int × Int)} {R : List (Str × Int)} : ∀ {xs : List PyData} {P : List (Str × Int)} {i : Nat} (j : Nat), seqD n D P i xs = .inr R → seqD n D P j xs = .inr R
  | [], P, i, j, h => h
  | x :: xs, P, i, j, h => by
    cases e : stepD n D P x with
    | none => rw [seq_none e] at h; cases h
    | some Q =>
      rw [seq_some e] at h ⊢
      exact seq_shift (j + 1) h
theorem seq_split {n : Int} {D : List (Int × Int)} {P R : List (Str × Int)} {xs ys : List PyData} (h : seqD n D P 0 (xs ++ ys) = .inr R) : ∃ M, seqD n D P 0 xs = .inr M ∧ seqD n D M 0 ys = .inr R := by
  rw [seq_app] at h
  cases e : seqD n D P 0 xs with
  | inl j => rw [e] at h; cases h
  | inr M =>
    rw [e] at h
    exact ⟨M, rfl, seq_shift 0 h⟩
theorem Wlk.seq {n : Int} {D : List (Int × Int)} {P ms P' : List (Str × Int)} (w : Wlk n D P ms P') : ∀ i, seqD n D P i (ms.map pp) = .inr P' := by
  induction w with
  | nil => exact fun i => rfl
  | @snoc ms P1 nm t w hm ih =>
    intro i
    obtain ⟨c, hc, hr1, hr2⟩ := mvs_mem hm
    rw [List.map_append, seq_app, ih i]
    exact (seq_some (step_yes hc hr1 hr2)).trans rfl
theorem get_two {ds : List PyData} (h : ds.length = 2) : ∃ a b, ds = [a, b] := by
  match ds, h with
  | [a, b], _ => exact ⟨a, b, rfl⟩
theorem dx_two {K : PySem.W.Frag} {av : List Addr} {H : Hp} {v : V} {d : PyData} (h : Dx K av H v d) (e : isPr d = true) : ∃ a x y p q, v = .ref a ∧ SqT K H a [x, y] ∧ d = .tuple [p, q] ∧ Dx K av H x p ∧ Dx K av H y q := by
  cases h with
  | @tup a xs ds sq da =>
    obtain ⟨p, q, rfl⟩ := get_two (of_decide_eq_true e)
    cases da with
    | @cons x _ _ _ hx da =>
    cases da with
    | @cons y _ _ _ hy da =>
    cases da
    exact ⟨a, x, y, p, q, rfl, sq, rfl, hx, hy⟩
  | _ => cases e
/-- l != [], whatever lies in l -/
def rNeL0 (K : PySem.W.Frag) : R2 := fun x y H Q => ∃ (a b : Addr) (xs : List V), x = .ref a ∧ y = .ref b ∧ SqL K H a xs ∧ SqL K H b [] ∧ Q (.bl (!xs.isEmpty)) H
theorem op_neL0 {X : Cx} (hu : X.A.units < cLine) : OpR X (compareOp .NotEq) (rNeL0 X.K) := by
  rintro pn z σ H _ _ v u Q J rx ry ⟨a, b, xs, rfl, rfl, ha, hb, q⟩
  cases (show v = Value.ref a from rx)
  cases (show u = Value.ref b from ry)
  obtain ⟨ia, ra, pa, _⟩ := J.list ha
  obtain ⟨_, rb, pb, _⟩ := J.list hb
  cases rb
  match xs, ra with
  | [], .nil => exact SeqAt.RcNeAt.lists (e := fun _ => true) pa.isList pb.isList rfl hu (fun j h1 _ => absurd h1 (by simp)) X.prog X.w _ _ ⟨.bl false, H, J, rfl, q⟩
  | _ :: _, .cons _ _ => exact SeqAt.RcNeAt.lists_lengths pa.isList pb.isList (by simp) hu X.prog X.w _ _ ⟨.bl true, H, J, rfl, q⟩
/-! ### placements compared -/
theorem eqvAll_pp : ∀ (R G : List (Str × Int)), PyData.eqvAll (R.map pp) (G.map pp) = decide (R = G)
  | [], [] => rfl
  | [], _ :: _ => by rw [List.map_nil, List.map_cons, PyData.eqvAll]; rfl
  | _ :: _, [] => by rw [List.map_nil, List.map_cons, PyData.eqvAll]; rfl
  | x :: R, y :: G => by
    rw [List.map_cons, List.map_cons, PyData.eqvAll, eqvAll_pp R G]
    obtain ⟨x1, x2⟩ := x
    obtain ⟨y1, y2⟩ := y
    simp only [pp, PyData.eqv, PyData.eqvAll, Bool.and_true]
    rw [Bool.eq_iff_iff]
    simp
theorem eqv_pld (R G : List (Str × Int)) : PyData.eqv (pld R) (pld G) = decide (R = G) := by
  unfold pld
  rw [PyData.eqv]
  exact eqvAll_pp R G
/-- do the moves lead to G -/
def reachB (n : Int) (D : List (Int × Int)) (P G : List (Str × Int)) (d : PyData) : Bool := match outD n D P d with
  | .inl _ => false
  | .inr R => decide (R = G)
section
variable {P : Program} {w : World} {K : PySem.W.Frag} {mg : Str → Option Value} {base : Heap}
def spApplyA (K : PySem.W.Frag) (C : Addr) : Sp := fun vs H Q E => ∃ (h p : Addr) (n : Int) (D : List (Int × Int)) (P : List (Str × Int)) (v : V) (d : PyData), vs = [.ref h, .ref p, v] ∧ HouseAt H h n D ∧ Forest n D ∧ 0 ≤ n ∧ n ≤ 8 ∧ PlAt H p P ∧ Pl n P ∧ P.length ≤ 100 ∧ Dx K [] H v d ∧
  (∀ R, outD n D P d = .inr R → ∀ H' t, Same H H' → PlAt H' t R → Pl n R → R.length = P.length → Q (.ref t) H') ∧ (∀ x, outD n D P d = .inl x → ∀ dx H', Same H H' → H' dx = some (.xd [("position", x)]) → E (.ref C) (some dx) H')
abbrev nApply : List Str := ["house", "placement", "moves", "reached", "position", "move", "name", "room"]
theorem scApply : FnScope nApply ["house", "placement", "moves"] (defScope sApply) := ⟨rfl, rfl, rfl, by decide +kernel, rfl, by decide +kernel, by decide +kernel⟩
abbrev pApply : List Str := ["house", "placement", "moves"]
theorem ok_applya {f : Addr} {fd : FuncData} {k : Nat} {E0 C : Addr} {Cs : List Addr} (F : Fun K "apply_moves" "apply_moves" sApply f fd) (T : Nm mg) (Tenum : mg "enumerate" = none) (hE : HE K mg E0) (ms : ∀ c ∈ Cs, Mro K E0 c) (ne : Cs ≠ []) (Cis_pair : Cal P w K mg base (k + 4) "is_pair" pIsInt (spIsPairA K)) (Cmove_person : CalN P w K mg base (k + 4) "move_person" pMove (spMoveN K Cs)) (RI : ErR P w K mg base "InvalidMoves" "position" E0 C) (RH : ErH P w K mg base "position" C) : FnOk P w K mg base (L2.CX P w) (k + 5) f fd pApply (spApplyA K C) := by
  refine F.okX scApply (fun vs H Q E h => ?_) (fun cdv A outer s H vs Q E hr h => ?_)
  · obtain ⟨h, p, n, D, P, v, d, rfl, _⟩ := h
    rfl
  · obtain ⟨h, p, n, D, P, v, d, rfl, hH, hF, n0, n1, hP, pl, lP, hd, q, qE⟩ := h
    refine ⟨_, (pss_cons (ps_if (pt_not (pt_val (pe_callB (call_isD (av := [])) (by rfl) T.isinstance (by decide +kernel) (pa_cons (pv 2) (pa_cons (pe_bltn (v := .ty "tuple") (by rfl) T.tuple (by decide +kernel) rfl) pa_nil)))))
      (pss_one (ps_raise rfl (takes_of rfl rfl rfl rfl) (pmk_er RI hr (by rfl) pe_non)))
      pss_nil)
      (pss_cons (ps_set (i := 3) scApply.nd rfl (.inl rfl) (pv 1))
      (pss_cons (ps_for (passes_of rfl) rfl (pi_enumT (by rfl) Tenum (pa_cons (pv 2) pa_nil)) (pg_tup (by rfl) (pgs_cons (pg_name (i := 4) scApply.nd rfl (.inl rfl)) (pgs_cons (pg_name (i := 5) scApply.nd rfl (.inl rfl)) pgs_nil)))
      (pss_cons (ps_if (pt_not (pt_val (pe_cal Cis_pair hr (by rfl) (pa_cons (pv 5) pa_nil))))
       (pss_one (ps_raise rfl (takes_of rfl rfl rfl rfl) (pmk_er RI hr (by rfl) (pv 4))))
       pss_nil)
       (pss_cons (ps_asg (pv 5) (pg_tup (by rfl) (pgs_cons (pg_name (i := 6) scApply.nd rfl (.inl rfl)) (pgs_cons (pg_name (i := 7) scApply.nd rfl (.inl rfl)) pgs_nil))))
       (pss_one (L2H.ps_try_onlyX rfl rfl (hE.names (by rfl)) (L2H.passesAt_of rfl) (takes_of rfl rfl rfl rfl)
         (fun W pn xe tk _ _ => pss_one (ps_set (i := 3) scApply.nd rfl (.inl rfl) (pe_calN Cmove_person tk hr (by rfl) (pa_cons (pv 0) (pa_cons (pv 3) (pa_cons (pv 6) (pa_cons (pv 7) pa_nil)))))))
         (fun a oe cls dd pn hz hf tk hc => pss_one (L2H.ps_raiseHN hc tk (pmk5_er RI RH (L2H.roomH_mark hr _) hc (by rfl) (pv 4)))))))))
      (pss_one (ps_ret (pv 3)))))), ?_⟩
    refine ⟨_, rfl, v, "tuple", d, rfl, by decide, hd, _, rfl, ?_⟩
    refine ite2 (fun z => ?_) (fun z => ?_)
    · have z : isD "tuple" d = false := by cases e : isD "tuple" d with | false => rfl | true => rw [e] at z; exact absurd z (by decide)
      exact raise_end fun x H' s' e' => qE _ (outD_not z) x H' s' e'
    cases hd with
    | @tup m xs ds sq da =>
      have lx := da.len
      refine ⟨_, rfl, _, rfl, m, _, rfl, sq, for_it (walk_enumT (K := K) (a := m) (xs := xs)) (fun i σ' H' => ∃ (y4 y5 y6 y7 : Option V) (t : Addr) (Pi : List (Str × Int)), σ' = [some (.ref h), some (.ref p), some (.ref m), some (.ref t), y4, y5, y6, y7] ∧ Same H H' ∧ PlAt H' t Pi ∧ Pl n Pi ∧ Pi.length = P.length ∧ seqD n D P 0 ds = seqD n D Pi i (ds.drop i))
        ⟨_, _, _, _, p, P, rfl, Same.refl _, hP, pl, rfl, rfl⟩ ?_ ?_ ?_⟩
      · rintro i σ' H' _ ⟨_, _, _, _, _, _, _, s', _⟩
        exact sqT_sm s' sq
      · rintro i _ σ' H' _ lt ⟨y4, y5, y6, y7, t, Pi, rfl, s', hPi, pli, lPi, rn⟩ ⟨T1, x, y, rfl, ht1, rfl, ex, ey⟩
        cases ex
        have ey : xs[i]? = some y := ey
        obtain ⟨d', ed, hy⟩ := da.at ey
        rw [seq_at ed] at rn
        have s1 := s'.trans (same_upd (o := .tup [V.int (i : Nat), y]) ht1)
        have hPi1 := hPi.same (same_upd (o := .tup [V.int (i : Nat), y]) ht1)
        have e1 : (upd H' T1 (.tup [V.int (i : Nat), y])) T1 = some (.tup [V.int (i : Nat), y]) := upd_same
        generalize upd H' T1 (.tup [V.int (i : Nat), y]) = H1 at *
        have hy1 := dx_sm s1 hy
        have bad : ∀ {J : Hp}, Same H1 J → stepD n D Pi d' = none → ∀ dx H'', Same J H'' → H'' dx = some (.xd [("position", .int (i : Nat))]) → E (.ref C) (some dx) H'' := fun {J} sJ no dx H'' s2 e2 => by
          rw [no] at rn
          exact qE (.int (i : Nat)) (out_no rn) dx H'' (s1.trans (sJ.trans s2)) e2
        refine ⟨T1, _, rfl, SqT.of e1, rfl, _, _, rfl, _, _, rfl, rfl, ?_⟩
        refine ⟨_, rfl, y, d', rfl, hy1, _, rfl, ?_⟩
        refine ite2 (fun z => ?_) (fun z => ?_)
        · have z : isPr d' = false := by cases e : isPr d' with | false => rfl | true => rw [e] at z; exact absurd z (by decide)
          exact ⟨_, rfl, raise_end fun dx H'' s2 e2 => bad (Same.refl _) (step_pair z) dx H'' s2 e2⟩
        have z : isPr d' = true := by cases e : isPr d' with | true => rfl | false => rw [e] at z; exact absurd rfl z
        obtain ⟨a2, x1, x2, p1, p2, rfl, sq2, rfl, hx1, hx2⟩ := dx_two hy1 z
        refine ⟨_, rfl, a2, _, rfl, sq2, rfl, _, _, rfl, _, _, rfl, rfl, ?_⟩
        refine ⟨_, rfl, _, rfl, _, rfl, _, rfl, h, t, n, D, Pi, x1, p1, x2, p2, rfl, hH.same s1, hF, n0, n1, hPi1, pli, by omega, hx1, hx2, fun R st H2 u s2 hu plR lR => ?_, fun no c mc dx H2 s2 => ?_⟩
        · rw [st] at rn
          exact ⟨_, _, _, _, u, R, rfl, s1.trans s2, hu.pl, plR, by omega, rn⟩
        · exact ⟨true, exm_he (ms c mc) hE, fun _ a na => ⟨_, rfl, raise_end fun dx2 H3 s3 e3 => bad s2 no dx2 H3 s3 e3⟩, fun z => nomatch z⟩
      · rintro σ' H' ⟨y4, y5, y6, y7, t, Pi, rfl, s', hPi, pli, lPi, rn⟩
        rw [List.drop_of_length_le (by omega)] at rn
        exact ⟨_, rfl, q Pi (out_yes (rn.trans rfl)) H' t s' hPi pli lPi⟩
    | _ => exact absurd (by rfl) z
def spReach (K : PySem.W.Frag) : Sp := fun vs H Q _ => ∃ (h p g : Addr) (n : Int) (D : List (Int × Int)) (P G : List (Str × Int)) (v : V) (d : PyData), vs = [.ref h, .ref p, .ref g, v] ∧ HouseAt H h n D ∧ Forest n D ∧ 0 ≤ n ∧ n ≤ 8 ∧ PlAt H p P ∧ Pl n P ∧ P.length ≤ 100 ∧ PlAt H g G ∧ (∀ x ∈ G, Nam x.1) ∧ Dx K [] H v d ∧
  ∀ H', Same H H' → Q (.bl (reachB n D P G d)) H'
abbrev nReach : List Str := ["house", "placement", "target", "value"]
theorem scReach : FnScope nReach ["house", "placement", "target", "value"] (defScope sReach) := ⟨rfl, rfl, rfl, by decide +kernel, rfl, by decide +kernel, by decide +kernel⟩
abbrev pReach : List Str := ["house", "placement", "target", "value"]
theorem ok_reach {f : Addr} {fd : FuncData} {k : Nat} {E0 C : Addr} (F : Fun K "reaches_target" "reaches_target" sReach f fd) (Capply_moves : CalX P w K mg base (k + 5) "apply_moves" pApply (spApplyA K C)) (RI : ErR P w K mg base "InvalidMoves" "position" E0 C) : FnOk P w K mg base CX0 (k + 6) f fd pReach (spReach K) := by
  refine F.ok scReach (fun vs H Q E h => ?_) (fun cdv A outer s H vs Q E hr h => ?_)
  · obtain ⟨h, p, g, n, D, P, G, v, d, rfl, _⟩ := h
    rfl
  · obtain ⟨h, p, g, n, D, P, G, v, d, rfl, hH, hF, n0, n1, hP, pl, lP, hG, nmG, hd, q⟩ := h
    refine ⟨_, (pss_one (ps_try_only rfl rfl ⟨by rfl, by decide, .inl RI.g⟩ takes0
      (fun W pn xe tk _ => pss_one (ps_ret (pe_cmpR (op_eqDK K rfl hr.units) (pe_calX Capply_moves tk hr (by rfl) (pa_cons (pv 0) (pa_cons (pv 1) (pa_cons (pv 3) pa_nil)))) (pv 2) (nomark _))))
      (fun a oe cls dd pn hz hf => pss_one (ps_ret pe_bl)))), ?_⟩
    refine ⟨_, rfl, _, rfl, _, rfl, h, p, n, D, P, v, d, rfl, hH, hF, n0, n1, hP, pl, lP, hd, fun R eR H1 t s1 hR plR _ => ?_, fun x ex dx H1 s1 e1 => ?_⟩
    · have e : reachB n D P G d = decide (R = G) := by unfold reachB; rw [eR]
      rw [e] at q
      refine ⟨_, rfl, pld R, pld G, hR.dp, (hG.same s1).dp, pld_shaped plR.nams, pld_shaped nmG, ?_⟩
      rw [eqv_pld]
      exact q _ s1
    · have e : reachB n D P G d = false := by unfold reachB; rw [ex]
      rw [e] at q
      refine ⟨true, ?_, fun _ a na => q _ s1, fun z => nomatch z⟩
      exact (exm_ref RI.mro RI.e).trans (by rw [decide_eq_true (.inl rfl)])
abbrev nLReach : List Str := ["_law_house_here", "_law_placement_here", "_law_target_here", "_law_value", "_law_one"]
theorem scLReach : FnScope nLReach ["_law_house_here", "_law_placement_here", "_law_target_here", "_law_value"] (defScope sLReach) := ⟨rfl, rfl, rfl, by decide +kernel, rfl, by decide +kernel, by decide +kernel⟩
def spLReach (K : PySem.W.Frag) : Sp := fun vs H Q _ => ∃ (h p g : Addr) (n : Int) (D : List (Int × Int)) (P G : List (Str × Int)) (v : V) (d : PyData), vs = [.ref h, .ref p, .ref g, v] ∧ HouseAt H h n D ∧ Forest n D ∧ 0 ≤ n ∧ n ≤ 8 ∧ PlD H p P ∧ Pl n P ∧ P.length ≤ 100 ∧ PlAt H g G ∧ (∀ x ∈ G, Nam x.1) ∧ Dx K [] H v d ∧
  ∀ H', Same H H' → Q (.bl (reachB n D P G d)) H'
abbrev pLReach : List Str := ["_law_house_here", "_law_placement_here", "_law_target_here", "_law_value"]
theorem ok_lreach {f : Addr} {fd : FuncData} {k : Nat} (F : Fun K "_law_reaches" "_law_reaches" sLReach f fd) (T : Nm mg) (C_law_move_expected : Cal P w K mg base (k + 2) "_law_move_expected" ["_law_house_here", "_law_placement_here", "_law_name", "_law_room"] (spMAns K)) (C_law_moved : Cal P w K mg base (k + 2) "_law_moved" pLMoved spLMoved) : FnOk P w K mg base CX0 (k + 3) f fd pLReach (spLReach K) := by
  refine F.ok scLReach (fun vs H Q E h => ?_) (fun cdv A outer s H vs Q E hr h => ?_)
  · obtain ⟨h, p, g, n, D, P, G, v, d, rfl, _⟩ := h
    rfl
  · obtain ⟨h, p, g, n, D, P, G, v, d, rfl, hH, hF, n0, n1, hP, pl, lP, hG, nmG, hd, q⟩ := h
    refine ⟨_, (pss_cons (ps_if (pt_not (pt_val (pe_callB (call_isD (av := [])) (by rfl) T.isinstance (by decide +kernel) (pa_cons (pv 3) (pa_cons (pe_bltn (v := .ty "tuple") (by rfl) T.tuple (by decide +kernel) rfl) pa_nil)))))
      (pss_one (ps_ret pe_bl))
      pss_nil)
      (pss_cons (ps_for PassesOwn.never rfl (pi_tup (pv 3)) (pg_name (i := 4) scLReach.nd rfl (.inl rfl))
      (pss_cons (ps_if (PW.pt (pw_or (pt_not (pt_val (pe_callB (call_isD (av := [])) (by rfl) T.isinstance (by decide +kernel) (pa_cons (pv 4) (pa_cons (pe_bltn (v := .ty "tuple") (by rfl) T.tuple (by decide +kernel) rfl) pa_nil))))) (pw_or (pt_cmpR op_ne (pe_callB (call_lenK K rfl) (by rfl) T.len (by decide +kernel) (pa_cons (pv 4) pa_nil)) pe_int (nomark _)) (pw_or1 (pt_cmpR (op_neL0 (Nat.lt_of_succ_lt (hu_of hr))) (pe_cal C_law_move_expected hr (by rfl) (pa_cons (pv 0) (pa_cons (pv 1) (pa_cons (pe_ix (ix_tupK K rfl) (pv 4) pe_int (fun _ _ => rfl)) (pa_cons (pe_ix (ix_tupK K rfl) (pv 4) pe_int (fun _ _ => rfl)) pa_nil))))) (pe_lst pa_nil) (nomark _))))))
       (pss_one (ps_ret pe_bl))
       pss_nil)
       (pss_one (ps_set (i := 1) scLReach.nd rfl (.inl rfl) (pe_cal C_law_moved hr (by rfl) (pa_cons (pv 1) (pa_cons (pe_ix (ix_tupK K rfl) (pv 4) pe_int (fun _ _ => rfl)) (pa_cons (pe_ix (ix_tupK K rfl) (pv 4) pe_int (fun _ _ => rfl)) pa_nil))))))))
      (pss_one (ps_ret (pe_cmpR (op_eqDK K rfl hr.units) (pv 1) (pv 2) (nomark _)))))), ?_⟩
    refine ⟨_, rfl, v, "tuple", d, rfl, by decide, hd, _, rfl, ?_⟩
    refine ite2 (fun z => ?_) (fun z => ?_)
    · have z : isD "tuple" d = false := by cases e : isD "tuple" d with | false => rfl | true => rw [e] at z; exact absurd z (by decide)
      have e : reachB n D P G d = false := by unfold reachB; rw [outD_not z]
      rw [e] at q
      exact q _ (Same.refl _)
    cases hd with
    | @tup m xs ds sq da =>
      have lx := da.len
      refine ⟨_, rfl, m, rfl, ⟨_, sq⟩, for_tup (K := K) (a := m) (xs := xs) (fun i σ' H' => ∃ (y4 : Option V) (t : Addr) (Pi : List (Str × Int)), σ' = [some (.ref h), some (.ref t), some (.ref g), some (.ref m), y4] ∧ Same H H' ∧ PlD H' t Pi ∧ Pl n Pi ∧ Pi.length = P.length ∧ seqD n D P 0 ds = seqD n D Pi i (ds.drop i))
        ⟨_, p, P, rfl, Same.refl _, hP, pl, rfl, rfl⟩ (fun i σ' H' _ hh => ?_) ?_ ?_⟩
      · obtain ⟨_, _, _, _, s', _⟩ := hh
        exact sqT_sm s' sq
      · rintro i x σ' H1 ex ⟨y4, t, Pi, rfl, s1, hPi, pli, lPi, rn⟩
        obtain ⟨d', ed, hy⟩ := da.at ex
        rw [seq_at ed] at rn
        have hy1 := dx_sm s1 hy
        have bad : ∀ {J : Hp}, Same H1 J → stepD n D Pi d' = none → Q (.bl false) J := fun {J} sJ no => by
          rw [no] at rn
          have e : reachB n D P G (.tuple ds) = false := by
            unfold reachB
            rw [out_no rn]
          rw [e] at q
          exact q _ (s1.trans sJ)
        refine ⟨_, rfl, x, "tuple", d', rfl, by decide, hy1, _, rfl, ?_⟩
        refine ite2 (fun z => ?_) (fun z => ?_)
        · have z : isD "tuple" d' = false := by cases e : isD "tuple" d' with | false => rfl | true => rw [e] at z; exact absurd z (by decide)
          exact iteT (bad (Same.refl _) (step_pair (by cases d' <;> first | rfl | (cases z; done))))
        cases hy1 with
        | @tup a2 xs2 ds2 sq2 da2 =>
          refine ⟨_, rfl, a2, xs2, rfl, .inr sq2, rfl, _, rfl, ?_⟩
          refine ite2 (fun z => ?_) (fun z => ?_)
          · refine iteT (bad (Same.refl _) (step_pair (decide_eq_false fun e => ?_)))
            rw [da2.len, e] at z
            exact absurd z (by decide)
          have z2 : ds2.length = 2 := by
            rw [← da2.len]
            by_cases e : xs2.length = 2
            · exact e
            · refine absurd ?_ z
              rw [Bool.not_eq_true', decide_eq_false_iff_not]
              intro e2
              have := V.int.inj e2
              omega
          obtain ⟨a3, x1, x2, p1, p2, ea, sq3, edd, hx1, hx2⟩ := dx_two (Dx.tup (K := K) (av := []) sq2 da2) (decide_eq_true z2)
          cases ea
          cases edd
          refine ⟨_, rfl, _, rfl, _, rfl, a2, _, _, _, rfl, rfl, sq3, atI0, _, rfl, a2, _, _, _, rfl, rfl, sq3, atI1, ?_⟩
          refine ⟨h, t, n, D, Pi, x1, p1, x2, p2, rfl, hH.same s1, hF, n0, n1, hPi, pli, by omega, hx1, hx2, fun H2 l i' s2 _ el mr => ?_⟩
          refine ⟨Nat.zero_le _, fun b hb => ⟨l, b, _, rfl, rfl, SqL.of (same_upd hb _ _ el), SqL.of upd_same, _, rfl, ?_⟩⟩
          have s3 := s2.trans (same_upd (o := .lst []) hb)
          generalize upd H2 b (.lst []) = H3 at *
          obtain ⟨m0, m1⟩ := mres_step pli.nodup hx1 hx2 mr
          by_cases ei : i' = 0
          · obtain ⟨nm, c, r, rfl, rfl, hm, adj1, _, st⟩ := m0 ei
            subst ei
            rw [st] at rn
            have rr := (mem_nb.mp adj1).1
            refine iteF ⟨_, rfl, _, rfl, a2, _, _, _, rfl, rfl, sqT_sm s3 sq3, atI0, _, rfl, a2, _, _, _, rfl, rfl, sqT_sm s3 sq3, atI1, ?_⟩
            refine ⟨t, Pi, nm, r, rfl, hPi.pl.same s3, by omega, fun H4 u s4 hu => ?_⟩
            exact ⟨_, u, _, rfl, s1.trans (s3.trans s4), hu, pli.mvd rr.1 rr.2, by rw [mvd_len]; exact lPi, rn⟩
          · have ne : (mUs x1 x2 i').isEmpty = false := by
              match i' with
              | 0 => exact absurd rfl ei
              | 1 => rfl
              | 2 => rfl
              | 3 => rfl
              | _ + 4 => rfl
            rw [ne]
            exact iteT (bad s3 (m1 ei))
        | _ => exact absurd (by rfl) z
      · rintro σ' H' ⟨y4, t, Pi, rfl, s', hPi, pli, lPi, rn⟩
        rw [List.drop_of_length_le (by omega)] at rn
        have e : reachB n D P G (.tuple ds) = decide (Pi = G) := by
          unfold reachB
          rw [out_yes (rn.trans rfl)]
        rw [e] at q
        refine ⟨_, rfl, _, rfl, pld Pi, pld G, hPi.pl.dp, (hG.same s').dp, pld_shaped pli.nams, pld_shaped nmG, ?_⟩
        rw [eqv_pld]
        exact q _ s'
    | _ => exact absurd (by rfl) z
end
end Fw
set_option maxHeartbeats 2000000
namespace Fw
open PySem PySem.Spec PyProof.Rows L2
open RZ
/-! placements and moves as bounded values (in place of the same names of Pc and L05: never both) -/
theorem dxA_ppsA {K : PySem.W.Frag} {av : List Addr} {H : Hp} : ∀ {ps : List (Addr × Str × Int)}, (∀ p ∈ ps, H p.1 = some (.tup [.str p.2.1, .int p.2.2])) → DxAll K av H (ps.map fun p => V.ref p.1) ((ps.map (·.2)).map pp)
  | [], _ => .nil
  | p :: ps, h => .cons (.tup (SqT.of (h p (List.mem_cons_self ..))) (.cons (.str _) (.cons (.int _) .nil))) (dxA_ppsA fun q hq => h q (List.mem_cons_of_mem _ hq))
theorem PlAt.dxv {K : PySem.W.Frag} {av : List Addr} {H : Hp} {p : Addr} {P : List (Str × Int)} (x : PlAt H p P) : ∃ xs, SqT K H p xs ∧ DxAll K av H xs (P.map pp) ∧ xs.length = P.length := by
  obtain ⟨ps, h1, h2, h3⟩ := x
  rw [h2]
  exact ⟨_, h1.sq, dxA_ppsA h3, by rw [List.length_map, List.length_map]⟩
theorem PlAt.dxa {K : PySem.W.Frag} {av : List Addr} {H : Hp} {p : Addr} {P : List (Str × Int)} (x : PlAt H p P) : Dx K av H (.ref p) (pld P) := by
  obtain ⟨xs, h1, h2, _⟩ := x.dxv (K := K) (av := av)
  exact .tup h1 h2
theorem pp_gd {x : Str × Int} {m : Nat} (h1 : okI 0 (.str x.1) = true) (h2 : x.1.length ≤ m) (h3 : x.2.natAbs ≤ 1000) : Gd 0 1 (m + 2) (pp x) := by
  have a : Gd 0 0 m (.str x.1) := ⟨h1, Nat.zero_le _, h2⟩
  have b : Gd 0 0 0 (.int x.2) := by
    refine ⟨decide_eq_true ?_, Nat.zero_le _, Nat.zero_le _⟩
    have : (1000 : Nat) ≤ 10 ^ 59 := by decide +kernel
    omega
  exact (Gd.tup (GdA.cons a (GdA.cons b (GdA.nil (n := 0))))).up (Nat.le_refl _) (Nat.le_refl _) (by omega)
theorem nam_okI {z : Str} (h : Nam z) : okI 0 (.str z) = true := by
  show (z.cps.toList.all fun c => decide (c < 1114112)) = true
  rw [List.all_eq_true]
  intro c hc
  have := h.2.2 c hc
  exact decide_eq_true (by omega)
theorem pps_gd : ∀ {P : List (Str × Int)}, (∀ x ∈ P, Nam x.1 ∧ 0 ≤ x.2 ∧ x.2 ≤ 100) → GdA 0 1 (11 * P.length) (P.map pp)
  | [], _ => .nil
  | x :: P, h => by
    obtain ⟨h1, h2, h3⟩ := h x List.mem_cons_self
    have l := h1.2.1
    rw [List.map_cons]
    exact (GdA.cons (pp_gd (m := 8) (nam_okI h1) l (by omega)) (pps_gd fun y hy => h y (List.mem_cons_of_mem _ hy))).up (Nat.le_refl _) (Nat.le_refl _) (by rw [List.length_cons]; omega)
mutual
theorem dx_nilA {K : PySem.W.Frag} {av : List Addr} {H : Hp} : ∀ {v : V} {d : PyData}, Dx K av H v d → Dx K [] H v d
  | _, _, .non => .non
  | _, _, .bl b => .bl b
  | _, _, .int i => .int i
  | _, _, .str x => .str x
  | _, _, .lst h n a => .lst h (fun m => n (by rw [List.mem_singleton.mp m]; exact List.mem_cons_self)) (dx_nilAll a)
  | _, _, .tup h a => .tup h (dx_nilAll a)
  | _, _, .dct e => .dct e
theorem dx_nilAll {K : PySem.W.Frag} {av : List Addr} {H : Hp} : ∀ {vs : List V} {ds : List PyData}, DxAll K av H vs ds → DxAll K [] H vs ds
  | _, _, .nil => .nil
  | _, _, .cons h t => .cons (dx_nilA h) (dx_nilAll t)
end
theorem Pl.small {n : Int} {P : List (Str × Int)} (h : Pl n P) (hn : n ≤ 8) : ∀ x ∈ P, Nam x.1 ∧ 0 ≤ x.2 ∧ x.2 ≤ 100 := fun x hx => ⟨h.nams x hx, (h.rm x hx).1, by have := (h.rm x hx).2; omega⟩
theorem GdA.take {b k n : Nat} {ds : List PyData} (h : GdA b k n ds) (i : Nat) : GdA b k n (ds.take i) := by
  obtain ⟨m, l, e, h1, _⟩ := h.at i
  exact h1.up (Nat.le_refl _) (Nat.le_refl _) (by omega)
theorem GdA.drop {b k n : Nat} {ds : List PyData} (h : GdA b k n ds) (i : Nat) : GdA b k n (ds.drop i) := by
  obtain ⟨m, l, e, _, h1⟩ := h.at i
  exact h1.up (Nat.le_refl _) (Nat.le_refl _) (by omega)
theorem cut_fr {xs : List V} {i : Int} (h0 : 0 ≤ i) : cutV xs (some i) none = xs.drop i.toNat := by
  unfold cutV
  show (xs.drop (if i < 0 then (i + (xs.length : Nat)).toNat else min i.toNat xs.length)).take (xs.length - (if i < 0 then (i + (xs.length : Nat)).toNat else min i.toNat xs.length)) = _
  rw [if_neg (by omega)]
  rcases Nat.le_total i.toNat xs.length with h | h
  · rw [Nat.min_eq_left h, List.take_of_length_le (by rw [List.length_drop]; exact Nat.le_refl _)]
  · rw [Nat.min_eq_right h, List.drop_of_length_le (Nat.le_refl _), List.drop_of_length_le h, List.take_nil]
theorem cut_mid {xs : List V} {i : Int} (h0 : 0 ≤ i) (k : Nat) : cutV xs (some i) (some (i + k)) = (xs.drop i.toNat).take k := by
  unfold cutV
  show (xs.drop (if i < 0 then (i + (xs.length : Nat)).toNat else min i.toNat xs.length)).take ((if i + k < 0 then (i + k + (xs.length : Nat)).toNat else min (i + k).toNat xs.length) - (if i < 0 then (i + (xs.length : Nat)).toNat else min i.toNat xs.length)) = _
  rw [if_neg (by omega), if_neg (by omega)]
  rcases Nat.le_total i.toNat xs.length with h | h
  · rw [Nat.min_eq_left h]
    rcases Nat.le_total (i + k).toNat xs.length with g | g
    · rw [Nat.min_eq_left g, show (i + k).toNat - i.toNat = k by omega]
    · rw [Nat.min_eq_right g, List.take_of_length_le (by rw [List.length_drop]; exact Nat.le_refl _), List.take_of_length_le (by rw [List.length_drop]; omega)]
  · rw [Nat.min_eq_right h, List.drop_of_length_le (Nat.le_refl _), List.drop_of_length_le h, List.take_nil, List.take_nil]
/-! a house as a value -/
theorem int_gd {i : Int} (h0 : 0 ≤ i) (h1 : i ≤ 1000) : Gd 0 0 0 (.int i) := by
  refine ⟨decide_eq_true ?_, Nat.zero_le _, Nat.zero_le _⟩
  have : (1000 : Nat) ≤ 10 ^ 59 := by decide +kernel
  omega
theorem doors_gd : ∀ {D : List (Int × Int)}, (∀ d ∈ D, 0 ≤ d.1 ∧ d.1 ≤ 100 ∧ 0 ≤ d.2 ∧ d.2 ≤ 100) → GdA 0 1 (3 * D.length) (D.map pd)
  | [], _ => GdA.nil.up (Nat.le_refl _) (Nat.zero_le _) (Nat.zero_le _)
  | d :: D, h => by
    obtain ⟨a1, a2, a3, a4⟩ := h d List.mem_cons_self
    have a : Gd 0 1 2 (pd d) := Gd.tup (GdA.cons (int_gd a1 (by omega)) (GdA.cons (int_gd a3 (by omega)) (GdA.nil (n := 0))))
    exact (GdA.cons a (doors_gd fun x hx => h x (List.mem_cons_of_mem _ hx))).up (Nat.le_refl _) (Nat.le_refl _) (by rw [List.length_cons]; omega)
theorem house_gd {n : Int} {D : List (Int × Int)} (f : Forest n D) (n0 : 0 ≤ n) (n1 : n ≤ 8) : Gd 0 3 40 (hd n D) := by
  have a := Gd.tup (doors_gd (D := D) fun d hd => by
    have := f.ends (a := d.1) (b := d.2) hd
    omega)
  have hl : D.length ≤ 8 := f.len
  exact (Gd.tup (GdA.cons ((int_gd n0 (by omega)).up (Nat.le_refl 0) (Nat.zero_le 2) (Nat.le_refl 0)) (GdA.cons a (GdA.nil (n := 0))))).up (Nat.le_refl _) (Nat.le_refl _) (by omega)
theorem doors_dx {K : PySem.W.Frag} {av : List Addr} {H : Hp} : ∀ {ps : List (Addr × Int × Int)}, (∀ p ∈ ps, H p.1 = some (.tup [.int p.2.1, .int p.2.2])) → DxAll K av H (ps.map fun p => V.ref p.1) ((ps.map (·.2)).map pd)
  | [], _ => .nil
  | p :: ps, h => .cons (.tup (SqT.of (h p List.mem_cons_self)) (.cons (.int _) (.cons (.int _) .nil))) (doors_dx fun x hx => h x (List.mem_cons_of_mem _ hx))
theorem HouseAt.dx {K : PySem.W.Frag} {av : List Addr} {H : Hp} {h : Addr} {n : Int} {D : List (Int × Int)} (x : HouseAt H h n D) : Dx K av H (.ref h) (hd n D) := by
  obtain ⟨q, ps, h1, h2, rfl, h4⟩ := x
  exact .tup (SqT.of h1) (.cons (.int _) (.cons (.tup (SqT.of h2) (doors_dx h4)) .nil))
end Fw
set_option maxHeartbeats 4000000
namespace Fw
open PySem PySem.Spec PyProof.Rows L2
/-! tuple(zip(l, m)), l and m lists of one length -/
theorem zip_has_no_len : typeLookup (.type "zip") "__len__" = pure none := am_miss_of_fast (by decide +kernel)
theorem zip_has_no_hint : typeLookup (.type "zip") "__length_hint__" = pure none := am_miss_of_fast (by decide +kernel)
/-- a new list at S with these refs in it -/
abbrev FilledL (h : Heap) (S : Addr) (ts : List Addr) (c : Nat) : Prop := h.get? S = some { cls := .type "list", dict := none, data := .seq (ts.map Value.ref).toArray c, slots := #[] }
/-- what has been poured out of a zip so far: tuples at ts -/
structure Poured (h0 h : Heap) (xs ys : Array Value) (ts : List Addr) : Prop where
  nd : ts.Nodup
  new : ∀ t ∈ ts, h0.objs.size ≤ t ∧ ∃ o, h.get? t = some o
  pair : ∀ (j : Nat) (t : Addr) (x y : Value), ts[j]? = some t → xs[j]? = some x → ys[j]? = some y → IsPair h t x y
  keep : ∀ b o, h0.get? b = some o → h.get? b = some o
/-- the zip's own cells, and the list that is filled -/
structure Jug (z TI TO i1 i2 l1 l2 S : Addr) (n0 : Nat) : Prop where
  D : ZipApart z TI TO i1 i2 l1 l2
  z0 : n0 ≤ z
  t0 : n0 ≤ TO
  a0 : n0 ≤ i1
  b0 : n0 ≤ i2
  s0 : n0 ≤ S
  sz : S ≠ z
  sT : S ≠ TO
  sI : S ≠ TI
  s1 : S ≠ i1
  s2 : S ≠ i2
  l1 : l1 ≠ S
  l2 : l2 ≠ S
/-- the state between two turns -/
structure Turn1 (h0 h : Heap) (z TI TO i1 i2 l1 l2 S : Addr) (xs ys : Array Value) (ts : List Addr) : Prop where
  st : IsZip h z TI TO .none ∨ ∃ T f oT, IsZipHeld h z TI TO T f ∧ h.get? T = some oT ∧ T ≠ z ∧ T ≠ TO ∧ T ≠ i1 ∧ T ≠ i2 ∧ T ≠ S
  ti : IsPair h TI (.ref i1) (.ref i2)
  to : ∃ a b, IsPair h TO a b
  c1 : h.IsListIter i1 l1 ts.length
  c2 : h.IsListIter i2 l2 ts.length
  e1 : h.IsList l1 xs
  e2 : h.IsList l2 ys
  p : Poured h0 h xs ys ts
  out : ∀ t ∈ ts, t ≠ z ∧ t ≠ TO ∧ t ≠ i1 ∧ t ≠ i2 ∧ t ≠ S
section
variable {P : Program} {w : World} {A : Around} {E : Value → Shared → Prop} {s : Shared} {h0 : Heap} {z TI TO i1 i2 l1 l2 S : Addr} {xs ys : Array Value} {ts : List Addr} {c : Nat}
theorem iter_live {h : Heap} {i l : Addr} {k : Nat} (x : h.IsListIter i l k) : i < h.objs.size := by
  obtain ⟨o, e, _⟩ := x
  exact Heap.lt_size e
/-- one more -/
theorem pour_next {Q : Option Value → Shared → Prop} (J : Jug z TI TO i1 i2 l1 l2 S h0.objs.size) (T1 : Turn1 h0 s.heap z TI TO i1 i2 l1 l2 S xs ys ts) (L : FilledL s.heap S ts c) {x y : Value} (hx : xs[ts.length]? = some x) (hy : ys[ts.length]? = some y)
    (hQ : ∀ h' t, Turn1 h0 h' z TI TO i1 i2 l1 l2 S xs ys (ts ++ [t]) → FilledL h' S ts c → Q (some (.ref t)) { s with heap := h' }) : wpAny (model P w) A (pyNext (.ref z)) Q E s := by
  obtain ⟨st, ti, to, c1, c2, e1, e2, p, out⟩ := T1
  have live : ∀ {b o}, s.heap.get? b = some o → s.heap.objs.size ≠ b := fun e => Nat.ne_of_gt (Heap.lt_size e)
  have zl : s.heap.objs.size ≠ z := by
    rcases st with e | ⟨_, _, _, e, _⟩
    · exact live e
    · exact live e
  have tl : s.heap.objs.size ≠ TO := by
    obtain ⟨_, _, e⟩ := to
    exact live e
  have al : s.heap.objs.size ≠ i1 := Nat.ne_of_gt (iter_live c1)
  have bl : s.heap.objs.size ≠ i2 := Nat.ne_of_gt (iter_live c2)
  have sl : s.heap.objs.size ≠ S := live L
  have kz : ∀ {b o}, h0.get? b = some o → b ≠ z ∧ b ≠ TO ∧ b ≠ i1 ∧ b ≠ i2 := fun e => by
    have := Heap.lt_size e
    refine ⟨fun q => ?_, fun q => ?_, fun q => ?_, fun q => ?_⟩ <;> subst q
    · exact absurd J.z0 (Nat.not_le_of_lt this)
    · exact absurd J.t0 (Nat.not_le_of_lt this)
    · exact absurd J.a0 (Nat.not_le_of_lt this)
    · exact absurd J.b0 (Nat.not_le_of_lt this)
  -- whichever way the tuple came
  have fin : ∀ h', (∃ T f oT, IsZipHeld h' z TI TO T f ∧ h'.get? T = some oT ∧ T ≠ z ∧ T ≠ TO ∧ T ≠ i1 ∧ T ≠ i2 ∧ T ≠ S) → (∃ a b, IsPair h' TO a b) → h'.IsListIter i1 l1 (ts.length + 1) → h'.IsListIter i2 l2 (ts.length + 1) → IsPair h' s.heap.objs.size x y → h'.objs.size = s.heap.objs.size + 1 →
      (∀ b o, b ≠ z → b ≠ TO → b ≠ i1 → b ≠ i2 → s.heap.get? b = some o → h'.get? b = some o) → Q (some (.ref s.heap.objs.size)) { s with heap := h' } := by
    intro h' st' to' c1' c2' pr gr kp
    have lst : ∀ {l : Addr} {vs : Array Value}, l ≠ z → l ≠ TO → l ≠ i1 → l ≠ i2 → s.heap.IsList l vs → h'.IsList l vs := fun {l vs} n1 n2 n3 n4 ⟨o, e, r⟩ => ⟨o, kp _ _ n1 n2 n3 n4 e, r⟩
    refine hQ h' s.heap.objs.size ⟨.inr st', kp _ _ J.D.TIz J.D.TITO J.D.TIi1 J.D.TIi2 ti, to', by rw [List.length_append]; exact c1', by rw [List.length_append]; exact c2', lst J.D.l1z J.D.l1TO J.D.l1i1 J.D.l1i2 e1, lst J.D.l2z J.D.l2TO J.D.l2i1 J.D.l2i2 e2, ⟨?_, ?_, ?_, ?_⟩, ?_⟩ (kp _ _ J.sz J.sT J.s1 J.s2 L)
    · rw [List.nodup_append]
      refine ⟨p.nd, by simp, fun a ha b hb e => ?_⟩
      rw [List.mem_singleton] at hb
      obtain ⟨_, o, ho⟩ := p.new a ha
      rw [e, hb] at ho
      exact absurd (Heap.lt_size ho) (Nat.lt_irrefl _)
    · intro t ht
      rcases List.mem_append.mp ht with ht | ht
      · obtain ⟨n1, n2, n3, n4, _⟩ := out t ht
        obtain ⟨g, o, ho⟩ := p.new t ht
        exact ⟨g, o, kp _ _ n1 n2 n3 n4 ho⟩
      · rw [List.mem_singleton.mp ht]
        exact ⟨Nat.le_trans J.s0 (Nat.le_of_lt (Heap.lt_size L)), _, pr⟩
    · intro j t x' y' ht hx' hy'
      by_cases lt : j < ts.length
      · rw [List.getElem?_append_left lt] at ht
        obtain ⟨n1, n2, n3, n4, _⟩ := out t (List.mem_of_getElem? ht)
        exact kp _ _ n1 n2 n3 n4 (p.pair j t x' y' ht hx' hy')
      · rw [List.getElem?_append_right (Nat.le_of_not_lt lt)] at ht
        have ej : j - ts.length = 0 := by
          cases q : j - ts.length with
          | zero => rfl
          | succ m => rw [q] at ht; cases ht
        have ej : j = ts.length := by omega
        subst ej
        rw [Nat.sub_self] at ht
        cases ht
        rw [hx] at hx'
        rw [hy] at hy'
        cases hx'
        cases hy'
        exact pr
    · intro b o e
      obtain ⟨n1, n2, n3, n4⟩ := kz e
      exact kp b o n1 n2 n3 n4 (p.keep b o e)
    · intro t ht
      rcases List.mem_append.mp ht with ht | ht
      · exact out t ht
      · rw [List.mem_singleton.mp ht]
        exact ⟨zl, tl, al, bl, sl⟩
  obtain ⟨a, b, hto⟩ := to
  rcases st with hz | ⟨T, f, oT, hz, hT, n1, n2, n3, n4, n5⟩
  · exact wpAny_pyNext_zip_item J.D hz ti hto c1 c2 e1 e2 hx hy fun h' z' t' c1' c2' pr gr kp => fin h' ⟨_, false, _, z', pr, zl, tl, al, bl, sl⟩ ⟨_, _, t'⟩ c1' c2' pr gr kp
  · exact wpAny_pyNext_zip_item_held J.D hz hT ti c1 c2 e1 e2 hx hy fun h' z' c1' c2' pr gr kp => fin h' ⟨T, true, _, z', kp _ _ n1 n3 n4 hT, n1, n2, n3, n4, n5⟩ ⟨_, _, kp _ _ J.D.TOz J.D.TOi1 J.D.TOi2 hto⟩ c1' c2' pr gr fun b o m1 _ m3 m4 => kp b o m1 m3 m4
/-- no more -/
theorem pour_stop {Q : Option Value → Shared → Prop} (calm : A.handled = none) (J : Jug z TI TO i1 i2 l1 l2 S h0.objs.size) (T1 : Turn1 h0 s.heap z TI TO i1 i2 l1 l2 S xs ys ts) (L : FilledL s.heap S ts c) (hx : xs[ts.length]? = none)
    (hQ : ∀ h', Poured h0 h' xs ys ts → FilledL h' S ts c → Q none { s with heap := h' }) : wpAny (model P w) A (pyNext (.ref z)) Q E s := by
  obtain ⟨st, ti, to, c1, c2, e1, e2, p, out⟩ := T1
  have fin : ∀ h', (∀ b o, b ≠ z → b ≠ TO → b ≠ i1 → b ≠ i2 → s.heap.get? b = some o → h'.get? b = some o) → Q none { s with heap := h' } := by
    intro h' kp
    refine hQ h' ⟨p.nd, fun t ht => ⟨(p.new t ht).1, ?_⟩, fun j t x y ht hx' hy' => ?_, fun b o e => ?_⟩ (kp _ _ J.sz J.sT J.s1 J.s2 L)
    · obtain ⟨n1, n2, n3, n4, _⟩ := out t ht
      obtain ⟨g, o, ho⟩ := p.new t ht
      exact ⟨o, kp _ _ n1 n2 n3 n4 ho⟩
    · obtain ⟨n1, n2, n3, n4, _⟩ := out t (List.mem_of_getElem? ht)
      exact kp _ _ n1 n2 n3 n4 (p.pair j t x y ht hx' hy')
    · have := Heap.lt_size e
      refine kp b o (fun q => ?_) (fun q => ?_) (fun q => ?_) (fun q => ?_) (p.keep b o e) <;> subst q
      · exact absurd J.z0 (Nat.not_le_of_lt this)
      · exact absurd J.t0 (Nat.not_le_of_lt this)
      · exact absurd J.a0 (Nat.not_le_of_lt this)
      · exact absurd J.b0 (Nat.not_le_of_lt this)
  obtain ⟨a, b, hto⟩ := to
  rcases st with hz | ⟨T, f, oT, hz, hT, _⟩
  · exact wpAny_pyNext_zip_end calm J.D hz ti hto c1 c2 e1 e2 (.inl hx) fun h' kp => fin h' kp
  · exact wpAny_pyNext_zip_end_held calm J.D hz hT ti c1 c2 e1 e2 (.inl hx) fun h' kp => fin h' fun b o m1 _ m3 m4 => kp b o m1 m3 m4
/-- a write to the list leaves all else -/
theorem Turn1.off {h h' : Heap} (J : Jug z TI TO i1 i2 l1 l2 S h0.objs.size) (T1 : Turn1 h0 h z TI TO i1 i2 l1 l2 S xs ys ts) (kp : ∀ b o, b ≠ S → h.get? b = some o → h'.get? b = some o) : Turn1 h0 h' z TI TO i1 i2 l1 l2 S xs ys ts := by
  obtain ⟨st, ti, ⟨a, b, hto⟩, ⟨o1, g1, r1⟩, ⟨o2, g2, r2⟩, ⟨o3, g3, r3⟩, ⟨o4, g4, r4⟩, p, out⟩ := T1
  refine ⟨?_, kp _ _ J.sI.symm ti, ⟨a, b, kp _ _ J.sT.symm hto⟩, ⟨o1, kp _ _ J.s1.symm g1, r1⟩, ⟨o2, kp _ _ J.s2.symm g2, r2⟩, ⟨o3, kp _ _ J.l1 g3, r3⟩, ⟨o4, kp _ _ J.l2 g4, r4⟩, ⟨p.nd, fun t ht => ?_, fun j t x y ht hx hy => ?_, fun b o e => ?_⟩, out⟩
  · rcases st with e | ⟨T, f, oT, e, hT, n1, n2, n3, n4, n5⟩
    · exact .inl (kp _ _ J.sz.symm e)
    · exact .inr ⟨T, f, oT, kp _ _ J.sz.symm e, kp _ _ n5 hT, n1, n2, n3, n4, n5⟩
  · obtain ⟨g, o, e⟩ := p.new t ht
    exact ⟨g, o, kp _ _ (out t ht).2.2.2.2 e⟩
  · exact kp _ _ (out t (List.mem_of_getElem? ht)).2.2.2.2 (p.pair j t x y ht hx hy)
  · refine kp b o (fun q => ?_) (p.keep b o e)
    subst q
    exact absurd J.s0 (Nat.not_le_of_lt (Heap.lt_size e))
/-- all of it -/
theorem pour_all {R : Result → Shared → Prop} {res : Value} (calm : A.handled = none) (J : Jug z TI TO i1 i2 l1 l2 S h0.objs.size) (ey : xs.size = ys.size) (zs : xs.size ≤ 1000) : ∀ (k : Nat) (s : Shared) (ts : List Addr) (c : Nat), xs.size - ts.length = k → ts.length ≤ xs.size →
    Turn1 h0 s.heap z TI TO i1 i2 l1 l2 S xs ys ts → FilledL s.heap S ts c → (∀ h' ts' c', ts'.length = xs.size → Poured h0 h' xs ys ts' → FilledL h' S ts' c' → R (.ok (.ret res)) { s with heap := h' }) →
    codeAny (model P w) A (.builtin "list.extend.loop" ⟨[.ref S, .ref z, res], []⟩) R s
  | 0, s, ts, c, hk, hl, T1, L, fin => by
    refine codeAny_builtin PySem.F.entry_extend_loop ?_
    rw [Around.under_plainId PySem.F.plain_extend_loop _]
    show wpAny _ _ (pyNext (.ref z) >>= _) _ _ s
    exact wpAny_bind (pour_stop (A := A.in1) calm J T1 L (Array.getElem?_eq_none (by omega)) fun h' p' L' => wpAny_pure (fin h' ts c (by omega) p' L'))
  | k + 1, s, ts, c, hk, hl, T1, L, fin => by
    have lx : ts.length < xs.size := by omega
    refine codeAny_builtin PySem.F.entry_extend_loop ?_
    rw [Around.under_plainId PySem.F.plain_extend_loop _]
    show wpAny _ _ (pyNext (.ref z) >>= _) _ _ s
    refine wpAny_bind (pour_next (A := A.in1) J T1 L (Array.getElem?_eq_getElem lx) (Array.getElem?_eq_getElem (ey ▸ lx)) fun h' t T2 L2 => ?_)
    have zs' : ((ts.map Value.ref).toArray.push (Value.ref t)).size ≤ sizeLine + 1 := by
      rw [Array.size_push, List.size_toArray, List.length_map, sizeLine_eq]
      omega
    show wpAny _ _ (updateSeq S (·.push (Value.ref t)) >>= _) _ _ _
    have L3 := Heap.get?_update_self (Obj.mapSeq (·.push (Value.ref t))) L2 rfl
    have e3 : (ts.map Value.ref).toArray.push (Value.ref t) = ((ts ++ [t]).map Value.ref).toArray := by simp
    have L4 : FilledL (h'.update S (Obj.mapSeq (·.push (Value.ref t)))) S (ts ++ [t]) (if ((ts.map Value.ref).toArray.push (Value.ref t)).size == (ts.map Value.ref).toArray.size then c else c + 1) := by
      refine L3.trans ?_
      rw [← e3]
      rfl
    refine wpAny_bind (wpAny_updateSeq L2 rfl (wpAny_pure ⟨plainId_quiet PySem.F.plain_extend_loop _, ?_⟩) (by rw [List.size_toArray, List.length_map, sizeLine_eq]; omega) zs')
    exact pour_all calm J ey zs k { s with heap := h'.update S (Obj.mapSeq (·.push (Value.ref t))) } (ts ++ [t]) _ (by rw [List.length_append]; show _ - (_ + 1) = _; omega) (by rw [List.length_append]; show _ + 1 ≤ _; omega) (T2.off J fun b o nb e => (Heap.get?_update_other _ _ (Ne.symm nb)).trans e) L4 fin
theorem one_touch {n : Nat} {o : Obj} {Q : Unit → Shared → Prop} (e : s.heap.get? n = some o) (ho : o = { cls := .type "list", dict := none, data := .seq #[] 0, slots := #[] })
    (hQ : ∀ h' c, FilledL h' n [] c → (∀ b u, b ≠ n → s.heap.get? b = some u → h'.get? b = some u) → Q () { s with heap := h' }) : wpAny (model P w) A (Builtin.List.listTouch (.ref n)) Q E s := by
  subst ho
  show wpAny _ _ (updateSeq n (·.push .none) >>= fun _ => updateSeq n (·.pop)) _ _ s
  have u1 := Heap.get?_update_self (Obj.mapSeq (·.push Value.none)) e rfl
  have u2 := Heap.get?_update_self (Obj.mapSeq (·.pop)) u1 rfl
  refine wpAny_bind (wpAny_updateSeq e rfl (wpAny_updateSeq u1 rfl (hQ _ _ u2 fun b u nb h => ?_)))
  rw [Heap.get?_update_other _ _ (Ne.symm nb), Heap.get?_update_other _ _ (Ne.symm nb)]
  exact h
/-- what a zip gives is gathered -/
theorem gather_zip {Q : List Value → Shared → Prop} (calm : A.handled = none) (D : ZipApart z TI TO i1 i2 l1 l2) (lo : h0.objs.size ≤ z ∧ h0.objs.size ≤ TO ∧ h0.objs.size ≤ i1 ∧ h0.objs.size ≤ i2) (hz : IsZip s.heap z TI TO .none) (ti : IsPair s.heap TI (.ref i1) (.ref i2)) (to : ∃ a b, IsPair s.heap TO a b)
    (c1 : s.heap.IsListIter i1 l1 0) (c2 : s.heap.IsListIter i2 l2 0) (e1 : s.heap.IsList l1 xs) (e2 : s.heap.IsList l2 ys) (kp : ∀ b o, h0.get? b = some o → s.heap.get? b = some o) (sz0 : h0.objs.size ≤ s.heap.objs.size) (ey : xs.size = ys.size) (zs : xs.size ≤ 1000)
    (hQ : ∀ h' ts, ts.length = xs.size → Poured h0 h' xs ys ts → Q (ts.map Value.ref) { s with heap := h' }) : wpAny (model P w) A (collect (.ref z)) Q E s := by
  have ne : ∀ {b o}, s.heap.get? b = some o → s.heap.objs.size ≠ b := fun e => Nat.ne_of_gt (Heap.lt_size e)
  have J : Jug z TI TO i1 i2 l1 l2 s.heap.objs.size h0.objs.size := by
    obtain ⟨_, _, to⟩ := to
    obtain ⟨_, g1, _⟩ := c1
    obtain ⟨_, g2, _⟩ := c2
    obtain ⟨_, g3, _⟩ := e1
    obtain ⟨_, g4, _⟩ := e2
    exact ⟨D, lo.1, lo.2.1, lo.2.2.1, lo.2.2.2, sz0, ne hz, ne to, ne ti, ne g1, ne g2, (ne g3).symm, (ne g4).symm⟩
  let new : Obj := { cls := .type "list", data := .seq ([] : List Value).toArray }
  let s1 : Shared := { s with heap := s.heap.push new }
  have g0 : s1.heap.get? s.heap.objs.size = some new := Heap.get?_push_size _ rfl
  have up : ∀ b o, s.heap.get? b = some o → s1.heap.get? b = some o := fun b o e => Heap.get?_push_of_some _ e
  have zT : s1.TypeIs (.ref z) "zip" := ⟨_, up _ _ hz, rfl⟩
  have start : ∀ h', (∀ b u, b ≠ s.heap.objs.size → s1.heap.get? b = some u → h'.get? b = some u) → Turn1 h0 h' z TI TO i1 i2 l1 l2 s.heap.objs.size xs ys [] := fun h' k => by
    have k : ∀ b u, s.heap.get? b = some u → h'.get? b = some u := fun b u e => k b u (ne e).symm (up b u e)
    obtain ⟨a, b, to⟩ := to
    obtain ⟨o1, g1, r1⟩ := c1
    obtain ⟨o2, g2, r2⟩ := c2
    obtain ⟨o3, g3, r3⟩ := e1
    obtain ⟨o4, g4, r4⟩ := e2
    exact ⟨.inl (k _ _ hz), k _ _ ti, ⟨a, b, k _ _ to⟩, ⟨o1, k _ _ g1, r1⟩, ⟨o2, k _ _ g2, r2⟩, ⟨o3, k _ _ g3, r3⟩, ⟨o4, k _ _ g4, r4⟩, ⟨List.nodup_nil, fun t h => (nomatch h), fun j t x y h => (nomatch h), fun b o e => k _ _ (kp b o e)⟩, fun t h => (nomatch h)⟩
  -- into a new list
  have load : ∀ h' ts c, ts.length = xs.size → Poured h0 h' xs ys ts → FilledL h' s.heap.objs.size ts c → wpAny (model P w) A (PySem.load s.heap.objs.size >>= fun o => match o.data with | .seq vs _ => pure vs.toList | _ => unsupported "internal:collect") Q E { s with heap := h' } := fun h' ts c lt p L =>
    wpAny_bind (wpAny_load L (wpAny_pure (by simpa using hQ h' ts lt p)))
  unfold collect
  refine wpAny_bind (wpAny_runValue (codeAny_builtin PySem.F.entry_proto_collect ?_))
  rw [Around.under_plainId PySem.F.plain_proto_collect _]
  refine wpAny_bind (wpAny_newObj_type (wpAny_pure ⟨plainId_quiet PySem.F.plain_list_iadd _, codeAny_builtin PySem.F.entry_list_iadd ?_⟩))
  rw [Around.under_plainId PySem.F.plain_list_iadd _]
  show wpAny _ _ (Builtin.List.listExtendWith (.ref s.heap.objs.size) (.ref z) (.ref s.heap.objs.size)) _ _ s1
  unfold Builtin.List.listExtendWith Builtin.List.listLengthHint
  refine wpAny_bind (wpAny_typeOf zT ?_)
  have no : (Builtin.List.listSameRef (.ref s.heap.objs.size) (.ref z) || (Value.type "zip" == Value.type "list") || (Value.type "zip" == Value.type "tuple")) = false := by
    simp only [Builtin.List.listSameRef, show (s.heap.objs.size == z) = false from beq_false_of_ne J.sz]
    decide
  rw [if_neg (by rw [no]; decide)]
  refine wpAny_bind (wpAny_pyIter_zip (up _ _ hz) (wpAny_bind (wpAny_holding (wpAny_bind (wpAny_specialOf zT zip_has_no_len (wpAny_bind (wpAny_specialOf zT zip_has_no_hint (wpAny_pure ?_))))))))
  refine wpAny_bind (wpAny_rule (wpAny_bind (one_touch (s := s1) g0 rfl fun h2 c L k => ?_)))
  refine wpAny_pure ⟨plainId_quiet PySem.F.plain_extend_loop _, pour_all calm J ey zs xs.size { s1 with heap := h2 } [] c rfl (Nat.zero_le _) (start h2 k) L fun h' ts c' lt p L' => ?_⟩
  exact load h' ts c' lt p L'
open AutoSeq1 (wpAny_loadPart') in
theorem tuple_zip {Q : Value → Shared → Prop} (calm : A.handled = none) (D : ZipApart z TI TO i1 i2 l1 l2) (lo : h0.objs.size ≤ z ∧ h0.objs.size ≤ TO ∧ h0.objs.size ≤ i1 ∧ h0.objs.size ≤ i2) (hz : IsZip s.heap z TI TO .none) (ti : IsPair s.heap TI (.ref i1) (.ref i2)) (to : ∃ a b, IsPair s.heap TO a b)
    (c1 : s.heap.IsListIter i1 l1 0) (c2 : s.heap.IsListIter i2 l2 0) (e1 : s.heap.IsList l1 xs) (e2 : s.heap.IsList l2 ys) (kp : ∀ b o, h0.get? b = some o → s.heap.get? b = some o) (sz0 : h0.objs.size ≤ s.heap.objs.size) (ey : xs.size = ys.size) (zs : xs.size ≤ 1000)
    (hQ : ∀ h' ts, ts.length = xs.size → Poured h0 h' xs ys ts → Q (.ref h'.objs.size) { s with heap := h'.push { cls := .type "tuple", data := .seq (ts.map Value.ref).toArray } }) : wpAny (model P w) A (call (.type "tuple") [.ref z]) Q E s := by
  refine callType_codes (Q₁ := fun v y => y.TypeIs v "tuple" ∧ Q v y) PySem.F.called_tuple (PySem.F.typeCall_tuple_1 _) PySem.F.entry_object_init (codeAny_of_tree ?_) fun v y h => ⟨h.1, PySem.F.args_object_init_2 v _, object_init_meets PySem.F.called_tuple.init.lookup PySem.F.called_tuple.made (by decide) P w A.in1 _ y ⟨h.1, rfl, h.2⟩⟩
  refine wpAny_bind (wpAny_of_eq (PySem.F.newCall_tuple_1 _) (wpAny_pure ⟨plainId_quiet PySem.F.plain_tuple_new _, codeAny_builtin PySem.F.entry_tuple_new ?_⟩))
  rw [Around.under_plainId PySem.F.plain_tuple_new _]
  have zT : s.TypeIs (.ref z) "zip" := ⟨_, hz, rfl⟩
  have f1 := sub_tuple_self
  have f2 := init_tuple_lookup
  have f3 := madeHere_tuple
  wp_walk using wpAny_typeOf zT, gather_zip (A := A.in1.in1) calm D lo hz ti to c1 c2 e1 e2 kp sz0 ey zs
  rintro h' ts lt p
  have fit : (ts.map Value.ref).toArray.size ≤ sizeLine := by rw [List.size_toArray, List.length_map, sizeLine_eq]; omega
  show wpAny _ _ (Builtin.Tuple.tupleExact (ts.map Value.ref).toArray >>= fun v => ret v) _ _ _
  unfold Builtin.Tuple.tupleExact
  refine wpAny_bind (wpAny_newObj_type ?_ fit)
  exact wpAny_pure ⟨⟨_, Heap.get?_push_size _ rfl, rfl⟩, hQ h' ts lt p⟩
end
end Fw
set_option maxHeartbeats 4000000
namespace Fw
open PySem PySem.Spec PyProof.Rows L2
/-! tuple(zip(l, m)) as a rule -/
/-- pairs that came about are told one by one -/
theorem pairs_told {X : Cx} {pins : List (Addr × Obj)} {σ : L2.St} {h' : Heap} : ∀ (zs : List (Addr × V × V)) (H : Hp) (s : Shared), Inv X pins σ H s → (zs.map (·.1)).Nodup →
    (∀ z ∈ zs, s.heap.get? z.1 = none ∧ H z.1 = none ∧ ∃ u v, IsPair h' z.1 u v ∧ RelV z.2.1 u ∧ RelV z.2.2 v) → (∀ b o, s.heap.get? b = some o → h'.get? b = some o) →
    ∃ H', Same H H' ∧ (∀ z ∈ zs, H' z.1 = some (.tup [z.2.1, z.2.2])) ∧ Inv X pins σ H' { s with heap := h' }
  | [], H, s, I, _, _, k => ⟨H, Same.refl _, fun z h => (nomatch h), I.kept (t' := s.toks) k⟩
  | z :: zs, H, s, I, nd, hz, k => by
    rw [List.map_cons, List.nodup_cons] at nd
    obtain ⟨n1, n2, u, v, pr, ru, rv⟩ := hz z List.mem_cons_self
    obtain ⟨G, g1, g2⟩ := restrict h' fun b => decide (b = z.1) || (s.heap.get? b).isSome
    have gz : IsPair G z.1 u v := (g1 z.1 (by simp)).trans pr
    have gk : ∀ b o, s.heap.get? b = some o → G.get? b = some o := fun b o e => (g1 b (by rw [e]; simp)).trans (k b o e)
    have gh : ∀ b o, G.get? b = some o → h'.get? b = some o := fun b o e => by
      cases q : (decide (b = z.1) || (s.heap.get? b).isSome) with
      | true => exact (g1 b q).symm.trans e
      | false => rw [g2 b q] at e; cases e
    have new : ObjOk X.prog X.w (upd H z.1 (.tup [z.2.1, z.2.2])) G z.1 (.tup [z.2.1, z.2.2]) := ⟨by show 2 ≤ sizeLine; decide, [u, v], .cons ru (.cons rv .nil), ⟨_, gz, rfl, _, rfl⟩⟩
    have I1 := I.laidN (h' := G) (t' := s.toks) gk n1 n2 new
    obtain ⟨H', s', a', I'⟩ := pairs_told zs (upd H z.1 (.tup [z.2.1, z.2.2])) { s with heap := G } I1 nd.2 (fun y hy => by
      obtain ⟨m1, m2, r⟩ := hz y (List.mem_cons_of_mem _ hy)
      have ne : y.1 ≠ z.1 := fun e => nd.1 (by rw [← e]; exact List.mem_map_of_mem (f := (·.1)) hy)
      refine ⟨g2 y.1 ?_, by rw [upd_ne ne]; exact m2, r⟩
      rw [m1, decide_eq_false ne]
      rfl) gh
    refine ⟨H', (same_upd n2).trans s', fun y hy => ?_, I'⟩
    rcases List.mem_cons.mp hy with rfl | hy
    · exact s' _ _ upd_same
    · exact a' y hy
def tTZ (K : PySem.W.Frag) (ta : TA) : TE := fun σ H Q => ta σ H fun vs H1 => ∃ (a b : Addr) (xs ys : List V), vs = [.ref a, .ref b] ∧ SqL K H1 a xs ∧ SqL K H1 b ys ∧ xs.length = ys.length ∧ xs.length ≤ 1000 ∧
  ∀ H2 l (zs : List (Addr × V × V)), Same H1 H2 → zs.map (·.2) = xs.zip ys → (∀ z ∈ zs, H2 z.1 = some (.tup [z.2.1, z.2.2])) → H2 l = none → Q (.ref l) (upd H2 l (.tup (zs.map fun z => V.ref z.1)))
theorem pe_tupleZip {X : Cx} {K : PySem.W.Frag} (hK : X.K = K) {e e2 : Expr} {ta : TA} {p pz pos pos2 : Pos} (hc : X.calm = true) (hg : Gl X "tuple") (hm : X.mg "tuple" = none) (hgz : Gl X "zip") (hmz : X.mg "zip" = none) (ha : PA X [e, e2] ta)
    (hs : starEach [e, e2] X.env = (false, eval e X.env) :: starEach [e2] X.env := by rfl) (hpl : (backTo pos2 (starEach [e2] X.env)).any (·.1) = false := by rfl) (hs1 : starEach [.Call (.Name "zip" pz) [e, e2] [] pos2] X.env = (false, eval (.Call (.Name "zip" pz) [e, e2] [] pos2) X.env) :: starEach [] X.env := by rfl) (hpl1 : (backTo pos (starEach [] X.env)).any (·.1) = false := by rfl) :
    PE X (.Call (.Name "tuple" p) [.Call (.Name "zip" pz) [e, e2] [] pos2] [] pos) (tTZ K ta) := by
  subst hK
  refine ⟨fun pins s σ H Q I h => ?_⟩
  refine wpAny_Call_Name_kw (ld_blt I hg hm boot_tuple ?_)
  refine PyProof.Rows.callWith_type1 (args_cons ?_ hs1) hs1 hpl1
  refine Call_ (ld_blt I hgz hmz PyProof.Rows.boot_zip (PyProof.Rows.callWith_type1 (thn (ha.run pos2 pins s σ H _ I h) fun us s1 ⟨vs, H1, I1, r1, q1⟩ => ?_) hs hpl))
  obtain ⟨a, b, xs, ys, rfl, hx, hy, ex, lx, q⟩ := q1
  obtain ⟨u, v, rfl, ru, rv⟩ := vals2 r1
  obtain rfl : u = Value.ref a := ru
  obtain rfl : v = Value.ref b := rv
  obtain ⟨its, rx, p1, _⟩ := I1.list hx
  obtain ⟨its2, ry, p2, _⟩ := I1.list hy
  have l1 := rx.length
  have l2 := ry.length
  refine call_zip_2 p1.isList p2.isList fun h' hz hTI hTO h1 h2 hsz hk => args_nil ?_
  have c1 := p1.isList
  have c2 := p2.isList
  obtain ⟨o1, g1, k1⟩ := id c1
  obtain ⟨o2, g2, k2⟩ := id c2
  refine tuple_zip (h0 := s1.heap) (xs := its.toArray) (ys := its2.toArray) (I1.ok.hd hc) (PySem.W.ktu_apart s1.heap.objs.size a b p1.lt p2.lt) ⟨Nat.le_add_right _ _, Nat.le_add_right _ _, Nat.le_refl _, Nat.le_add_right _ _⟩ hz hTI ⟨_, _, hTO⟩ h1 h2 ⟨o1, hk _ _ g1, k1⟩ ⟨o2, hk _ _ g2, k2⟩ hk (by show _ ≤ h'.objs.size; omega) (by rw [List.size_toArray, List.size_toArray]; omega) (by rw [List.size_toArray]; omega) ?_
  intro h2' ts lt P
  rw [List.size_toArray] at lt
  let zs : List (Addr × V × V) := ts.zip (xs.zip ys)
  have e1 : zs.map (·.1) = ts := List.map_fst_zip (by rw [List.length_zip]; omega)
  have e2 : zs.map (·.2) = xs.zip ys := List.map_snd_zip (by rw [List.length_zip]; omega)
  have I2 : ∃ H2, Same H1 H2 ∧ (∀ z ∈ zs, H2 z.1 = some (.tup [z.2.1, z.2.2])) ∧ Inv X pins σ H2 { s1 with heap := h2' } := pairs_told zs H1 s1 I1 (by rw [e1]; exact P.nd) (fun z hz => by
    have hm : z.1 ∈ ts := by rw [← e1]; exact List.mem_map_of_mem (f := (·.1)) hz
    obtain ⟨n0, _⟩ := P.new z.1 hm
    refine ⟨Heap.get?_none_of_le n0, I1.hok.fresh n0, ?_⟩
    obtain ⟨j, hj⟩ := List.mem_iff_getElem?.mp hz
    obtain ⟨t1, t2⟩ := List.getElem?_zip_eq_some.mp hj
    obtain ⟨t2, t3⟩ := List.getElem?_zip_eq_some.mp t2
    obtain ⟨u, hu, ru⟩ := rx.get t2
    obtain ⟨v, hv, rv⟩ := ry.get t3
    exact ⟨u, v, P.pair j z.1 u v t1 (by simpa using hu) (by simpa using hv), ru, rv⟩) P.keep
  obtain ⟨H2, s2, a2, I2⟩ := I2
  have fr := I2.hok.fresh (Nat.le_refl _)
  have rl : Vals (zs.map fun z => V.ref z.1) (ts.map Value.ref) := by
    rw [← e1, List.map_map]
    have : ∀ l : List (Addr × V × V), Vals (l.map fun z => V.ref z.1) (l.map (Value.ref ∘ (·.1))) := fun l => by
      induction l with
      | nil => exact .nil
      | cons x l ih => exact .cons rfl ih
    exact this zs
  have new : ObjOk X.prog X.w (upd H2 h2'.objs.size (.tup (zs.map fun z => V.ref z.1))) (h2'.push { cls := .type "tuple", data := .seq (ts.map Value.ref).toArray }) h2'.objs.size (.tup (zs.map fun z => V.ref z.1)) := by
    refine ⟨?_, _, rl, ⟨_, Heap.get?_push_size _ rfl, rfl, _, rfl⟩⟩
    rw [rl.length, List.length_map, lt]
    exact Nat.le_of_lt (small1000 (by omega))
  exact ⟨.ref h2'.objs.size, _, I2.laid (t' := s1.toks) (fun b o e => Heap.get?_push_of_some _ e) (Nat.le_refl _) new, rfl, q H2 _ zs s2 e2 a2 fr⟩
end Fw
set_option maxHeartbeats 4000000
namespace Fw
open PySem PySem.Spec PyProof.Rows L2
/-! a placement with two rooms exchanged -/
theorem swap_in {xs : List Int} {i j : Nat} {a b : Int} (ha : a ∈ xs) (hb : b ∈ xs) : ∀ x ∈ (xs.set i b).set j a, x ∈ xs := fun x hx => by
  rcases List.mem_or_eq_of_mem_set hx with h | h
  · rcases List.mem_or_eq_of_mem_set h with h | h
    · exact h
    · rw [h]; exact hb
  · rw [h]; exact ha
theorem ixN_to {n : Nat} {i : Int} (h0 : 0 ≤ i) (h1 : i < (n : Nat)) : ixN n i = some i.toNat := by
  unfold ixN
  rw [if_pos h0, if_pos h1]
theorem vi_set (xs : List Int) (i : Nat) (a : Int) : (vi xs).set i (.int a) = vi (xs.set i a) := List.map_set.symm
theorem PlAt.zip {H : Hp} {l : Addr} {zs : List (Addr × V × V)} {ns : List Str} {rs : List Int} (ln : ns.length = rs.length) (e : zs.map (·.2) = (ns.map V.str).zip (vi rs)) (a : ∀ z ∈ zs, H z.1 = some (.tup [z.2.1, z.2.2])) (hl : H l = some (.tup (zs.map fun z => V.ref z.1))) : PlAt H l (ns.zip rs) := by
  have lz : zs.length = ns.length := by
    have := congrArg List.length e
    rw [List.length_map, List.length_zip, List.length_map, List.length_map] at this
    omega
  have l1 : (ns.zip rs).length = zs.length := by rw [List.length_zip]; omega
  have m1 : ((zs.map (·.1)).zip (ns.zip rs)).map (·.1) = zs.map (·.1) := List.map_fst_zip (by rw [List.length_map]; omega)
  have m2 : ((zs.map (·.1)).zip (ns.zip rs)).map (·.2) = ns.zip rs := List.map_snd_zip (by rw [List.length_map]; omega)
  refine ⟨(zs.map (·.1)).zip (ns.zip rs), .inl ?_, m2.symm, fun q hq => ?_⟩
  · rw [hl]
    have := congrArg (List.map V.ref) m1
    rw [List.map_map, List.map_map] at this
    exact congrArg (fun l => some (HO.tup l)) this.symm
  · obtain ⟨k, hk⟩ := List.mem_iff_getElem?.mp hq
    obtain ⟨k1, k2⟩ := List.getElem?_zip_eq_some.mp hk
    obtain ⟨k2, k3⟩ := List.getElem?_zip_eq_some.mp k2
    rw [List.getElem?_map] at k1
    cases ez : zs[k]? with
    | none => rw [ez] at k1; cases k1
    | some z =>
      rw [ez] at k1
      have z1 : z.1 = q.1 := Option.some.inj k1
      have e2 : (zs.map (·.2))[k]? = some z.2 := by rw [List.getElem?_map, ez]; rfl
      rw [e] at e2
      obtain ⟨b1, b2⟩ := List.getElem?_zip_eq_some.mp e2
      rw [List.getElem?_map, k2] at b1
      rw [List.getElem?_map, k3] at b2
      have b1 : V.str q.2.1 = z.2.1 := Option.some.inj b1
      have b2 : V.int q.2.2 = z.2.2 := Option.some.inj b2
      rw [← z1, a z (List.mem_of_getElem? ez), b1, b2]
section
variable {P : Program} {w : World} {K : PySem.W.Frag} {mg : Str → Option Value} {base : Heap}
def spSwap : Sp := fun vs H Q _ => ∃ (st SA SB p : Addr) (c : Nat) (n : Int) (P : List (Str × Int)), vs = [.ref st, .ref p] ∧ StreamAt H st SA SB c ∧ c < 2 ^ 28 ∧ PlAt H p P ∧ Pl n P ∧ P.length ≤ 12 ∧
  ∀ H' u G, StreamAt H' st SA SB (c + 2) → Fr st SA H H' → PlAt H' u G → (∀ x ∈ G, Nam x.1 ∧ 0 ≤ x.2 ∧ x.2 < n) → G.length ≤ 12 → Q (.ref u) H'
abbrev nLSwap : List Str := ["_law_stream_here", "_law_placement_here", "_law_i", "_law_j", "_law_rooms", "_law_one"]
theorem scLSwap : FnScope nLSwap ["_law_stream_here", "_law_placement_here"] (defScope sLSwap) := ⟨rfl, rfl, rfl, by decide +kernel, rfl, by decide +kernel, by decide +kernel⟩
abbrev pLSwap : List Str := ["_law_stream_here", "_law_placement_here"]
theorem ok_lswap {f : Addr} {fd : FuncData} {k : Nat} (F : Fun K "_law_swapped" "_law_swapped" sLSwap f fd) (T : Nm mg) (C_law_draw : Cal P w K mg base (k + 1) "_law_draw" ["_law_stream_here", "_law_many"] spDraw) : FnOk P w K mg base CX0 (k + 2) f fd pLSwap spSwap := by
  refine F.ok scLSwap (fun vs H Q E h => ?_) (fun cdv A outer s H vs Q E hr h => ?_)
  · obtain ⟨st, SA, SB, p, c, n, P, rfl, _⟩ := h
    rfl
  · obtain ⟨st, SA, SB, p, c, n, P, rfl, hS, hc, hP, pl, lP, q⟩ := h
    refine ⟨_, (pss_cons (ps_if (pt_cmpR (op_eqDK K rfl hr.units) (pv 1) (pe_tup pa_nil) (nomark _))
      (pss_one (ps_ret (pv 1)))
      pss_nil)
      (pss_cons (ps_par (i := 2) (j := 3) (by rfl) scLSwap.nd rfl rfl (by decide) rfl rfl (pa_cons (pe_cal C_law_draw hr (by rfl) (pa_cons (pv 0) (pa_cons (pe_callB (call_lenK K rfl) (by rfl) T.len (by decide +kernel) (pa_cons (pv 1) pa_nil)) pa_nil))) (pa_cons (pe_cal C_law_draw hr (by rfl) (pa_cons (pv 0) (pa_cons (pe_callB (call_lenK K rfl) (by rfl) T.len (by decide +kernel) (pa_cons (pv 1) pa_nil)) pa_nil))) pa_nil)) (by rfl))
      (pss_cons (ps_setLc (i := 4) (own := [("_law_one", 5)]) (g := gName 5) (by rfl) scLSwap.nd rfl rfl (sw_true rfl rfl rfl (by decide +kernel)) (pi_tupK K rfl (pv 1))
 (blkOk_by (own := [("_law_one", 5)]) (N := nLSwap) (sc := defScope sLSwap) (by decide +kernel))
 (fun _ _ _ _ _ => (pg_name (i := 5) scLSwap.nd rfl (.inl rfl))) (fun _ _ _ _ _ => pts_nil) (fun _ _ _ _ _ => (pe_ix (ix_tupK K rfl) (pv 5) pe_int (fun _ _ => rfl))))
      (pss_cons (ps_asg (pe_tup (pa_cons (pe_ix (ix_listK K rfl) (pv 4) (pv 3) (fun _ _ => rfl)) (pa_cons (pe_ix (ix_listK K rfl) (pv 4) (pv 2) (fun _ _ => rfl)) pa_nil))) (pg_tup (by rfl) (pgs_cons (pg_sub (pv 4) (pv 2) set_list) (pgs_cons (pg_sub (pv 4) (pv 3) set_list) pgs_nil))))
      (pss_one (ps_ret (pe_tupleZip rfl rfl (by rfl) T.tuple (by rfl) T.zip (pa_cons (pe_lc (own := [("_law_one", 5)]) (g := gName 5) (by rfl) scLSwap.nd (pi_tupK K rfl (pv 1))
 (blkOk_by (own := [("_law_one", 5)]) (N := nLSwap) (sc := defScope sLSwap) (by decide +kernel))
 (fun _ _ _ _ _ => (pg_name (i := 5) scLSwap.nd rfl (.inl rfl))) (fun _ _ _ _ _ => pts_nil) (fun _ _ _ _ _ => (pe_ix (ix_tupK K rfl) (pv 5) pe_int (fun _ _ => rfl)))) (pa_cons (pv 4) pa_nil))))))))), ?_⟩
    refine ⟨_, rfl, Nat.zero_le _, fun e he => ?_⟩
    have s2 := same_upd (o := .tup []) he
    refine ⟨pld P, .tuple [], (hP.same s2).dp, .tup (SqT.of upd_same) .nil, pld_shaped pl.nams, shaped_tup [], _, rfl, ?_⟩
    rw [eqv_nilT]
    have hS2 := hS.same s2
    have hP2 := hP.same s2
    have fr2 : Fr st SA H (upd H e (.tup [])) := Fr.of s2
    generalize upd H e (.tup []) = H2 at *
    clear s2 he hS
    cases hp : P with
    | nil =>
      exact iteT ⟨_, rfl, q _ p P (hS2.mono (by omega)) fr2 hP2 (fun x hx => ⟨pl.nams x hx, pl.rm x hx⟩) lP⟩
    | cons x0 P0 =>
      rw [← hp]
      have l0 : 0 < P.length := by rw [hp]; exact Nat.succ_pos _
      have hemp : P.isEmpty = false := by rw [hp]; rfl
      rw [hemp]
      clear hp
      refine iteF ?_
      obtain ⟨xs0, sq0, lx0⟩ := hP2.sq' (K := K)
      refine ⟨_, rfl, _, rfl, p, xs0, rfl, .inr sq0, st, SA, SB, c, _, rfl, hS2, by omega, by omega, by omega, fun H3 i hS3 fr3 i0 i1 => ?_⟩
      have hP3 := hP2.fr hS2 fr3
      obtain ⟨xs1, sq1, lx1⟩ := hP3.sq' (K := K)
      refine ⟨_, rfl, _, rfl, p, xs1, rfl, .inr sq1, st, SA, SB, c + 1, _, rfl, hS3, by omega, by omega, by omega, fun H4 j hS4 fr4 j0 j1 => ?_⟩
      have hP4 := hP3.fr hS3 fr4
      have f4 := (fr2.trans fr3).trans fr4
      rw [lx0] at i1
      rw [lx1] at j1
      obtain ⟨ps, p1, p2, p3⟩ := id hP4
      have lps : ps.length = P.length := by rw [p2, List.length_map]
      have rms : ∀ x ∈ P.map (·.2), 0 ≤ x ∧ x < n := fun x hx => by
        obtain ⟨y, hy, rfl⟩ := List.mem_map.mp hx
        exact pl.rm y hy
      refine ⟨_, _, rfl, _, rfl, p, rfl, ⟨_, p1.sq⟩, fun L hL => lc_tup (K := K) (a := p) (xs := ps.map fun q => V.ref q.1) (fun k H' => Same H4 H' ∧ H' L = some (.lst (vi ((P.take k).map (·.2))))) ⟨same_upd hL, upd_same⟩ (fun k H' _ hh => (p1.same hh.1).sq) ?_ ?_⟩
      · rintro k x H' hx ⟨s', e'⟩
        obtain ⟨q', hq, rfl⟩ := get_pl hx
        have hk : P[k]? = some (q'.2.1, q'.2.2) := by rw [p2, List.getElem?_map, hq]; rfl
        refine ⟨rfl, ?_⟩
        unfold tYes
        refine iteT ⟨_, rfl, q'.1, _, _, _, rfl, rfl, SqT.of (s' _ _ (p3 q' (List.mem_of_getElem? hq))), atI1, _, e', ?_, same_put s' hL, ?_⟩
        · rw [List.length_map, List.length_map, List.length_take]
          exact small1000 (by omega)
        · rw [upd_same, take_snoc hk, List.map_append]
          unfold vi
          rw [List.map_append (f := V.int)]
          rfl
      rintro H5 ⟨s5, e5⟩
      rw [List.length_map, lps, List.take_length] at e5
      have hS5 := hS4.same s5
      have f5 := f4.trans (Fr.of s5)
      have hP5 := hP4.same s5
      have zL := hS4.ne hL
      have gL := f4.free hS4 hL
      clear s5 hL sq0 sq1 hP2 hP3 hP4 hS2 hS3 hS4 fr2 fr3 fr4 f4 p1 p3 p2 hP
      have lr : (P.map (·.2)).length = P.length := List.length_map _
      obtain ⟨a, ha, ea⟩ := atI_in (xs := P.map (·.2)) j0 (by rw [lr]; exact j1)
      obtain ⟨b, hb, eb⟩ := atI_in (xs := P.map (·.2)) i0 (by rw [lr]; exact i1)
      have lv : (vi (P.map (·.2))).length = P.length := by rw [List.length_map]; exact lr
      -- exchanged
      refine ⟨_, rfl, _, rfl, L, _, _, _, rfl, rfl, SqL.of e5, ea, _, rfl, _, rfl, L, _, _, _, rfl, rfl, SqL.of e5, eb, by show 2 ≤ sizeLine; decide, fun t ht => ⟨t, _, rfl, SqT.of upd_same, rfl, _, _, rfl, ?_⟩⟩
      have s6 := same_upd (o := .tup [.int a, .int b]) ht
      have e6 := s6 _ _ e5
      refine ⟨_, rfl, _, rfl, L, _, _, i.toNat, rfl, rfl, e6, ixN_to i0 (by rw [lv]; exact i1), ?_⟩
      refine ⟨_, _, rfl, _, rfl, _, rfl, L, _, _, j.toNat, rfl, rfl, upd_same, ixN_to j0 (by rw [List.length_set, lv]; exact j1), rfl, ?_⟩
      rw [upd_upd, vi_set, vi_set]
      have lR : (((P.map (·.2)).set i.toNat a).set j.toNat b).length = P.length := by rw [List.length_set, List.length_set, lr]
      have rin : ∀ x ∈ ((P.map (·.2)).set i.toNat a).set j.toNat b, x ∈ P.map (·.2) := swap_in hb ha
      generalize ((P.map (·.2)).set i.toNat a).set j.toNat b = R at *
      have hS7 := (hS5.same s6).put (o := .lst (vi R)) zL
      have f7 := (f5.trans (Fr.of s6)).put (o := .lst (vi R)) gL
      have hP7 : PlAt (upd (upd H5 t (.tup [.int a, .int b])) L (.lst (vi R))) p P := hP5.tk ((Tk.of s6).put e6)
      have eL : (upd (upd H5 t (.tup [.int a, .int b])) L (.lst (vi R))) L = some (.lst (vi R)) := upd_same
      generalize upd (upd H5 t (.tup [.int a, .int b])) L (.lst (vi R)) = H7 at *
      clear s6 e6 e5 hS5 f5 hP5 ht zL gL ea eb ha hb
      obtain ⟨ps, p1, p2, p3⟩ := id hP7
      have lps : ps.length = P.length := by rw [p2, List.length_map]
      refine ⟨_, rfl, p, rfl, ⟨_, p1.sq⟩, fun N hN => lc_tup (K := K) (a := p) (xs := ps.map fun q => V.ref q.1) (fun k H' => Same H7 H' ∧ H' N = some (.lst (((P.take k).map (·.1)).map V.str))) ⟨same_upd hN, upd_same⟩ (fun k H' _ hh => (p1.same hh.1).sq) ?_ ?_⟩
      · rintro k x H' hx ⟨s', e'⟩
        obtain ⟨q', hq, rfl⟩ := get_pl hx
        have hk : P[k]? = some (q'.2.1, q'.2.2) := by rw [p2, List.getElem?_map, hq]; rfl
        refine ⟨rfl, ?_⟩
        unfold tYes
        refine iteT ⟨_, rfl, q'.1, _, _, _, rfl, rfl, SqT.of (s' _ _ (p3 q' (List.mem_of_getElem? hq))), atI0, _, e', ?_, same_put s' hN, ?_⟩
        · rw [List.length_map, List.length_map, List.length_take]
          exact small1000 (by omega)
        · rw [upd_same, names_snoc hk, vs_app]
          rfl
      rintro H8 ⟨s8, e8⟩
      rw [List.length_map, lps, List.take_length] at e8
      have ln : (P.map (·.1)).length = R.length := by rw [lR, List.length_map]
      refine ⟨_, rfl, N, L, _, _, rfl, SqL.of e8, SqL.of (s8 _ _ eL), by rw [List.length_map, List.length_map, List.length_map, lR], by rw [List.length_map, List.length_map]; omega, fun H9 l zs s9 ez az hl => ?_⟩
      have s10 := s8.trans (s9.trans (same_upd (o := .tup (zs.map fun z => V.ref z.1)) hl))
      refine q _ l ((P.map (·.1)).zip R) (hS7.same s10) (f7.trans (Fr.of s10)) (PlAt.zip ln ez (fun z hz => (same_upd hl) _ _ (az z hz)) upd_same) (fun x hx => ?_) (by rw [List.length_zip]; omega)
      obtain ⟨m1, m2⟩ := List.of_mem_zip hx
      obtain ⟨y, hy, e⟩ := List.mem_map.mp m1
      refine ⟨by rw [← e]; exact pl.nams y hy, rms _ (rin _ m2)⟩
end
end Fw
namespace Fw
open PySem PySem.Spec PyProof.Rows L2
set_option maxHeartbeats 8000000
theorem cut_dxa {K : PySem.W.Frag} {av : List Addr} {H : Hp} {xs : List V} {ds : List PyData} {b k m : Nat} (h : DxAll K av H xs ds) (g : GdA b k m ds) (x y : Option Int) : ∃ ds', DxAll K av H (cutV xs x y) ds' ∧ GdA b k m ds' ∧ (cutV xs x y).length ≤ xs.length := by
  unfold cutV
  refine ⟨_, (h.drop _).take _, (g.drop _).take _, ?_⟩
  rw [List.length_take, List.length_drop]
  omega
structure W12 (H : Hp) (h p t u : Addr) (n : Int) (D : List (Int × Int)) (PP ms P' : List (Str × Int)) : Prop where
  hH : HouseAt H h n D
  hP : PlD H p PP
  hX : PlD H t ms
  hT : PlD H u P'
theorem W12.same {H H' : Hp} {h p t u : Addr} {n : Int} {D : List (Int × Int)} {PP ms P' : List (Str × Int)} (x : W12 H h p t u n D PP ms P') (s : Same H H') : W12 H' h p t u n D PP ms P' := ⟨x.hH.same s, x.hP.same s, x.hX.same s, x.hT.same s⟩
theorem W12.fr {H H' : Hp} {h p t u s A B : Addr} {c : Nat} {n : Int} {D : List (Int × Int)} {PP ms P' : List (Str × Int)} (x : W12 H h p t u n D PP ms P') (hS : StreamAt H s A B c) (f : Fr s A H H') : W12 H' h p t u n D PP ms P' := ⟨x.hH.fr hS f, x.hP.fr hS f, x.hX.fr hS f, x.hT.fr hS f⟩
theorem DxAll.each {K : PySem.W.Frag} {av : List Addr} {H : Hp} {G : PyData → Prop} {vs : List V} {ds : List PyData} (h : DxAll K av H vs ds) (g : ∀ d ∈ ds, G d) {x : V} (hx : x ∈ vs) : ∃ d, G d ∧ Dx K av H x d := by
  obtain ⟨i, lt, e⟩ := List.mem_iff_getElem.mp hx
  obtain ⟨d, ed, h1⟩ := h.at (i := i) (x := x) (by rw [List.getElem?_eq_getElem lt, e])
  exact ⟨d, g d (List.mem_of_getElem? ed), h1⟩
section
variable {P : Program} {w : World} {K : PySem.W.Frag} {mg : Str → Option Value} {base : Heap}
def spLaw (K : PySem.W.Frag) : Sp := fun vs H Q _ => ∃ (a : Addr) (ns : List Int), vs = [.ref a] ∧ SqL K H a (vi ns) ∧ ns.length ≤ 63 ∧ ∀ H', Q (.bl true) H'
abbrev nLaw : List Str := ["_law_script", "_law_stream_here", "_law_turn", "_law_house_here", "_law_placement_here", "_law_done", "_law_there", "_law_some", "_law_target_here", "_law_value", "_law_held", "_law_expected", "_law_again", "_law_found"]
theorem scLaw : FnScope nLaw ["_law_script"] (defScope sLaw) := ⟨rfl, rfl, rfl, by decide +kernel, rfl, by decide +kernel, by decide +kernel⟩
def Errs (K : PySem.W.Frag) (mg : Str → Option Value) : Prop := ∃ E, HE K mg E ∧ CEE K mg E "UnknownPerson" "UnknownPerson.__init__" "name" iUnknownPerson ∧ CEE K mg E "InvalidRoom" "InvalidRoom.__init__" "room" iInvalidRoom ∧ CEE K mg E "NotAdjacent" "NotAdjacent.__init__" "room" iNotAdjacent ∧ CEE K mg E "EmptyRoom" "EmptyRoom.__init__" "room" iEmptyRoom ∧ CEE K mg E "InvalidMoves" "InvalidMoves.__init__" "position" iInvalidMoves
/-- the defs of the text -/
structure All (K : PySem.W.Frag) (mg : Str → Option Value) : Prop where
  T : Nm mg
  dict : mg "dict" = none
  enumerate : mg "enumerate" = none
  er : Errs K mg
  dis_integer : DefE K mg "is_integer" sIsInt ["value"]
  dis_pair : DefE K mg "is_pair" sIsPair ["value"]
  dis_room : DefE K mg "is_room" sIsRoom ["house", "value"]
  dneighbors : DefE K mg "neighbors" sNb ["house", "room"]
  droom_of : DefE K mg "room_of" sRoomOf ["placement", "name"]
  dwith_person_in : DefE K mg "with_person_in" sWith ["placement", "name", "room"]
  dpeople_in : DefE K mg "people_in" sPIn ["placement", "room"]
  dpeople_within : DefE K mg "people_within" sPWi ["placement", "rooms"]
  dmove_person : DefE K mg "move_person" sMove ["house", "placement", "name", "room"]
  dapply_moves : DefE K mg "apply_moves" sApply ["house", "placement", "moves"]
  dreaches_target : DefE K mg "reaches_target" sReach ["house", "placement", "target", "value"]
  d_law_stream : DefE K mg "_law_stream" sStream ["_law_script"]
  d_law_names : DefE K mg "_law_names" sNames ["_law_stream_here", "_law_many"]
  d_law_draw : DefE K mg "_law_draw" sDraw ["_law_stream_here", "_law_many"]
  d_law_house : DefE K mg "_law_house" sHouse ["_law_stream_here", "_law_least", "_law_most"]
  d_law_placement : DefE K mg "_law_placement" sPl ["_law_stream_here", "_law_house_here", "_law_most"]
  d_law_neighbors : DefE K mg "_law_neighbors" sLNb ["_law_house_here", "_law_room"]
  d_law_connected : DefE K mg "_law_connected" sConn ["_law_house_here", "_law_rooms", "_law_room"]
  d_law_moved : DefE K mg "_law_moved" sLMoved ["_law_placement_here", "_law_name", "_law_room"]
  d_law_moves : DefE K mg "_law_moves" sLMoves ["_law_house_here", "_law_placement_here"]
  d_law_random_walk : DefE K mg "_law_random_walk" sLWalk ["_law_stream_here", "_law_house_here", "_law_placement_here", "_law_many"]
  d_law_target : DefE K mg "_law_target" sLTarget ["_law_stream_here", "_law_house_here", "_law_placement_here"]
  d_law_random_value : DefE K mg "_law_random_value" sRand ["_law_stream_here"]
  d_law_altered : DefE K mg "_law_altered" sAlt ["_law_stream_here", "_law_value"]
  d_law_is_integer : DefE K mg "_law_is_integer" sLInt ["_law_value", "_law_low", "_law_high"]
  d_law_move_expected : DefE K mg "_law_move_expected" sLMoveExp ["_law_house_here", "_law_placement_here", "_law_name", "_law_room"]
  d_law_reaches : DefE K mg "_law_reaches" sLReach ["_law_house_here", "_law_placement_here", "_law_target_here", "_law_value"]
  d_law_swapped : DefE K mg "_law_swapped" sLSwap ["_law_stream_here", "_law_placement_here"]
theorem ok_law {f : Addr} {fd : FuncData} (F : Fun K "law" "law" sLaw f fd) (Z : All K mg) : FnG P w K mg base 7 f fd ["_law_script"] (spLaw K) := by
  have T := Z.T
  obtain ⟨E, hE, eUnknownPerson, eInvalidRoom, eNotAdjacent, eEmptyRoom, eInvalidMoves⟩ := Z.er
  obtain ⟨CUnknownPerson, RUnknownPerson⟩ := er1_UnknownPerson (P := P) (w := w) (base := base) eUnknownPerson
  obtain ⟨CInvalidRoom, RInvalidRoom⟩ := er1_InvalidRoom (P := P) (w := w) (base := base) eInvalidRoom
  obtain ⟨CNotAdjacent, RNotAdjacent⟩ := er1_NotAdjacent (P := P) (w := w) (base := base) eNotAdjacent
  obtain ⟨CEmptyRoom, REmptyRoom⟩ := er1_EmptyRoom (P := P) (w := w) (base := base) eEmptyRoom
  obtain ⟨CInvalidMoves, RInvalidMoves⟩ := er1_InvalidMoves (P := P) (w := w) (base := base) eInvalidMoves
  have Cneighbors : Cal P w K mg base 1 "neighbors" ["house", "room"] spNb := Z.dneighbors.cal fun _ _ d => ok_nb d.F T
  have Cwith_person_in : Cal P w K mg base 1 "with_person_in" ["placement", "name", "room"] spWith := Z.dwith_person_in.cal fun _ _ d => ok_with d.F T
  have Cpeople_within : Cal P w K mg base 1 "people_within" ["placement", "rooms"] (spPWi K) := Z.dpeople_within.cal fun _ _ d => ok_pwi d.F T
  have Cpeople_in : Cal P w K mg base 2 "people_in" ["placement", "room"] spPIn := Z.dpeople_in.cal fun _ _ d => ok_pin d.F T (Cpeople_within.up (by decide))
  have C_law_stream : Cal P w K mg base 1 "_law_stream" ["_law_script"] (spStream K) := Z.d_law_stream.cal fun _ _ d => ok_stream d.F T
  have C_law_draw : Cal P w K mg base 1 "_law_draw" ["_law_stream_here", "_law_many"] spDraw := Z.d_law_draw.cal fun _ _ d => ok_draw d.F T
  have C_law_house : Cal P w K mg base 2 "_law_house" ["_law_stream_here", "_law_least", "_law_most"] spHouse := Z.d_law_house.cal fun _ _ d => by
    obtain ⟨af2, bf2, f2⟩ := Z.d_law_draw
    exact ok_house d.F T f2
  have C_law_names : Cal P w K mg base 2 "_law_names" ["_law_stream_here", "_law_many"] spNames := Z.d_law_names.cal fun _ _ d => ok_names d.F T (C_law_draw.up (by decide))
  have C_law_placement : Cal P w K mg base 3 "_law_placement" ["_law_stream_here", "_law_house_here", "_law_most"] spPl := Z.d_law_placement.cal fun _ _ d => ok_pl d.F T (C_law_draw.up (by decide)) (C_law_names.up (by decide))
  have C_law_neighbors : Cal P w K mg base 1 "_law_neighbors" ["_law_house_here", "_law_room"] spLNb := Z.d_law_neighbors.cal fun _ _ d => ok_lnb d.F T
  have C_law_moved : Cal P w K mg base 1 "_law_moved" ["_law_placement_here", "_law_name", "_law_room"] spLMoved := Z.d_law_moved.cal fun _ _ d => ok_lmoved d.F T
  have C_law_moves : Cal P w K mg base 2 "_law_moves" ["_law_house_here", "_law_placement_here"] spLMoves := Z.d_law_moves.cal fun _ _ d => ok_lmoves d.F T (C_law_neighbors.up (by decide))
  have C_law_random_walk : Cal P w K mg base 3 "_law_random_walk" ["_law_stream_here", "_law_house_here", "_law_placement_here", "_law_many"] spLWalk := Z.d_law_random_walk.cal fun _ _ d => ok_lwalk d.F T (C_law_draw.up (by decide)) (C_law_moves.up (by decide)) (C_law_moved.up (by decide))
  have C_law_connected : Cal P w K mg base 2 "_law_connected" ["_law_house_here", "_law_rooms", "_law_room"] (spConn K) := Z.d_law_connected.cal fun _ _ d => by
    obtain ⟨af2, bf2, f2⟩ := Z.d_law_neighbors
    exact ok_conn d.F T f2
  have C_law_target : Cal P w K mg base 4 "_law_target" ["_law_stream_here", "_law_house_here", "_law_placement_here"] spLTarget := Z.d_law_target.cal fun _ _ d => ok_ltarget d.F T Z.dict (C_law_draw.up (by decide)) (C_law_random_walk.up (by decide)) (C_law_connected.up (by decide)) (C_law_neighbors.up (by decide))
  have C_law_random_value : Cal P w K mg base 2 "_law_random_value" ["_law_stream_here"] (spRandX K) := Z.d_law_random_value.cal fun _ _ d => by
    obtain ⟨af2, bf2, f2⟩ := Z.d_law_draw
    exact ok_randX d.F T f2
  have eiM : ErH P w K mg base "position" CInvalidMoves := erh_InvalidMoves eInvalidMoves RInvalidMoves.r.g
  have CroomN : CalN P w K mg base 3 "room_of" pRoomOf (spRoomAny K CUnknownPerson) := Z.droom_of.calN fun _ _ d => ok_roomN d.F RUnknownPerson.r
  have CnumA : Cal P w K mg base 1 "is_integer" pIsInt (spIsNum K) := Z.dis_integer.cal fun _ _ d => ok_isnum d.F T
  have CroomA : Cal P w K mg base 2 "is_room" pIsRoom (spIsRoomA K) := Z.dis_room.cal fun _ _ d => ok_isrooma d.F T CnumA
  have CpairA : Cal P w K mg base 1 "is_pair" pIsInt (spIsPairA K) := Z.dis_pair.cal fun _ _ d => ok_ispaira d.F T
  have CmoveN : CalN P w K mg base 4 "move_person" pMove (spMoveN K [CUnknownPerson, CInvalidRoom, CNotAdjacent, CEmptyRoom]) := Z.dmove_person.calN fun _ _ d => ok_moveN (E0 := E) (E1 := E) (E2 := E) (E3 := E) d.F T CroomN (CroomA.up (by decide)) (Cneighbors.up (by decide)) (Cpeople_in.up (by decide)) (Cwith_person_in.up (by decide)) RInvalidRoom.r RNotAdjacent.r REmptyRoom.r
  have Capply_moves : CalX P w K mg base 5 "apply_moves" pApply (spApplyA K CInvalidMoves) := Z.dapply_moves.calX fun _ _ d => ok_applya d.F T Z.enumerate hE (fun c hc => by
    simp only [List.mem_cons, List.not_mem_nil, or_false] at hc
    rcases hc with rfl | rfl | rfl | rfl
    · exact RUnknownPerson.r.mro
    · exact RInvalidRoom.r.mro
    · exact RNotAdjacent.r.mro
    · exact REmptyRoom.r.mro) (by simp) (CpairA.up (by decide)) CmoveN RInvalidMoves.r eiM
  have Creaches_target : Cal P w K mg base 6 "reaches_target" pReach (spReach K) := Z.dreaches_target.cal fun _ _ d => ok_reach d.F Capply_moves RInvalidMoves.r
  have ClintA : Cal P w K mg base 1 "_law_is_integer" ["_law_value", "_law_low", "_law_high"] (spLIntA K) := Z.d_law_is_integer.cal fun _ _ d => ok_linta d.F T
  have C_law_move_expected : Cal P w K mg base 2 "_law_move_expected" ["_law_house_here", "_law_placement_here", "_law_name", "_law_room"] (spMAns K) := Z.d_law_move_expected.cal fun _ _ d => ok_lmexp d.F T Z.dict ClintA (C_law_neighbors.up (by decide))
  have C_law_reaches : Cal P w K mg base 3 "_law_reaches" pLReach (spLReach K) := Z.d_law_reaches.cal fun _ _ d => ok_lreach d.F T C_law_move_expected (C_law_moved.up (by decide))
  have C_law_altered : Cal P w K mg base 5 "_law_altered" pAlt (spAlt K 2) := cal_alt Z.d_law_altered T C_law_draw C_law_random_value 2
  have C_law_swapped : Cal P w K mg base 2 "_law_swapped" pLSwap spSwap := Z.d_law_swapped.cal fun _ _ d => ok_lswap d.F T C_law_draw
  refine Fun.okG F scLaw (fun vs H Q E h => ?_) (fun cdv A outer s H vs Q gd hr h => ?_)
  · obtain ⟨a, ns, rfl, _⟩ := h
    rfl
  · obtain ⟨a, ns, rfl, hS, hlen, q⟩ := h
    refine ⟨_, (pss_cons (ps_set (i := 1) scLaw.nd rfl (.inl rfl) (pe_cal C_law_stream (hr.mono (by decide)) (by rfl) (pa_cons (pv 0) pa_nil)))
      (pss_cons (ps_for PassesOwn.never rfl (pi_range1 (by rfl) T.range (pa_cons pe_int pa_nil)) (pg_name (i := 2) scLaw.nd rfl (.inl rfl))
      (pss_cons (ps_set (i := 3) scLaw.nd rfl (.inl rfl) (pe_cal C_law_house (hr.mono (by decide)) (by rfl) (pa_cons (pv 1) (pa_cons pe_int (pa_cons pe_int pa_nil)))))
       (pss_cons (ps_set (i := 4) scLaw.nd rfl (.inl rfl) (pe_cal C_law_placement (hr.mono (by decide)) (by rfl) (pa_cons (pv 1) (pa_cons (pv 3) (pa_cons pe_int pa_nil)))))
       (pss_cons (ps_asg (pe_cal C_law_random_walk (hr.mono (by decide)) (by rfl) (pa_cons (pv 1) (pa_cons (pv 3) (pa_cons (pv 4) (pa_cons (pe_cal C_law_draw (hr.mono (by decide)) (by rfl) (pa_cons (pv 1) (pa_cons pe_int pa_nil))) pa_nil))))) (pg_lst (by rfl) (pgs_cons (pg_name (i := 5) scLaw.nd rfl (.inl rfl)) (pgs_cons (pg_name (i := 6) scLaw.nd rfl (.inl rfl)) pgs_nil))))
       (pss_cons (ps_set (i := 7) scLaw.nd rfl (.inl rfl) (pe_lst (pa_cons (pv 5) (pa_cons (pe_tup pa_nil) (pa_cons (pe_slice sl_tupS (pv 5) (po_some pe_int) po_none) (pa_cons (pe_slice sl_tupS (pv 5) po_none (po_some (pe_un un_neg pe_int))) (pa_cons (pe_revT (pv 5)) (pa_cons (pe_callTy call_listN (by rfl) T.list (by decide +kernel) (pa_cons (pv 5) pa_nil)) (pa_cons (pe_cal C_law_random_value (hr.mono (by decide)) (by rfl) (pa_cons (pv 1) pa_nil)) (pa_cons (pe_op op_catS (pv 5) (pe_slice sl_tupS (pv 5) (po_some (pe_un un_neg pe_int)) po_none)) pa_nil))))))))))
       (pss_cons (ps_set (i := 7) scLaw.nd rfl (.inl rfl) (pe_op op_cat (pv 7) (pe_lst (pa_cons (pe_cal C_law_altered (hr.mono (by decide)) (by rfl) (pa_cons (pv 1) (pa_cons (pv 5) pa_nil))) (pa_cons (pe_cal C_law_altered (hr.mono (by decide)) (by rfl) (pa_cons (pv 1) (pa_cons (pv 5) pa_nil))) pa_nil)))))
       (pss_one (ps_for PassesOwn.never rfl (pi_listK K rfl (pe_lst (pa_cons (pv 6) (pa_cons (pe_cal C_law_target (hr.mono (by decide)) (by rfl) (pa_cons (pv 1) (pa_cons (pv 3) (pa_cons (pv 4) pa_nil)))) (pa_cons (pe_cal C_law_swapped (hr.mono (by decide)) (by rfl) (pa_cons (pv 1) (pa_cons (pv 6) pa_nil))) (pa_cons (pv 4) pa_nil)))))) (pg_name (i := 8) scLaw.nd rfl (.inl rfl))
       (pss_one (ps_for PassesOwn.never rfl (pi_listK K rfl (pv 7)) (pg_name (i := 9) scLaw.nd rfl (.inl rfl))
        (pss_cons (ps_set (i := 10) scLaw.nd rfl (.inl rfl) (pe_callB (call_reprD (av := []) gd (units65 hr)) (by rfl) T.repr (by decide +kernel) (pa_cons (pe_lstN (pa_cons (pv 3) (pa_cons (pv 4) (pa_cons (pv 8) (pa_cons (pv 9) pa_nil))))) pa_nil)))
         (pss_cons (ps_set (i := 11) scLaw.nd rfl (.inl rfl) (pe_cal C_law_reaches (hr.mono (by decide)) (by rfl) (pa_cons (pv 3) (pa_cons (pv 4) (pa_cons (pv 8) (pa_cons (pv 9) pa_nil))))))
         (pss_cons (ps_for PassesOwn.never rfl (pi_range1 (by rfl) T.range (pa_cons pe_int pa_nil)) (pg_name (i := 12) scLaw.nd rfl (.inl rfl))
         (pss_cons (ps_set (i := 13) scLaw.nd rfl (.inl rfl) (pe_cal Creaches_target (hr.mono (by decide)) (by rfl) (pa_cons (pv 3) (pa_cons (pv 4) (pa_cons (pv 8) (pa_cons (pv 9) pa_nil))))))
          (pss_one (ps_if (PW.pt (pw_or (pt_not (pt_val (pe_callB (call_isD (av := [])) (by rfl) T.isinstance (by decide +kernel) (pa_cons (pv 13) (pa_cons (pe_bltn (v := .ty "bool") (by rfl) T.bool (by decide +kernel) rfl) pa_nil))))) (pw_or1 (pt_cmpR op_ne (pv 13) (pv 11) (nomark _)))))
          pss_never
          pss_nil))))
         (pss_one (ps_if (pt_cmpR op_ne (pe_callB (call_reprD (av := []) gd (units65 hr)) (by rfl) T.repr (by decide +kernel) (pa_cons (pe_lstN (pa_cons (pv 3) (pa_cons (pv 4) (pa_cons (pv 8) (pa_cons (pv 9) pa_nil))))) pa_nil)) (pv 10) (nomark _))
         pss_never
         pss_nil)))))))))))))))
      (pss_one (ps_ret pe_bl)))), ?_⟩
    refine ⟨_, rfl, a, ns, rfl, hS, hlen, fun H1 s1 A1 B1 sm1 _ _ hS1 => ?_⟩
    refine ⟨4, rfl, by decide, by decide, for_range (lo := 0) (n := 4) (fun i σ H' => ∃ y2 y3 y4 y5 y6 y7 y8 y9 y10 y11 y12 y13, σ = [some (.ref a), some (.ref s1), y2, y3, y4, y5, y6, y7, y8, y9, y10, y11, y12, y13] ∧ StreamAt H' s1 A1 B1 (300 * i)) ⟨_, _, _, _, _, _, _, _, _, _, _, _, rfl, hS1⟩ ?_ ?_⟩
    · rintro i σ H2 hi ⟨y2, y3, y4, y5, y6, y7, y8, y9, y10, y11, y12, y13, rfl, hS2⟩
      refine ⟨_, rfl, s1, A1, B1, 300 * i, 1, 8, rfl, hS2, by omega, by decide, by decide, by decide, fun H3 h n D hS3 fr3 hH3 hF n0 n1 => ?_⟩
      refine ⟨_, rfl, _, rfl, s1, A1, B1, h, 300 * i + 40, n, D, 12, rfl, hS3, by omega, hH3, n0, n1, by decide, by decide, fun H4 p PP hS4 fr4 hP4 pl lP => ?_⟩
      have lP : PP.length ≤ 12 := lP
      have hH4 := hH3.fr hS3 fr4
      have nn : (0 : Int) ≤ n := by omega
      refine ⟨_, rfl, _, rfl, _, rfl, _, rfl, s1, A1, B1, _, 31, rfl, hS4, by omega, by decide, by decide, fun H5 m hS5 fr5 m0 m1 => ?_⟩
      have hH5 := hH4.fr hS4 fr5
      have hP5 := hP4.fr hS4 fr5
      refine ⟨s1, A1, B1, h, p, _, n, D, PP, m, rfl, hS5, by omega, hH5, hF, n1, hP5, pl, lP, m0, by omega, fun H6 l t u ms P' hS6 fr6 el hX hT wlk lm => ⟨l, _, rfl, SqL.of el, rfl, _, _, rfl, _, _, rfl, rfl, ?_⟩⟩
      obtain ⟨pl', lP', _, _, nX⟩ := wlk.keep pl
      have gX : ∀ x ∈ ms, Nam x.1 ∧ 0 ≤ x.2 ∧ x.2 ≤ 100 := fun x hx => ⟨(nX x hx).1, (nX x hx).2.1, by have := (nX x hx).2.2; omega⟩
      have lX : ms.length ≤ 30 := by omega
      have gA := pps_gd gX
      have W6 : W12 H6 h p t u n D PP ms P' := ⟨hH5.fr hS5 fr6, hP5.fr hS5 fr6, hX, hT⟩
      have hS6 : StreamAt H6 s1 A1 B1 (300 * i + 135) := hS6.mono (by omega)
      clear hH3 hH4 hH5 hP4 hP5 fr3 fr4 fr5 fr6 hS3 hS4 hS5 hS2 el hX hT wlk nX
      have big : ∀ {x : Nat}, x ≤ 1000 → x ≤ sizeLine := fun h => Nat.le_of_lt (small1000 h)
      -- the values
      refine ⟨_, rfl, Nat.zero_le _, fun e0 he0 => ?_⟩
      have t0 := same_upd (o := .tup []) he0
      have ee : (upd H6 e0 (.tup [])) e0 = some (.tup []) := upd_same
      have W7 := W6.same t0
      have hS7 := hS6.same t0
      generalize upd H6 e0 (.tup []) = H7 at *
      clear W6 hS6 t0 he0
      obtain ⟨xs, sq, da, lx⟩ := W7.hX.pl.dxv (K := K) (av := [s1, A1])
      obtain ⟨d3, c3, g3, l3⟩ := cut_dxa da gA (some 1) none
      refine ⟨_, rfl, _, rfl, t, xs, rfl, sq, fun J1 p3 t1 e3 => ?_⟩
      obtain ⟨d4, c4, g4, l4⟩ := cut_dxa da gA none (some (-1))
      refine ⟨_, rfl, _, rfl, _, rfl, t, xs, rfl, sqT_sm t1 sq, fun J2 p4 t2 e4 => ?_⟩
      refine ⟨_, rfl, t, xs, rfl, sqT_sm (t1.trans t2) sq, fun p5 h5 => ?_⟩
      have t3 := same_upd (o := .tup xs.reverse) h5
      have e5 : (upd J2 p5 (.tup xs.reverse)) p5 = some (.tup xs.reverse) := upd_same
      generalize upd J2 p5 (.tup xs.reverse) = J3 at *
      have T3 := t1.trans (t2.trans t3)
      have hS8 := hS7.same T3
      refine ⟨_, rfl, t, xs, rfl, sqT_sm T3 sq, fun l6 h6 n6 => ?_⟩
      have z6 := hS8.ne h6
      have t4 := same_upd (o := .lst xs) h6
      have e6 : (upd J3 l6 (.lst xs)) l6 = some (.lst xs) := upd_same
      generalize upd J3 l6 (.lst xs) = J4 at *
      have T4 := T3.trans t4
      have hS9 := hS8.same t4
      have W9 := W7.same T4
      have ee := T4 _ _ ee
      have da4 := dxA_sm T4 da
      have all1 : DxAll K [s1, A1] J4 [.ref t, .ref e0, .ref p3, .ref p4, .ref p5, .ref l6] [.tuple (ms.map pp), .tuple [], .tuple d3, .tuple d4, .tuple (ms.map pp).reverse, .list (ms.map pp)] :=
        .cons (.tup (sqT_sm T4 sq) da4) (.cons (.tup (SqT.of ee) .nil) (.cons (.tup (sqT_sm (t2.trans (t3.trans t4)) e3) (dxA_sm T4 c3)) (.cons (.tup (sqT_sm (t3.trans t4) e4) (dxA_sm T4 c4)) (.cons (.tup (SqT.of (t4 _ _ e5)) da4.rev) (.cons (.lst (SqL.of e6) (by simp [n6, z6.1.symm, z6.2.1.symm]) da4) .nil)))))
      clear hS8 T3 t1 t2 t3 t4 e3 e4 e5 e6 h5 h6 z6 c3 c4 da4 hS7 W7 T4 sq da ee n6
      refine ⟨_, rfl, s1, A1, B1, _, rfl, hS9, by omega, fun H8 v7 d7 hS10 fr10 m7 x7 => ?_⟩
      have W10 := W9.fr hS9 fr10
      have all2 := dxA_fr hS9 fr10 all1
      clear all1 W9 hS9 fr10
      obtain ⟨xs, sq, da, lx⟩ := W10.hX.pl.dxv (K := K) (av := [s1, A1])
      obtain ⟨d8, c8, g8, l8⟩ := cut_dxa da gA (some (-1)) none
      refine ⟨_, rfl, _, rfl, _, rfl, _, rfl, t, xs, rfl, sq, fun J5 p8 t1 e8 => ⟨t, p8, xs, _, rfl, rfl, sqT_sm t1 sq, e8, big (by omega), fun J6 w8 t2 ew8 => ⟨by show 8 ≤ sizeLine; decide, fun V0 hV0 => ?_⟩⟩⟩
      have T2 := t1.trans t2
      have hS11 := hS10.same T2
      have zV := hS11.ne hV0
      have t3 := same_upd (o := .lst [.ref t, .ref e0, .ref p3, .ref p4, .ref p5, .ref l6, v7, .ref w8]) hV0
      have eV : (upd J6 V0 (.lst [.ref t, .ref e0, .ref p3, .ref p4, .ref p5, .ref l6, v7, .ref w8])) V0 = some (.lst [.ref t, .ref e0, .ref p3, .ref p4, .ref p5, .ref l6, v7, .ref w8]) := upd_same
      generalize upd J6 V0 (.lst [.ref t, .ref e0, .ref p3, .ref p4, .ref p5, .ref l6, v7, .ref w8]) = J7 at *
      have T3 := T2.trans t3
      have hS12 := hS11.same t3
      have W12 := W10.same T3
      have all3 : DxAll K [s1, A1] J7 ([.ref t, .ref e0, .ref p3, .ref p4, .ref p5, .ref l6] ++ [v7, .ref w8]) ([.tuple (ms.map pp), .tuple [], .tuple d3, .tuple d4, .tuple (ms.map pp).reverse, .list (ms.map pp)] ++ [d7, .tuple (ms.map pp ++ d8)]) :=
        (dxA_sm T3 all2).app (.cons (dx_sm T3 x7) (.cons (.tup (sqT_sm t3 ew8) (dxA_sm T3 (da.app c8))) .nil))
      clear hS10 hS11 W10 all2 x7 da c8 sq e8 ew8 t1 t2 t3 T2 T3 hV0
      -- two bent ones
      have gM : Gd 0 2 (11 * ms.length) (.tuple (ms.map pp)) := Gd.tup gA
      refine ⟨_, rfl, _, rfl, _, rfl, s1, A1, B1, _, .ref t, .tuple (ms.map pp), 0, 11 * ms.length, rfl, hS12, by omega, W12.hX.pl.dxa, gM, by omega, fun H9 v9 d9 hS13 fr13 x9 g9 => ?_⟩
      have W13 := W12.fr hS12 fr13
      have all4 := dxA_fr hS12 fr13 all3
      have eV := fr13 _ _ zV.1.symm zV.2.1.symm eV
      clear all3 W12 hS12 fr13
      refine ⟨_, rfl, _, rfl, s1, A1, B1, _, .ref t, .tuple (ms.map pp), 0, 11 * ms.length, rfl, hS13, by omega, W13.hX.pl.dxa, gM, by omega, fun H10 v10 d10 hS14 fr14 x10 g10 => ?_⟩
      have W14 := W13.fr hS13 fr14
      have all5 := (dxA_fr hS13 fr14 all4).app (.cons (dx_fr hS13 fr14 x9) (.cons x10 .nil))
      have eV := fr14 _ _ zV.1.symm zV.2.1.symm eV
      clear all4 W13 hS13 fr14 x9 x10
      refine ⟨by show 2 ≤ sizeLine; decide, fun W0 hW0 => ⟨V0, W0, _, _, rfl, rfl, same_upd hW0 _ _ eV, upd_same, big (by show 10 ≤ 1000; decide), fun V1 hV1 => ?_⟩⟩
      have T5 := (same_upd (o := .lst [v9, v10]) hW0).trans (same_upd (o := .lst ([.ref t, .ref e0, .ref p3, .ref p4, .ref p5, .ref l6, v7, .ref w8] ++ [v9, v10])) hV1)
      have eV1 : (upd (upd H10 W0 (.lst [v9, v10])) V1 (.lst ([.ref t, .ref e0, .ref p3, .ref p4, .ref p5, .ref l6, v7, .ref w8] ++ [v9, v10]))) V1 = some (.lst ([.ref t, .ref e0, .ref p3, .ref p4, .ref p5, .ref l6, v7, .ref w8] ++ [v9, v10])) := upd_same
      have hS14' := hS14.same (same_upd (o := .lst [v9, v10]) hW0)
      have zV1 := hS14'.ne hV1
      have hS15 := hS14.same T5
      have W15 := W14.same T5
      have all6 := dxA_sm T5 all5
      generalize upd (upd H10 W0 (.lst [v9, v10])) V1 (.lst ([.ref t, .ref e0, .ref p3, .ref p4, .ref p5, .ref l6, v7, .ref w8] ++ [v9, v10])) = H11 at *
      have each : ∀ {x : V} {J : Hp}, Fr s1 A1 H11 J → x ∈ ([.ref t, .ref e0, .ref p3, .ref p4, .ref p5, .ref l6, v7, .ref w8] ++ [v9, v10] : List V) → ∃ d, Gd 9 6 1100 d ∧ Dx K [] J x d := fun {x J} fJ hx => by
        refine (dx_nilAll (dxA_fr hS15 fJ all6)).each (fun dd hd => ?_) hx
        simp only [List.cons_append, List.nil_append, List.mem_cons, List.not_mem_nil, or_false] at hd
        rcases hd with rfl | rfl | rfl | rfl | rfl | rfl | rfl | rfl | rfl | rfl
        · exact (Gd.tup gA).up (by omega) (by omega) (by omega)
        · exact (Gd.tup (GdA.nil (b := 0) (k := 0) (n := 0))).up (by omega) (by omega) (by omega)
        · exact (Gd.tup g3).up (by omega) (by omega) (by omega)
        · exact (Gd.tup g4).up (by omega) (by omega) (by omega)
        · exact (Gd.tup gA.rev).up (by omega) (by omega) (by omega)
        · exact (Gd.lst gA).up (by omega) (by omega) (by omega)
        · exact (gd_data m7).up (by omega) (by omega) (by omega)
        · exact (Gd.tup (GdA.app g8 gA)).up (by omega) (by omega) (by omega)
        · exact g9.up (by omega) (by omega) (by omega)
        · exact g10.up (by omega) (by omega) (by omega)
      generalize [V.ref t, V.ref e0, V.ref p3, V.ref p4, V.ref p5, V.ref l6, v7, V.ref w8] ++ [v9, v10] = vs at *
      clear T5 hV1 hW0 hS14 hS14' W14 all5 all6 eV zV m7 g3 g4 g8 g9 g10
      -- the targets
      refine ⟨_, rfl, _, rfl, _, rfl, _, rfl, s1, A1, B1, h, p, _, n, D, PP, rfl, hS15, by omega, W15.hH, hF, n0, n1, W15.hP, pl, lP, fun H12 g G hS16 fr16 hG plG eG => ?_⟩
      have W16 := W15.fr hS15 fr16
      have eV2 := fr16 _ _ zV1.1.symm zV1.2.1.symm eV1
      refine ⟨_, rfl, _, rfl, s1, A1, B1, u, _, n, P', rfl, hS16, by omega, W16.hT.pl, pl', by omega, fun H13 g2 G2 hS17 fr17 hG2 gG2 lG2 => ?_⟩
      have W17 := W16.fr hS16 fr17
      have eV3 := fr17 _ _ zV1.1.symm zV1.2.1.symm eV2
      have hG3 := hG.fr hS16 fr17
      have lG : G.length = PP.length := by
        have := congrArg List.length eG
        rw [List.length_map, List.length_map] at this
        exact this
      have each : ∀ {x : V} {J : Hp}, Same H13 J → x ∈ vs → ∃ d, Gd 9 6 1100 d ∧ Dx K [] J x d := fun sJ hx => each ((fr16.trans fr17).trans (Fr.of sJ)) hx
      clear hS16 hS15 fr16 fr17 W16 W15 eV1 eV2 zV1 hG
      refine ⟨_, rfl, by show 4 ≤ sizeLine; decide, fun L hL => ?_⟩
      have sL := same_upd (o := .lst [.ref u, .ref g, .ref g2, .ref p]) hL
      have eL : (upd H13 L (.lst [.ref u, .ref g, .ref g2, .ref p])) L = some (.lst [.ref u, .ref g, .ref g2, .ref p]) := upd_same
      have W := W17.same sL
      have hS := hS17.same sL
      have goals : ∀ x ∈ ([.ref u, .ref g, .ref g2, .ref p] : List V), ∃ (gg : Addr) (GG : List (Str × Int)), x = .ref gg ∧ PlAt (upd H13 L (.lst [.ref u, .ref g, .ref g2, .ref p])) gg GG ∧ (∀ x ∈ GG, Nam x.1 ∧ 0 ≤ x.2 ∧ x.2 ≤ 100) ∧ GG.length ≤ 12 := fun x hx => by
        simp only [List.mem_cons, List.not_mem_nil, or_false] at hx
        rcases hx with rfl | rfl | rfl | rfl
        · exact ⟨_, _, rfl, W.hT.pl, pl'.small n1, by omega⟩
        · exact ⟨_, _, rfl, hG3.pl.same sL, plG.small n1, by omega⟩
        · exact ⟨_, _, rfl, hG2.same sL, fun x hx => ⟨(gG2 x hx).1, (gG2 x hx).2.1, by have := (gG2 x hx).2.2; omega⟩, lG2⟩
        · exact ⟨_, _, rfl, W.hP.pl, pl.small n1, lP⟩
      have each : ∀ {x : V} {J : Hp}, Same (upd H13 L (.lst [.ref u, .ref g, .ref g2, .ref p])) J → x ∈ vs → ∃ d, Gd 9 6 1100 d ∧ Dx K [] J x d := fun sJ hx => each (sL.trans sJ) hx
      have eV := sL _ _ eV3
      generalize upd H13 L (.lst [.ref u, .ref g, .ref g2, .ref p]) = J at *
      generalize ([.ref u, .ref g, .ref g2, .ref p] : List V) = ts at *
      clear sL hL hS17 W17 eV3 hG2 hG3 gG2 lG2
      refine ⟨L, rfl, ⟨_, SqL.of eL⟩, for_list (K := K) (a := L) (xs := ts) (fun j σ' H' => ∃ z8 z9 z10 z11 z12 z13, σ' = [some (.ref a), some (.ref s1), some (.int (0 + (i : Int))), some (.ref h), some (.ref p), some (.ref t), some (.ref u), some (.ref V1), z8, z9, z10, z11, z12, z13] ∧ Same J H')
        ⟨_, _, _, _, _, _, rfl, Same.refl _⟩ (fun j σ' H' _ hh => ?_) ?_ ?_⟩
      · obtain ⟨_, _, _, _, _, _, _, s'⟩ := hh
        exact SqL.of (s' _ _ eL)
      · rintro j x σ' H' hx ⟨z8, z9, z10, z11, z12, z13, rfl, s'⟩
        obtain ⟨gg, GG, rfl, hGG, gGG, lGG⟩ := goals x (List.mem_of_getElem? hx)
        have hGG := hGG.same s'
        refine ⟨_, rfl, V1, rfl, ⟨_, SqL.of (s' _ _ eV)⟩, for_list (K := K) (a := V1) (xs := vs) (fun j σ' H' => ∃ z9 z10 z11 z12 z13, σ' = [some (.ref a), some (.ref s1), some (.int (0 + (i : Int))), some (.ref h), some (.ref p), some (.ref t), some (.ref u), some (.ref V1), some (.ref gg), z9, z10, z11, z12, z13] ∧ Same J H' ∧ PlAt H' gg GG)
          ⟨_, _, _, _, _, rfl, s', hGG⟩ (fun j σ' H' _ hh => ?_) ?_ ?_⟩
        · obtain ⟨_, _, _, _, _, _, s', _⟩ := hh
          exact SqL.of (s' _ _ eV)
        · rintro k x σ' H' hx ⟨z9, z10, z11, z12, z13, rfl, s', hGG⟩
          obtain ⟨d, g1, x1⟩ := each s' (List.mem_of_getElem? hx)
          have W1 := W.same s'
          have gH : Gd 9 6 40 (hd n D) := (house_gd hF nn n1).up (by omega) (by omega) (by omega)
          have gP : Gd 9 6 132 (pld PP) := (Gd.tup (pps_gd (pl.small n1))).up (by omega) (by omega) (by omega)
          have gG : Gd 9 6 132 (pld GG) := (Gd.tup (pps_gd gGG)).up (by omega) (by omega) (by omega)
          have gAll : Gd 9 7 2000 (.list [hd n D, pld PP, pld GG, d]) := (Gd.lst (GdA.cons gH (GdA.cons gP (GdA.cons gG (GdA.cons g1 (GdA.nil (n := 0))))))).up (by omega) (by omega) (by omega)
          obtain ⟨sh1, sh2, sh3⟩ := gAll.shows (by omega) (by omega) (by omega)
          have dxl : ∀ {J : Hp} {v : Addr}, Same H' J → v ≠ sysModules → J v = some (.lst [.ref h, .ref p, .ref gg, x]) → Dx K [] J (.ref v) (.list [hd n D, pld PP, pld GG, d]) := fun {J v} sJ nu eu => .lst (SqL.of eu) (by simp [nu]) (.cons (W1.hH.same sJ).dx (.cons (W1.hP.same sJ).pl.dxa (.cons (hGG.same sJ).dxa (.cons (dx_sm sJ x1) .nil))))
          refine ⟨_, rfl, _, rfl, _, rfl, _, rfl, by show 4 ≤ sizeLine; decide, fun v hv nv => ⟨v, _, rfl, dxl (same_upd hv) nv upd_same, sh1, sh2, sh3, ?_⟩⟩
          have s2 := same_upd (o := .lst [.ref h, .ref p, .ref gg, x]) hv
          generalize upd H' v (.lst [.ref h, .ref p, .ref gg, x]) = H2 at *
          refine ⟨_, rfl, _, rfl, _, rfl, _, rfl, h, p, gg, n, D, PP, GG, x, d, rfl, W1.hH.same s2, hF, nn, n1, W1.hP.same s2, pl, by omega, hGG.same s2, fun y hy => (gGG y hy).1, dx_sm s2 x1, fun H3 s3 => ?_⟩
          have s3 := s2.trans s3
          refine ⟨2, rfl, by decide, by decide, for_range (lo := 0) (n := 2) (fun r σ'' H'' => ∃ y12 y13, σ'' = [some (.ref a), some (.ref s1), some (.int (0 + (i : Int))), some (.ref h), some (.ref p), some (.ref t), some (.ref u), some (.ref V1), some (.ref gg), some x, some (.str (PyData.list [hd n D, pld PP, pld GG, d]).shown), some (.bl (reachB n D PP GG d)), y12, y13] ∧ Same H3 H'') ⟨_, _, rfl, Same.refl _⟩ ?_ ?_⟩
          · rintro r σ'' H'' hr2 ⟨w12, w13, rfl, s4⟩
            have s5 := s3.trans s4
            refine ⟨_, rfl, _, rfl, _, rfl, _, rfl, h, p, gg, n, D, PP, GG, x, d, rfl, W1.hH.same s5, hF, nn, n1, (W1.hP.same s5).pl, pl, by omega, hGG.same s5, fun y hy => (gGG y hy).1, dx_sm s5 x1, fun H4 s6 => ?_⟩
            refine ⟨_, rfl, _, "bool", .bool _, rfl, by decide, .bl _, _, rfl, iteF ?_⟩
            refine ⟨_, rfl, _, rfl, rfl, _, rfl, ?_⟩
            rw [show (!decide ((V.bl (reachB n D PP GG d)) = V.bl (reachB n D PP GG d))) = false by simp]
            exact iteF ⟨_, _, rfl, s4.trans s6⟩
          · rintro σ'' H'' ⟨w12, w13, rfl, s4⟩
            have s5 := s3.trans s4
            refine ⟨_, rfl, _, rfl, _, rfl, _, rfl, by show 4 ≤ sizeLine; decide, fun u2 hu2 nu2 => ⟨u2, _, rfl, dxl (s5.trans (same_upd hu2)) nu2 upd_same, sh1, sh2, sh3, ?_⟩⟩
            refine ⟨_, rfl, rfl, _, rfl, ?_⟩
            rw [show (!decide ((V.str (PyData.list [hd n D, pld PP, pld GG, d]).shown) = V.str (PyData.list [hd n D, pld PP, pld GG, d]).shown)) = false by simp]
            have s6 := s5.trans (same_upd (o := .lst [.ref h, .ref p, .ref gg, x]) hu2)
            exact iteF ⟨_, _, _, _, _, rfl, s'.trans s6, hGG.same s6⟩
        · rintro σ' H' ⟨z9, z10, z11, z12, z13, rfl, s', _⟩
          exact ⟨_, _, _, _, _, _, rfl, s'⟩
      · rintro σ' H' ⟨z8, z9, z10, z11, z12, z13, rfl, s'⟩
        exact ⟨_, _, _, _, _, _, _, _, _, _, _, _, rfl, (hS.same s').mono (by omega)⟩
    · rintro σ H2 ⟨y2, y3, y4, y5, y6, y7, y8, y9, y10, y11, y12, y13, rfl, hS2⟩
      exact q _
end
end Fw
set_option maxHeartbeats 8000000
namespace Fw
open PySem L2
theorem all_mk {P : Program} {w : World} {K : PySem.W.Frag} {h : Heap} {mg : Str → Option Value} {fa : Addr} (X : K.In h) (G : h.Ns mainGlobals mg) (hfa : mg "law" = some (.ref fa))
    {EE NH : Addr} {nmH qnH : Str} {bsH subH : List Value} {snH : List Str} {abH : Bool} {colH : Option Bool} {ddH : Option Addr} {pH qH rH sH tH : Option Value} (uHEa : PySem.W.nsIn K mainGlobals "HouseError" = some (some (.ref EE))) (uHEb : PySem.W.subIn K (.ref EE) (.type "BaseException") = some true) (uHEc : K.lookup EE = some (excClassObj nmH qnH EE NH bsH [.type "ValueError", .type "Exception", .type "BaseException", .type "object"] true snH subH abH colH ddH pH qH rH sH tH "ValueError.__new__")) (uHEd : PySem.W.typeIn K (.ref EE) = some (.type "type"))
    {CUnknownPerson gUnknownPerson NUnknownPerson : Addr} {nmUnknownPerson qnUnknownPerson : Str} {bsUnknownPerson subUnknownPerson : List Value} {snUnknownPerson : List Str} {abUnknownPerson : Bool} {colUnknownPerson : Option Bool} {ddUnknownPerson : Option Addr} {pUnknownPerson qUnknownPerson rUnknownPerson sUnknownPerson tUnknownPerson : Option Value} {gdUnknownPerson gaUnknownPerson : Option Addr} {gsUnknownPerson : Array (Option Value)} {goUnknownPerson gkUnknownPerson gvUnknownPerson gpUnknownPerson gcUnknownPerson gtUnknownPerson : Value}
    (uUnknownPersona : PySem.W.nsIn K mainGlobals "UnknownPerson" = some (some (.ref CUnknownPerson)))
    (uUnknownPersonb : K.lookup CUnknownPerson = some (excClassObj nmUnknownPerson qnUnknownPerson CUnknownPerson NUnknownPerson bsUnknownPerson (above EE) true snUnknownPerson subUnknownPerson abUnknownPerson colUnknownPerson ddUnknownPerson pUnknownPerson qUnknownPerson rUnknownPerson sUnknownPerson tUnknownPerson "ValueError.__new__"))
    (uUnknownPersonc : PySem.W.findIn K (.ref CUnknownPerson) "__setattr__" = some (some (.builtin "object.__setattr__"))) (uUnknownPersond : PySem.W.findIn K (.ref CUnknownPerson) "__getattribute__" = some (some (.builtin "BaseException.__getattribute__"))) (uUnknownPersone : PySem.W.findIn K (.ref CUnknownPerson) "__getattr__" = some none)
    (uUnknownPersonf : PySem.W.findIn K (.ref CUnknownPerson) "__init__" = some (some (.ref gUnknownPerson))) (uUnknownPersong : PySem.W.typeIn K (.ref gUnknownPerson) = some (.type "function"))
    (uUnknownPersonh : K.lookup gUnknownPerson = some ⟨goUnknownPerson, gdUnknownPerson, .func (PySem.W.fnOf "__init__" "UnknownPerson.__init__" (defArgs iUnknownPerson) (defBody iUnknownPerson) (defScope iUnknownPerson) .none gkUnknownPerson gvUnknownPerson gpUnknownPerson gaUnknownPerson gcUnknownPerson gtUnknownPerson), gsUnknownPerson⟩)
    (uUnknownPersoni : PySem.W.codeIn K gcUnknownPerson "UnknownPerson.__init__" = true) (uUnknownPersonj : PySem.W.keepIn K (.ref gUnknownPerson) = true) (uUnknownPersonk : PySem.W.keepIn K (.ref CUnknownPerson) = true) (uUnknownPersonl : PySem.W.typeIn K (.ref CUnknownPerson) = some (.type "type")) (uUnknownPersonm : PySem.W.hasDictIn K CUnknownPerson = true)
    (uUnknownPersonn : PySem.W.findIn K (.ref CUnknownPerson) "__class__" = some (some (.builtin "object.__class__"))) (uUnknownPersono : PySem.W.findIn K (.ref CUnknownPerson) "name" = some none)
    (uUnknownPersonp : PySem.W.specialIn K (.builtin "object.__class__") "__get__" = some (some (.builtin "getset_descriptor.__get__"))) (uUnknownPersonq : PySem.W.takesIn K (.builtin "object.__class__") = some true)
    {CInvalidRoom gInvalidRoom NInvalidRoom : Addr} {nmInvalidRoom qnInvalidRoom : Str} {bsInvalidRoom subInvalidRoom : List Value} {snInvalidRoom : List Str} {abInvalidRoom : Bool} {colInvalidRoom : Option Bool} {ddInvalidRoom : Option Addr} {pInvalidRoom qInvalidRoom rInvalidRoom sInvalidRoom tInvalidRoom : Option Value} {gdInvalidRoom gaInvalidRoom : Option Addr} {gsInvalidRoom : Array (Option Value)} {goInvalidRoom gkInvalidRoom gvInvalidRoom gpInvalidRoom gcInvalidRoom gtInvalidRoom : Value}
    (uInvalidRooma : PySem.W.nsIn K mainGlobals "InvalidRoom" = some (some (.ref CInvalidRoom)))
    (uInvalidRoomb : K.lookup CInvalidRoom = some (excClassObj nmInvalidRoom qnInvalidRoom CInvalidRoom NInvalidRoom bsInvalidRoom (above EE) true snInvalidRoom subInvalidRoom abInvalidRoom colInvalidRoom ddInvalidRoom pInvalidRoom qInvalidRoom rInvalidRoom sInvalidRoom tInvalidRoom "ValueError.__new__"))
    (uInvalidRoomc : PySem.W.findIn K (.ref CInvalidRoom) "__setattr__" = some (some (.builtin "object.__setattr__"))) (uInvalidRoomd : PySem.W.findIn K (.ref CInvalidRoom) "__getattribute__" = some (some (.builtin "BaseException.__getattribute__"))) (uInvalidRoome : PySem.W.findIn K (.ref CInvalidRoom) "__getattr__" = some none)
    (uInvalidRoomf : PySem.W.findIn K (.ref CInvalidRoom) "__init__" = some (some (.ref gInvalidRoom))) (uInvalidRoomg : PySem.W.typeIn K (.ref gInvalidRoom) = some (.type "function"))
    (uInvalidRoomh : K.lookup gInvalidRoom = some ⟨goInvalidRoom, gdInvalidRoom, .func (PySem.W.fnOf "__init__" "InvalidRoom.__init__" (defArgs iInvalidRoom) (defBody iInvalidRoom) (defScope iInvalidRoom) .none gkInvalidRoom gvInvalidRoom gpInvalidRoom gaInvalidRoom gcInvalidRoom gtInvalidRoom), gsInvalidRoom⟩)
    (uInvalidRoomi : PySem.W.codeIn K gcInvalidRoom "InvalidRoom.__init__" = true) (uInvalidRoomj : PySem.W.keepIn K (.ref gInvalidRoom) = true) (uInvalidRoomk : PySem.W.keepIn K (.ref CInvalidRoom) = true) (uInvalidRooml : PySem.W.typeIn K (.ref CInvalidRoom) = some (.type "type")) (uInvalidRoomm : PySem.W.hasDictIn K CInvalidRoom = true)
    (uInvalidRoomn : PySem.W.findIn K (.ref CInvalidRoom) "__class__" = some (some (.builtin "object.__class__"))) (uInvalidRoomo : PySem.W.findIn K (.ref CInvalidRoom) "room" = some none)
    (uInvalidRoomp : PySem.W.specialIn K (.builtin "object.__class__") "__get__" = some (some (.builtin "getset_descriptor.__get__"))) (uInvalidRoomq : PySem.W.takesIn K (.builtin "object.__class__") = some true)
    {CNotAdjacent gNotAdjacent NNotAdjacent : Addr} {nmNotAdjacent qnNotAdjacent : Str} {bsNotAdjacent subNotAdjacent : List Value} {snNotAdjacent : List Str} {abNotAdjacent : Bool} {colNotAdjacent : Option Bool} {ddNotAdjacent : Option Addr} {pNotAdjacent qNotAdjacent rNotAdjacent sNotAdjacent tNotAdjacent : Option Value} {gdNotAdjacent gaNotAdjacent : Option Addr} {gsNotAdjacent : Array (Option Value)} {goNotAdjacent gkNotAdjacent gvNotAdjacent gpNotAdjacent gcNotAdjacent gtNotAdjacent : Value}
    (uNotAdjacenta : PySem.W.nsIn K mainGlobals "NotAdjacent" = some (some (.ref CNotAdjacent)))
    (uNotAdjacentb : K.lookup CNotAdjacent = some (excClassObj nmNotAdjacent qnNotAdjacent CNotAdjacent NNotAdjacent bsNotAdjacent (above EE) true snNotAdjacent subNotAdjacent abNotAdjacent colNotAdjacent ddNotAdjacent pNotAdjacent qNotAdjacent rNotAdjacent sNotAdjacent tNotAdjacent "ValueError.__new__"))
    (uNotAdjacentc : PySem.W.findIn K (.ref CNotAdjacent) "__setattr__" = some (some (.builtin "object.__setattr__"))) (uNotAdjacentd : PySem.W.findIn K (.ref CNotAdjacent) "__getattribute__" = some (some (.builtin "BaseException.__getattribute__"))) (uNotAdjacente : PySem.W.findIn K (.ref CNotAdjacent) "__getattr__" = some none)
    (uNotAdjacentf : PySem.W.findIn K (.ref CNotAdjacent) "__init__" = some (some (.ref gNotAdjacent))) (uNotAdjacentg : PySem.W.typeIn K (.ref gNotAdjacent) = some (.type "function"))
    (uNotAdjacenth : K.lookup gNotAdjacent = some ⟨goNotAdjacent, gdNotAdjacent, .func (PySem.W.fnOf "__init__" "NotAdjacent.__init__" (defArgs iNotAdjacent) (defBody iNotAdjacent) (defScope iNotAdjacent) .none gkNotAdjacent gvNotAdjacent gpNotAdjacent gaNotAdjacent gcNotAdjacent gtNotAdjacent), gsNotAdjacent⟩)
    (uNotAdjacenti : PySem.W.codeIn K gcNotAdjacent "NotAdjacent.__init__" = true) (uNotAdjacentj : PySem.W.keepIn K (.ref gNotAdjacent) = true) (uNotAdjacentk : PySem.W.keepIn K (.ref CNotAdjacent) = true) (uNotAdjacentl : PySem.W.typeIn K (.ref CNotAdjacent) = some (.type "type")) (uNotAdjacentm : PySem.W.hasDictIn K CNotAdjacent = true)
    (uNotAdjacentn : PySem.W.findIn K (.ref CNotAdjacent) "__class__" = some (some (.builtin "object.__class__"))) (uNotAdjacento : PySem.W.findIn K (.ref CNotAdjacent) "room" = some none)
    (uNotAdjacentp : PySem.W.specialIn K (.builtin "object.__class__") "__get__" = some (some (.builtin "getset_descriptor.__get__"))) (uNotAdjacentq : PySem.W.takesIn K (.builtin "object.__class__") = some true)
    {CEmptyRoom gEmptyRoom NEmptyRoom : Addr} {nmEmptyRoom qnEmptyRoom : Str} {bsEmptyRoom subEmptyRoom : List Value} {snEmptyRoom : List Str} {abEmptyRoom : Bool} {colEmptyRoom : Option Bool} {ddEmptyRoom : Option Addr} {pEmptyRoom qEmptyRoom rEmptyRoom sEmptyRoom tEmptyRoom : Option Value} {gdEmptyRoom gaEmptyRoom : Option Addr} {gsEmptyRoom : Array (Option Value)} {goEmptyRoom gkEmptyRoom gvEmptyRoom gpEmptyRoom gcEmptyRoom gtEmptyRoom : Value}
    (uEmptyRooma : PySem.W.nsIn K mainGlobals "EmptyRoom" = some (some (.ref CEmptyRoom)))
    (uEmptyRoomb : K.lookup CEmptyRoom = some (excClassObj nmEmptyRoom qnEmptyRoom CEmptyRoom NEmptyRoom bsEmptyRoom (above EE) true snEmptyRoom subEmptyRoom abEmptyRoom colEmptyRoom ddEmptyRoom pEmptyRoom qEmptyRoom rEmptyRoom sEmptyRoom tEmptyRoom "ValueError.__new__"))
    (uEmptyRoomc : PySem.W.findIn K (.ref CEmptyRoom) "__setattr__" = some (some (.builtin "object.__setattr__"))) (uEmptyRoomd : PySem.W.findIn K (.ref CEmptyRoom) "__getattribute__" = some (some (.builtin "BaseException.__getattribute__"))) (uEmptyRoome : PySem.W.findIn K (.ref CEmptyRoom) "__getattr__" = some none)
    (uEmptyRoomf : PySem.W.findIn K (.ref CEmptyRoom) "__init__" = some (some (.ref gEmptyRoom))) (uEmptyRoomg : PySem.W.typeIn K (.ref gEmptyRoom) = some (.type "function"))
    (uEmptyRoomh : K.lookup gEmptyRoom = some ⟨goEmptyRoom, gdEmptyRoom, .func (PySem.W.fnOf "__init__" "EmptyRoom.__init__" (defArgs iEmptyRoom) (defBody iEmptyRoom) (defScope iEmptyRoom) .none gkEmptyRoom gvEmptyRoom gpEmptyRoom gaEmptyRoom gcEmptyRoom gtEmptyRoom), gsEmptyRoom⟩)
    (uEmptyRoomi : PySem.W.codeIn K gcEmptyRoom "EmptyRoom.__init__" = true) (uEmptyRoomj : PySem.W.keepIn K (.ref gEmptyRoom) = true) (uEmptyRoomk : PySem.W.keepIn K (.ref CEmptyRoom) = true) (uEmptyRooml : PySem.W.typeIn K (.ref CEmptyRoom) = some (.type "type")) (uEmptyRoomm : PySem.W.hasDictIn K CEmptyRoom = true)
    (uEmptyRoomn : PySem.W.findIn K (.ref CEmptyRoom) "__class__" = some (some (.builtin "object.__class__"))) (uEmptyRoomo : PySem.W.findIn K (.ref CEmptyRoom) "room" = some none)
    (uEmptyRoomp : PySem.W.specialIn K (.builtin "object.__class__") "__get__" = some (some (.builtin "getset_descriptor.__get__"))) (uEmptyRoomq : PySem.W.takesIn K (.builtin "object.__class__") = some true)
    {CInvalidMoves gInvalidMoves NInvalidMoves : Addr} {nmInvalidMoves qnInvalidMoves : Str} {bsInvalidMoves subInvalidMoves : List Value} {snInvalidMoves : List Str} {abInvalidMoves : Bool} {colInvalidMoves : Option Bool} {ddInvalidMoves : Option Addr} {pInvalidMoves qInvalidMoves rInvalidMoves sInvalidMoves tInvalidMoves : Option Value} {gdInvalidMoves gaInvalidMoves : Option Addr} {gsInvalidMoves : Array (Option Value)} {goInvalidMoves gkInvalidMoves gvInvalidMoves gpInvalidMoves gcInvalidMoves gtInvalidMoves : Value}
    (uInvalidMovesa : PySem.W.nsIn K mainGlobals "InvalidMoves" = some (some (.ref CInvalidMoves)))
    (uInvalidMovesb : K.lookup CInvalidMoves = some (excClassObj nmInvalidMoves qnInvalidMoves CInvalidMoves NInvalidMoves bsInvalidMoves (above EE) true snInvalidMoves subInvalidMoves abInvalidMoves colInvalidMoves ddInvalidMoves pInvalidMoves qInvalidMoves rInvalidMoves sInvalidMoves tInvalidMoves "ValueError.__new__"))
    (uInvalidMovesc : PySem.W.findIn K (.ref CInvalidMoves) "__setattr__" = some (some (.builtin "object.__setattr__"))) (uInvalidMovesd : PySem.W.findIn K (.ref CInvalidMoves) "__getattribute__" = some (some (.builtin "BaseException.__getattribute__"))) (uInvalidMovese : PySem.W.findIn K (.ref CInvalidMoves) "__getattr__" = some none)
    (uInvalidMovesf : PySem.W.findIn K (.ref CInvalidMoves) "__init__" = some (some (.ref gInvalidMoves))) (uInvalidMovesg : PySem.W.typeIn K (.ref gInvalidMoves) = some (.type "function"))
    (uInvalidMovesh : K.lookup gInvalidMoves = some ⟨goInvalidMoves, gdInvalidMoves, .func (PySem.W.fnOf "__init__" "InvalidMoves.__init__" (defArgs iInvalidMoves) (defBody iInvalidMoves) (defScope iInvalidMoves) .none gkInvalidMoves gvInvalidMoves gpInvalidMoves gaInvalidMoves gcInvalidMoves gtInvalidMoves), gsInvalidMoves⟩)
    (uInvalidMovesi : PySem.W.codeIn K gcInvalidMoves "InvalidMoves.__init__" = true) (uInvalidMovesj : PySem.W.keepIn K (.ref gInvalidMoves) = true) (uInvalidMovesk : PySem.W.keepIn K (.ref CInvalidMoves) = true) (uInvalidMovesl : PySem.W.typeIn K (.ref CInvalidMoves) = some (.type "type")) (uInvalidMovesm : PySem.W.hasDictIn K CInvalidMoves = true)
    (uInvalidMovesn : PySem.W.findIn K (.ref CInvalidMoves) "__class__" = some (some (.builtin "object.__class__"))) (uInvalidMoveso : PySem.W.findIn K (.ref CInvalidMoves) "position" = some none)
    (uInvalidMovesp : PySem.W.specialIn K (.builtin "object.__class__") "__get__" = some (some (.builtin "getset_descriptor.__get__"))) (uInvalidMovesq : PySem.W.takesIn K (.builtin "object.__class__") = some true)
    {f1 : Addr} {od1 an1 : Option Addr} {sl1 : Array (Option Value)} {oc1 kV1 dc1 pm1 cd1 ct1 : Value}
    (a1 : PySem.W.nsIn K mainGlobals "is_integer" = some (some (.ref f1)))
    (l1 : K.lookup f1 = some ⟨oc1, od1, .func (PySem.W.fnOf "is_integer" "is_integer" (defArgs sIsInt) (defBody sIsInt) (defScope sIsInt) .none kV1 dc1 pm1 an1 cd1 ct1), sl1⟩)
    (c1 : PySem.W.codeIn K cd1 "is_integer" = true) (k1 : PySem.W.keepIn K (.ref f1) = true)
    {f2 : Addr} {od2 an2 : Option Addr} {sl2 : Array (Option Value)} {oc2 kV2 dc2 pm2 cd2 ct2 : Value}
    (a2 : PySem.W.nsIn K mainGlobals "is_pair" = some (some (.ref f2)))
    (l2 : K.lookup f2 = some ⟨oc2, od2, .func (PySem.W.fnOf "is_pair" "is_pair" (defArgs sIsPair) (defBody sIsPair) (defScope sIsPair) .none kV2 dc2 pm2 an2 cd2 ct2), sl2⟩)
    (c2 : PySem.W.codeIn K cd2 "is_pair" = true) (k2 : PySem.W.keepIn K (.ref f2) = true)
    {f3 : Addr} {od3 an3 : Option Addr} {sl3 : Array (Option Value)} {oc3 kV3 dc3 pm3 cd3 ct3 : Value}
    (a3 : PySem.W.nsIn K mainGlobals "is_room" = some (some (.ref f3)))
    (l3 : K.lookup f3 = some ⟨oc3, od3, .func (PySem.W.fnOf "is_room" "is_room" (defArgs sIsRoom) (defBody sIsRoom) (defScope sIsRoom) .none kV3 dc3 pm3 an3 cd3 ct3), sl3⟩)
    (c3 : PySem.W.codeIn K cd3 "is_room" = true) (k3 : PySem.W.keepIn K (.ref f3) = true)
    {f4 : Addr} {od4 an4 : Option Addr} {sl4 : Array (Option Value)} {oc4 kV4 dc4 pm4 cd4 ct4 : Value}
    (a4 : PySem.W.nsIn K mainGlobals "neighbors" = some (some (.ref f4)))
    (l4 : K.lookup f4 = some ⟨oc4, od4, .func (PySem.W.fnOf "neighbors" "neighbors" (defArgs sNb) (defBody sNb) (defScope sNb) .none kV4 dc4 pm4 an4 cd4 ct4), sl4⟩)
    (c4 : PySem.W.codeIn K cd4 "neighbors" = true) (k4 : PySem.W.keepIn K (.ref f4) = true)
    {f5 : Addr} {od5 an5 : Option Addr} {sl5 : Array (Option Value)} {oc5 kV5 dc5 pm5 cd5 ct5 : Value}
    (a5 : PySem.W.nsIn K mainGlobals "room_of" = some (some (.ref f5)))
    (l5 : K.lookup f5 = some ⟨oc5, od5, .func (PySem.W.fnOf "room_of" "room_of" (defArgs sRoomOf) (defBody sRoomOf) (defScope sRoomOf) .none kV5 dc5 pm5 an5 cd5 ct5), sl5⟩)
    (c5 : PySem.W.codeIn K cd5 "room_of" = true) (k5 : PySem.W.keepIn K (.ref f5) = true)
    {f6 : Addr} {od6 an6 : Option Addr} {sl6 : Array (Option Value)} {oc6 kV6 dc6 pm6 cd6 ct6 : Value}
    (a6 : PySem.W.nsIn K mainGlobals "with_person_in" = some (some (.ref f6)))
    (l6 : K.lookup f6 = some ⟨oc6, od6, .func (PySem.W.fnOf "with_person_in" "with_person_in" (defArgs sWith) (defBody sWith) (defScope sWith) .none kV6 dc6 pm6 an6 cd6 ct6), sl6⟩)
    (c6 : PySem.W.codeIn K cd6 "with_person_in" = true) (k6 : PySem.W.keepIn K (.ref f6) = true)
    {f7 : Addr} {od7 an7 : Option Addr} {sl7 : Array (Option Value)} {oc7 kV7 dc7 pm7 cd7 ct7 : Value}
    (a7 : PySem.W.nsIn K mainGlobals "people_in" = some (some (.ref f7)))
    (l7 : K.lookup f7 = some ⟨oc7, od7, .func (PySem.W.fnOf "people_in" "people_in" (defArgs sPIn) (defBody sPIn) (defScope sPIn) .none kV7 dc7 pm7 an7 cd7 ct7), sl7⟩)
    (c7 : PySem.W.codeIn K cd7 "people_in" = true) (k7 : PySem.W.keepIn K (.ref f7) = true)
    {f8 : Addr} {od8 an8 : Option Addr} {sl8 : Array (Option Value)} {oc8 kV8 dc8 pm8 cd8 ct8 : Value}
    (a8 : PySem.W.nsIn K mainGlobals "people_within" = some (some (.ref f8)))
    (l8 : K.lookup f8 = some ⟨oc8, od8, .func (PySem.W.fnOf "people_within" "people_within" (defArgs sPWi) (defBody sPWi) (defScope sPWi) .none kV8 dc8 pm8 an8 cd8 ct8), sl8⟩)
    (c8 : PySem.W.codeIn K cd8 "people_within" = true) (k8 : PySem.W.keepIn K (.ref f8) = true)
    {f9 : Addr} {od9 an9 : Option Addr} {sl9 : Array (Option Value)} {oc9 kV9 dc9 pm9 cd9 ct9 : Value}
    (a9 : PySem.W.nsIn K mainGlobals "move_person" = some (some (.ref f9)))
    (l9 : K.lookup f9 = some ⟨oc9, od9, .func (PySem.W.fnOf "move_person" "move_person" (defArgs sMove) (defBody sMove) (defScope sMove) .none kV9 dc9 pm9 an9 cd9 ct9), sl9⟩)
    (c9 : PySem.W.codeIn K cd9 "move_person" = true) (k9 : PySem.W.keepIn K (.ref f9) = true)
    {f10 : Addr} {od10 an10 : Option Addr} {sl10 : Array (Option Value)} {oc10 kV10 dc10 pm10 cd10 ct10 : Value}
    (a10 : PySem.W.nsIn K mainGlobals "apply_moves" = some (some (.ref f10)))
    (l10 : K.lookup f10 = some ⟨oc10, od10, .func (PySem.W.fnOf "apply_moves" "apply_moves" (defArgs sApply) (defBody sApply) (defScope sApply) .none kV10 dc10 pm10 an10 cd10 ct10), sl10⟩)
    (c10 : PySem.W.codeIn K cd10 "apply_moves" = true) (k10 : PySem.W.keepIn K (.ref f10) = true)
    {f11 : Addr} {od11 an11 : Option Addr} {sl11 : Array (Option Value)} {oc11 kV11 dc11 pm11 cd11 ct11 : Value}
    (a11 : PySem.W.nsIn K mainGlobals "reaches_target" = some (some (.ref f11)))
    (l11 : K.lookup f11 = some ⟨oc11, od11, .func (PySem.W.fnOf "reaches_target" "reaches_target" (defArgs sReach) (defBody sReach) (defScope sReach) .none kV11 dc11 pm11 an11 cd11 ct11), sl11⟩)
    (c11 : PySem.W.codeIn K cd11 "reaches_target" = true) (k11 : PySem.W.keepIn K (.ref f11) = true)
    {f12 : Addr} {od12 an12 : Option Addr} {sl12 : Array (Option Value)} {oc12 kV12 dc12 pm12 cd12 ct12 : Value}
    (a12 : PySem.W.nsIn K mainGlobals "_law_stream" = some (some (.ref f12)))
    (l12 : K.lookup f12 = some ⟨oc12, od12, .func (PySem.W.fnOf "_law_stream" "_law_stream" (defArgs sStream) (defBody sStream) (defScope sStream) .none kV12 dc12 pm12 an12 cd12 ct12), sl12⟩)
    (c12 : PySem.W.codeIn K cd12 "_law_stream" = true) (k12 : PySem.W.keepIn K (.ref f12) = true)
    {f13 : Addr} {od13 an13 : Option Addr} {sl13 : Array (Option Value)} {oc13 kV13 dc13 pm13 cd13 ct13 : Value}
    (a13 : PySem.W.nsIn K mainGlobals "_law_names" = some (some (.ref f13)))
    (l13 : K.lookup f13 = some ⟨oc13, od13, .func (PySem.W.fnOf "_law_names" "_law_names" (defArgs sNames) (defBody sNames) (defScope sNames) .none kV13 dc13 pm13 an13 cd13 ct13), sl13⟩)
    (c13 : PySem.W.codeIn K cd13 "_law_names" = true) (k13 : PySem.W.keepIn K (.ref f13) = true)
    {f14 : Addr} {od14 an14 : Option Addr} {sl14 : Array (Option Value)} {oc14 kV14 dc14 pm14 cd14 ct14 : Value}
    (a14 : PySem.W.nsIn K mainGlobals "_law_draw" = some (some (.ref f14)))
    (l14 : K.lookup f14 = some ⟨oc14, od14, .func (PySem.W.fnOf "_law_draw" "_law_draw" (defArgs sDraw) (defBody sDraw) (defScope sDraw) .none kV14 dc14 pm14 an14 cd14 ct14), sl14⟩)
    (c14 : PySem.W.codeIn K cd14 "_law_draw" = true) (k14 : PySem.W.keepIn K (.ref f14) = true)
    {f15 : Addr} {od15 an15 : Option Addr} {sl15 : Array (Option Value)} {oc15 kV15 dc15 pm15 cd15 ct15 : Value}
    (a15 : PySem.W.nsIn K mainGlobals "_law_house" = some (some (.ref f15)))
    (l15 : K.lookup f15 = some ⟨oc15, od15, .func (PySem.W.fnOf "_law_house" "_law_house" (defArgs sHouse) (defBody sHouse) (defScope sHouse) .none kV15 dc15 pm15 an15 cd15 ct15), sl15⟩)
    (c15 : PySem.W.codeIn K cd15 "_law_house" = true) (k15 : PySem.W.keepIn K (.ref f15) = true)
    {f16 : Addr} {od16 an16 : Option Addr} {sl16 : Array (Option Value)} {oc16 kV16 dc16 pm16 cd16 ct16 : Value}
    (a16 : PySem.W.nsIn K mainGlobals "_law_placement" = some (some (.ref f16)))
    (l16 : K.lookup f16 = some ⟨oc16, od16, .func (PySem.W.fnOf "_law_placement" "_law_placement" (defArgs sPl) (defBody sPl) (defScope sPl) .none kV16 dc16 pm16 an16 cd16 ct16), sl16⟩)
    (c16 : PySem.W.codeIn K cd16 "_law_placement" = true) (k16 : PySem.W.keepIn K (.ref f16) = true)
    {f17 : Addr} {od17 an17 : Option Addr} {sl17 : Array (Option Value)} {oc17 kV17 dc17 pm17 cd17 ct17 : Value}
    (a17 : PySem.W.nsIn K mainGlobals "_law_neighbors" = some (some (.ref f17)))
    (l17 : K.lookup f17 = some ⟨oc17, od17, .func (PySem.W.fnOf "_law_neighbors" "_law_neighbors" (defArgs sLNb) (defBody sLNb) (defScope sLNb) .none kV17 dc17 pm17 an17 cd17 ct17), sl17⟩)
    (c17 : PySem.W.codeIn K cd17 "_law_neighbors" = true) (k17 : PySem.W.keepIn K (.ref f17) = true)
    {f18 : Addr} {od18 an18 : Option Addr} {sl18 : Array (Option Value)} {oc18 kV18 dc18 pm18 cd18 ct18 : Value}
    (a18 : PySem.W.nsIn K mainGlobals "_law_connected" = some (some (.ref f18)))
    (l18 : K.lookup f18 = some ⟨oc18, od18, .func (PySem.W.fnOf "_law_connected" "_law_connected" (defArgs sConn) (defBody sConn) (defScope sConn) .none kV18 dc18 pm18 an18 cd18 ct18), sl18⟩)
    (c18 : PySem.W.codeIn K cd18 "_law_connected" = true) (k18 : PySem.W.keepIn K (.ref f18) = true)
    {f19 : Addr} {od19 an19 : Option Addr} {sl19 : Array (Option Value)} {oc19 kV19 dc19 pm19 cd19 ct19 : Value}
    (a19 : PySem.W.nsIn K mainGlobals "_law_moved" = some (some (.ref f19)))
    (l19 : K.lookup f19 = some ⟨oc19, od19, .func (PySem.W.fnOf "_law_moved" "_law_moved" (defArgs sLMoved) (defBody sLMoved) (defScope sLMoved) .none kV19 dc19 pm19 an19 cd19 ct19), sl19⟩)
    (c19 : PySem.W.codeIn K cd19 "_law_moved" = true) (k19 : PySem.W.keepIn K (.ref f19) = true)
    {f20 : Addr} {od20 an20 : Option Addr} {sl20 : Array (Option Value)} {oc20 kV20 dc20 pm20 cd20 ct20 : Value}
    (a20 : PySem.W.nsIn K mainGlobals "_law_moves" = some (some (.ref f20)))
    (l20 : K.lookup f20 = some ⟨oc20, od20, .func (PySem.W.fnOf "_law_moves" "_law_moves" (defArgs sLMoves) (defBody sLMoves) (defScope sLMoves) .none kV20 dc20 pm20 an20 cd20 ct20), sl20⟩)
    (c20 : PySem.W.codeIn K cd20 "_law_moves" = true) (k20 : PySem.W.keepIn K (.ref f20) = true)
    {f21 : Addr} {od21 an21 : Option Addr} {sl21 : Array (Option Value)} {oc21 kV21 dc21 pm21 cd21 ct21 : Value}
    (a21 : PySem.W.nsIn K mainGlobals "_law_random_walk" = some (some (.ref f21)))
    (l21 : K.lookup f21 = some ⟨oc21, od21, .func (PySem.W.fnOf "_law_random_walk" "_law_random_walk" (defArgs sLWalk) (defBody sLWalk) (defScope sLWalk) .none kV21 dc21 pm21 an21 cd21 ct21), sl21⟩)
    (c21 : PySem.W.codeIn K cd21 "_law_random_walk" = true) (k21 : PySem.W.keepIn K (.ref f21) = true)
    {f22 : Addr} {od22 an22 : Option Addr} {sl22 : Array (Option Value)} {oc22 kV22 dc22 pm22 cd22 ct22 : Value}
    (a22 : PySem.W.nsIn K mainGlobals "_law_target" = some (some (.ref f22)))
    (l22 : K.lookup f22 = some ⟨oc22, od22, .func (PySem.W.fnOf "_law_target" "_law_target" (defArgs sLTarget) (defBody sLTarget) (defScope sLTarget) .none kV22 dc22 pm22 an22 cd22 ct22), sl22⟩)
    (c22 : PySem.W.codeIn K cd22 "_law_target" = true) (k22 : PySem.W.keepIn K (.ref f22) = true)
    {f23 : Addr} {od23 an23 : Option Addr} {sl23 : Array (Option Value)} {oc23 kV23 dc23 pm23 cd23 ct23 : Value}
    (a23 : PySem.W.nsIn K mainGlobals "_law_random_value" = some (some (.ref f23)))
    (l23 : K.lookup f23 = some ⟨oc23, od23, .func (PySem.W.fnOf "_law_random_value" "_law_random_value" (defArgs sRand) (defBody sRand) (defScope sRand) .none kV23 dc23 pm23 an23 cd23 ct23), sl23⟩)
    (c23 : PySem.W.codeIn K cd23 "_law_random_value" = true) (k23 : PySem.W.keepIn K (.ref f23) = true)
    {f24 : Addr} {od24 an24 : Option Addr} {sl24 : Array (Option Value)} {oc24 kV24 dc24 pm24 cd24 ct24 : Value}
    (a24 : PySem.W.nsIn K mainGlobals "_law_altered" = some (some (.ref f24)))
    (l24 : K.lookup f24 = some ⟨oc24, od24, .func (PySem.W.fnOf "_law_altered" "_law_altered" (defArgs sAlt) (defBody sAlt) (defScope sAlt) .none kV24 dc24 pm24 an24 cd24 ct24), sl24⟩)
    (c24 : PySem.W.codeIn K cd24 "_law_altered" = true) (k24 : PySem.W.keepIn K (.ref f24) = true)
    {f25 : Addr} {od25 an25 : Option Addr} {sl25 : Array (Option Value)} {oc25 kV25 dc25 pm25 cd25 ct25 : Value}
    (a25 : PySem.W.nsIn K mainGlobals "_law_is_integer" = some (some (.ref f25)))
    (l25 : K.lookup f25 = some ⟨oc25, od25, .func (PySem.W.fnOf "_law_is_integer" "_law_is_integer" (defArgs sLInt) (defBody sLInt) (defScope sLInt) .none kV25 dc25 pm25 an25 cd25 ct25), sl25⟩)
    (c25 : PySem.W.codeIn K cd25 "_law_is_integer" = true) (k25 : PySem.W.keepIn K (.ref f25) = true)
    {f26 : Addr} {od26 an26 : Option Addr} {sl26 : Array (Option Value)} {oc26 kV26 dc26 pm26 cd26 ct26 : Value}
    (a26 : PySem.W.nsIn K mainGlobals "_law_move_expected" = some (some (.ref f26)))
    (l26 : K.lookup f26 = some ⟨oc26, od26, .func (PySem.W.fnOf "_law_move_expected" "_law_move_expected" (defArgs sLMoveExp) (defBody sLMoveExp) (defScope sLMoveExp) .none kV26 dc26 pm26 an26 cd26 ct26), sl26⟩)
    (c26 : PySem.W.codeIn K cd26 "_law_move_expected" = true) (k26 : PySem.W.keepIn K (.ref f26) = true)
    {f27 : Addr} {od27 an27 : Option Addr} {sl27 : Array (Option Value)} {oc27 kV27 dc27 pm27 cd27 ct27 : Value}
    (a27 : PySem.W.nsIn K mainGlobals "_law_reaches" = some (some (.ref f27)))
    (l27 : K.lookup f27 = some ⟨oc27, od27, .func (PySem.W.fnOf "_law_reaches" "_law_reaches" (defArgs sLReach) (defBody sLReach) (defScope sLReach) .none kV27 dc27 pm27 an27 cd27 ct27), sl27⟩)
    (c27 : PySem.W.codeIn K cd27 "_law_reaches" = true) (k27 : PySem.W.keepIn K (.ref f27) = true)
    {f28 : Addr} {od28 an28 : Option Addr} {sl28 : Array (Option Value)} {oc28 kV28 dc28 pm28 cd28 ct28 : Value}
    (a28 : PySem.W.nsIn K mainGlobals "_law_swapped" = some (some (.ref f28)))
    (l28 : K.lookup f28 = some ⟨oc28, od28, .func (PySem.W.fnOf "_law_swapped" "_law_swapped" (defArgs sLSwap) (defBody sLSwap) (defScope sLSwap) .none kV28 dc28 pm28 an28 cd28 ct28), sl28⟩)
    (c28 : PySem.W.codeIn K cd28 "_law_swapped" = true) (k28 : PySem.W.keepIn K (.ref f28) = true)
    {f29 : Addr} {od29 an29 : Option Addr} {sl29 : Array (Option Value)} {oc29 kV29 dc29 pm29 cd29 ct29 : Value}
    (a29 : PySem.W.nsIn K mainGlobals "law" = some (some (.ref f29)))
    (l29 : K.lookup f29 = some ⟨oc29, od29, .func (PySem.W.fnOf "law" "law" (defArgs sLaw) (defBody sLaw) (defScope sLaw) .none kV29 dc29 pm29 an29 cd29 ct29), sl29⟩)
    (c29 : PySem.W.codeIn K cd29 "law" = true) (k29 : PySem.W.keepIn K (.ref f29) = true)
    (z_abs : PySem.W.nsIn K mainGlobals "abs" = some none) (z_len : PySem.W.nsIn K mainGlobals "len" = some none) (z_list : PySem.W.nsIn K mainGlobals "list" = some none) (z_range : PySem.W.nsIn K mainGlobals "range" = some none) (z_min : PySem.W.nsIn K mainGlobals "min" = some none) (z_max : PySem.W.nsIn K mainGlobals "max" = some none) (z_tuple : PySem.W.nsIn K mainGlobals "tuple" = some none) (z_sorted : PySem.W.nsIn K mainGlobals "sorted" = some none) (z_isinstance : PySem.W.nsIn K mainGlobals "isinstance" = some none) (z_all : PySem.W.nsIn K mainGlobals "all" = some none) (z_zip : PySem.W.nsIn K mainGlobals "zip" = some none) (z_bool : PySem.W.nsIn K mainGlobals "bool" = some none) (z_int : PySem.W.nsIn K mainGlobals "int" = some none) (z_str : PySem.W.nsIn K mainGlobals "str" = some none) (z_repr : PySem.W.nsIn K mainGlobals "repr" = some none) (z_dict : PySem.W.nsIn K mainGlobals "dict" = some none) (z_enumerate : PySem.W.nsIn K mainGlobals "enumerate" = some none) : LawAt P w K mg 7 fa (spLaw K) := by
  have e := hfa.symm.trans (PySem.W.mg_of X G a29)
  cases e
  have T : Nm mg := ⟨PySem.W.mg_none_of X G z_abs, PySem.W.mg_none_of X G z_len, PySem.W.mg_none_of X G z_list, PySem.W.mg_none_of X G z_range, PySem.W.mg_none_of X G z_min, PySem.W.mg_none_of X G z_max, PySem.W.mg_none_of X G z_tuple, PySem.W.mg_none_of X G z_sorted, PySem.W.mg_none_of X G z_isinstance, PySem.W.mg_none_of X G z_all, PySem.W.mg_none_of X G z_zip, PySem.W.mg_none_of X G z_bool, PySem.W.mg_none_of X G z_int, PySem.W.mg_none_of X G z_str, PySem.W.mg_none_of X G z_repr⟩
  obtain ⟨hUnknownPerson, vUnknownPerson⟩ := cf_mk (x := "UnknownPerson") (q := "UnknownPerson.__init__") (st := iUnknownPerson) (ps := ["self", "name"]) X G (fun fd F => F.binds fun _ _ _ _ _ _ us hl => match us, hl with | [_, _], _ => rfl) uUnknownPersona uUnknownPersonb uUnknownPersonc uUnknownPersond uUnknownPersone uUnknownPersonf uUnknownPersong uUnknownPersonh uUnknownPersoni uUnknownPersonj uUnknownPersonk uUnknownPersonl uUnknownPersonm uUnknownPersonn uUnknownPersonp uUnknownPersonq
  obtain ⟨hInvalidRoom, vInvalidRoom⟩ := cf_mk (x := "InvalidRoom") (q := "InvalidRoom.__init__") (st := iInvalidRoom) (ps := ["self", "room"]) X G (fun fd F => F.binds fun _ _ _ _ _ _ us hl => match us, hl with | [_, _], _ => rfl) uInvalidRooma uInvalidRoomb uInvalidRoomc uInvalidRoomd uInvalidRoome uInvalidRoomf uInvalidRoomg uInvalidRoomh uInvalidRoomi uInvalidRoomj uInvalidRoomk uInvalidRooml uInvalidRoomm uInvalidRoomn uInvalidRoomp uInvalidRoomq
  obtain ⟨hNotAdjacent, vNotAdjacent⟩ := cf_mk (x := "NotAdjacent") (q := "NotAdjacent.__init__") (st := iNotAdjacent) (ps := ["self", "room"]) X G (fun fd F => F.binds fun _ _ _ _ _ _ us hl => match us, hl with | [_, _], _ => rfl) uNotAdjacenta uNotAdjacentb uNotAdjacentc uNotAdjacentd uNotAdjacente uNotAdjacentf uNotAdjacentg uNotAdjacenth uNotAdjacenti uNotAdjacentj uNotAdjacentk uNotAdjacentl uNotAdjacentm uNotAdjacentn uNotAdjacentp uNotAdjacentq
  obtain ⟨hEmptyRoom, vEmptyRoom⟩ := cf_mk (x := "EmptyRoom") (q := "EmptyRoom.__init__") (st := iEmptyRoom) (ps := ["self", "room"]) X G (fun fd F => F.binds fun _ _ _ _ _ _ us hl => match us, hl with | [_, _], _ => rfl) uEmptyRooma uEmptyRoomb uEmptyRoomc uEmptyRoomd uEmptyRoome uEmptyRoomf uEmptyRoomg uEmptyRoomh uEmptyRoomi uEmptyRoomj uEmptyRoomk uEmptyRooml uEmptyRoomm uEmptyRoomn uEmptyRoomp uEmptyRoomq
  obtain ⟨hInvalidMoves, vInvalidMoves⟩ := cf_mk (x := "InvalidMoves") (q := "InvalidMoves.__init__") (st := iInvalidMoves) (ps := ["self", "position"]) X G (fun fd F => F.binds fun _ _ _ _ _ _ us hl => match us, hl with | [_, _], _ => rfl) uInvalidMovesa uInvalidMovesb uInvalidMovesc uInvalidMovesd uInvalidMovese uInvalidMovesf uInvalidMovesg uInvalidMovesh uInvalidMovesi uInvalidMovesj uInvalidMovesk uInvalidMovesl uInvalidMovesm uInvalidMovesn uInvalidMovesp uInvalidMovesq
  have F1 := fun_mk (st := sIsInt) l1 c1 k1
  have b1 := F1.binds (ps := ["value"]) fun _ _ _ _ _ _ us hl => match us, hl with | [_], _ => rfl
  have F2 := fun_mk (st := sIsPair) l2 c2 k2
  have b2 := F2.binds (ps := ["value"]) fun _ _ _ _ _ _ us hl => match us, hl with | [_], _ => rfl
  have F3 := fun_mk (st := sIsRoom) l3 c3 k3
  have b3 := F3.binds (ps := ["house", "value"]) fun _ _ _ _ _ _ us hl => match us, hl with | [_, _], _ => rfl
  have F4 := fun_mk (st := sNb) l4 c4 k4
  have b4 := F4.binds (ps := ["house", "room"]) fun _ _ _ _ _ _ us hl => match us, hl with | [_, _], _ => rfl
  have F5 := fun_mk (st := sRoomOf) l5 c5 k5
  have b5 := F5.binds (ps := ["placement", "name"]) fun _ _ _ _ _ _ us hl => match us, hl with | [_, _], _ => rfl
  have F6 := fun_mk (st := sWith) l6 c6 k6
  have b6 := F6.binds (ps := ["placement", "name", "room"]) fun _ _ _ _ _ _ us hl => match us, hl with | [_, _, _], _ => rfl
  have F7 := fun_mk (st := sPIn) l7 c7 k7
  have b7 := F7.binds (ps := ["placement", "room"]) fun _ _ _ _ _ _ us hl => match us, hl with | [_, _], _ => rfl
  have F8 := fun_mk (st := sPWi) l8 c8 k8
  have b8 := F8.binds (ps := ["placement", "rooms"]) fun _ _ _ _ _ _ us hl => match us, hl with | [_, _], _ => rfl
  have F9 := fun_mk (st := sMove) l9 c9 k9
  have b9 := F9.binds (ps := ["house", "placement", "name", "room"]) fun _ _ _ _ _ _ us hl => match us, hl with | [_, _, _, _], _ => rfl
  have F10 := fun_mk (st := sApply) l10 c10 k10
  have b10 := F10.binds (ps := ["house", "placement", "moves"]) fun _ _ _ _ _ _ us hl => match us, hl with | [_, _, _], _ => rfl
  have F11 := fun_mk (st := sReach) l11 c11 k11
  have b11 := F11.binds (ps := ["house", "placement", "target", "value"]) fun _ _ _ _ _ _ us hl => match us, hl with | [_, _, _, _], _ => rfl
  have F12 := fun_mk (st := sStream) l12 c12 k12
  have b12 := F12.binds (ps := ["_law_script"]) fun _ _ _ _ _ _ us hl => match us, hl with | [_], _ => rfl
  have F13 := fun_mk (st := sNames) l13 c13 k13
  have b13 := F13.binds (ps := ["_law_stream_here", "_law_many"]) fun _ _ _ _ _ _ us hl => match us, hl with | [_, _], _ => rfl
  have F14 := fun_mk (st := sDraw) l14 c14 k14
  have b14 := F14.binds (ps := ["_law_stream_here", "_law_many"]) fun _ _ _ _ _ _ us hl => match us, hl with | [_, _], _ => rfl
  have F15 := fun_mk (st := sHouse) l15 c15 k15
  have b15 := F15.binds (ps := ["_law_stream_here", "_law_least", "_law_most"]) fun _ _ _ _ _ _ us hl => match us, hl with | [_, _, _], _ => rfl
  have F16 := fun_mk (st := sPl) l16 c16 k16
  have b16 := F16.binds (ps := ["_law_stream_here", "_law_house_here", "_law_most"]) fun _ _ _ _ _ _ us hl => match us, hl with | [_, _, _], _ => rfl
  have F17 := fun_mk (st := sLNb) l17 c17 k17
  have b17 := F17.binds (ps := ["_law_house_here", "_law_room"]) fun _ _ _ _ _ _ us hl => match us, hl with | [_, _], _ => rfl
  have F18 := fun_mk (st := sConn) l18 c18 k18
  have b18 := F18.binds (ps := ["_law_house_here", "_law_rooms", "_law_room"]) fun _ _ _ _ _ _ us hl => match us, hl with | [_, _, _], _ => rfl
  have F19 := fun_mk (st := sLMoved) l19 c19 k19
  have b19 := F19.binds (ps := ["_law_placement_here", "_law_name", "_law_room"]) fun _ _ _ _ _ _ us hl => match us, hl with | [_, _, _], _ => rfl
  have F20 := fun_mk (st := sLMoves) l20 c20 k20
  have b20 := F20.binds (ps := ["_law_house_here", "_law_placement_here"]) fun _ _ _ _ _ _ us hl => match us, hl with | [_, _], _ => rfl
  have F21 := fun_mk (st := sLWalk) l21 c21 k21
  have b21 := F21.binds (ps := ["_law_stream_here", "_law_house_here", "_law_placement_here", "_law_many"]) fun _ _ _ _ _ _ us hl => match us, hl with | [_, _, _, _], _ => rfl
  have F22 := fun_mk (st := sLTarget) l22 c22 k22
  have b22 := F22.binds (ps := ["_law_stream_here", "_law_house_here", "_law_placement_here"]) fun _ _ _ _ _ _ us hl => match us, hl with | [_, _, _], _ => rfl
  have F23 := fun_mk (st := sRand) l23 c23 k23
  have b23 := F23.binds (ps := ["_law_stream_here"]) fun _ _ _ _ _ _ us hl => match us, hl with | [_], _ => rfl
  have F24 := fun_mk (st := sAlt) l24 c24 k24
  have b24 := F24.binds (ps := ["_law_stream_here", "_law_value"]) fun _ _ _ _ _ _ us hl => match us, hl with | [_, _], _ => rfl
  have F25 := fun_mk (st := sLInt) l25 c25 k25
  have b25 := F25.binds (ps := ["_law_value", "_law_low", "_law_high"]) fun _ _ _ _ _ _ us hl => match us, hl with | [_, _, _], _ => rfl
  have F26 := fun_mk (st := sLMoveExp) l26 c26 k26
  have b26 := F26.binds (ps := ["_law_house_here", "_law_placement_here", "_law_name", "_law_room"]) fun _ _ _ _ _ _ us hl => match us, hl with | [_, _, _, _], _ => rfl
  have F27 := fun_mk (st := sLReach) l27 c27 k27
  have b27 := F27.binds (ps := ["_law_house_here", "_law_placement_here", "_law_target_here", "_law_value"]) fun _ _ _ _ _ _ us hl => match us, hl with | [_, _, _, _], _ => rfl
  have F28 := fun_mk (st := sLSwap) l28 c28 k28
  have b28 := F28.binds (ps := ["_law_stream_here", "_law_placement_here"]) fun _ _ _ _ _ _ us hl => match us, hl with | [_, _], _ => rfl
  have F29 := fun_mk (st := sLaw) l29 c29 k29
  have Z : All K mg := ⟨T, PySem.W.mg_none_of X G z_dict, PySem.W.mg_none_of X G z_enumerate, ⟨_, he_mk X G uHEa uHEb uHEc uHEd, ⟨_, _, _, vUnknownPerson, uUnknownPersono⟩, ⟨_, _, _, vInvalidRoom, uInvalidRoomo⟩, ⟨_, _, _, vNotAdjacent, uNotAdjacento⟩, ⟨_, _, _, vEmptyRoom, uEmptyRoomo⟩, ⟨_, _, _, vInvalidMoves, uInvalidMoveso⟩⟩, ⟨_, _, ⟨F1, b1, PySem.W.mg_of X G a1⟩⟩, ⟨_, _, ⟨F2, b2, PySem.W.mg_of X G a2⟩⟩, ⟨_, _, ⟨F3, b3, PySem.W.mg_of X G a3⟩⟩, ⟨_, _, ⟨F4, b4, PySem.W.mg_of X G a4⟩⟩, ⟨_, _, ⟨F5, b5, PySem.W.mg_of X G a5⟩⟩, ⟨_, _, ⟨F6, b6, PySem.W.mg_of X G a6⟩⟩, ⟨_, _, ⟨F7, b7, PySem.W.mg_of X G a7⟩⟩, ⟨_, _, ⟨F8, b8, PySem.W.mg_of X G a8⟩⟩, ⟨_, _, ⟨F9, b9, PySem.W.mg_of X G a9⟩⟩, ⟨_, _, ⟨F10, b10, PySem.W.mg_of X G a10⟩⟩, ⟨_, _, ⟨F11, b11, PySem.W.mg_of X G a11⟩⟩, ⟨_, _, ⟨F12, b12, PySem.W.mg_of X G a12⟩⟩, ⟨_, _, ⟨F13, b13, PySem.W.mg_of X G a13⟩⟩, ⟨_, _, ⟨F14, b14, PySem.W.mg_of X G a14⟩⟩, ⟨_, _, ⟨F15, b15, PySem.W.mg_of X G a15⟩⟩, ⟨_, _, ⟨F16, b16, PySem.W.mg_of X G a16⟩⟩, ⟨_, _, ⟨F17, b17, PySem.W.mg_of X G a17⟩⟩, ⟨_, _, ⟨F18, b18, PySem.W.mg_of X G a18⟩⟩, ⟨_, _, ⟨F19, b19, PySem.W.mg_of X G a19⟩⟩, ⟨_, _, ⟨F20, b20, PySem.W.mg_of X G a20⟩⟩, ⟨_, _, ⟨F21, b21, PySem.W.mg_of X G a21⟩⟩, ⟨_, _, ⟨F22, b22, PySem.W.mg_of X G a22⟩⟩, ⟨_, _, ⟨F23, b23, PySem.W.mg_of X G a23⟩⟩, ⟨_, _, ⟨F24, b24, PySem.W.mg_of X G a24⟩⟩, ⟨_, _, ⟨F25, b25, PySem.W.mg_of X G a25⟩⟩, ⟨_, _, ⟨F26, b26, PySem.W.mg_of X G a26⟩⟩, ⟨_, _, ⟨F27, b27, PySem.W.mg_of X G a27⟩⟩, ⟨_, _, ⟨F28, b28, PySem.W.mg_of X G a28⟩⟩⟩
  refine ⟨_, fun s v => ?_, fun base _ _ => ok_law F29 Z⟩
  exact .of_eq rfl
theorem tells : Tells spLaw := fun K H a ns hl hS => ⟨a, ns, rfl, hS, hl, fun _ => rfl⟩
end Fw

open PySem PySem.W PyProof.Rows in
set_option maxRecDepth 100000 in
set_option maxHeartbeats 0 in
theorem PySem.Challenge.cw_fromwithin_k12_reaching_targets_checked_holds : PySem.Challenge.rw_fromwithin_k12_reaching_targets_checked.Holds := by
  w_on; o_law; k_head; (case hw => w_witness2)
  k_fill
  refine Fw.walkG (l := PySem.Challenge.rw_fromwithin_k12_reaching_targets_checked) (k := 7) Fw.tells rfl rfl ⟨rfl, by decide, by decide⟩ (fun w h Y => PySem.W.kIn_of Y) ?F
  case F =>
    intro w mg fa h KX G hmg
    refine' Fw.all_mk KX G hmg ?uHEa ?uHEb ?uHEc ?uHEd ?uUnknownPersona ?uUnknownPersonb ?uUnknownPersonc ?uUnknownPersond ?uUnknownPersone ?uUnknownPersonf ?uUnknownPersong ?uUnknownPersonh ?uUnknownPersoni ?uUnknownPersonj ?uUnknownPersonk ?uUnknownPersonl ?uUnknownPersonm ?uUnknownPersonn ?uUnknownPersono ?uUnknownPersonp ?uUnknownPersonq ?uInvalidRooma ?uInvalidRoomb ?uInvalidRoomc ?uInvalidRoomd ?uInvalidRoome ?uInvalidRoomf ?uInvalidRoomg ?uInvalidRoomh ?uInvalidRoomi ?uInvalidRoomj ?uInvalidRoomk ?uInvalidRooml ?uInvalidRoomm ?uInvalidRoomn ?uInvalidRoomo ?uInvalidRoomp ?uInvalidRoomq ?uNotAdjacenta ?uNotAdjacentb ?uNotAdjacentc ?uNotAdjacentd ?uNotAdjacente ?uNotAdjacentf ?uNotAdjacentg ?uNotAdjacenth ?uNotAdjacenti ?uNotAdjacentj ?uNotAdjacentk ?uNotAdjacentl ?uNotAdjacentm ?uNotAdjacentn ?uNotAdjacento ?uNotAdjacentp ?uNotAdjacentq ?uEmptyRooma ?uEmptyRoomb ?uEmptyRoomc ?uEmptyRoomd ?uEmptyRoome ?uEmptyRoomf ?uEmptyRoomg ?uEmptyRoomh ?uEmptyRoomi ?uEmptyRoomj ?uEmptyRoomk ?uEmptyRooml ?uEmptyRoomm ?uEmptyRoomn ?uEmptyRoomo ?uEmptyRoomp ?uEmptyRoomq ?uInvalidMovesa ?uInvalidMovesb ?uInvalidMovesc ?uInvalidMovesd ?uInvalidMovese ?uInvalidMovesf ?uInvalidMovesg ?uInvalidMovesh ?uInvalidMovesi ?uInvalidMovesj ?uInvalidMovesk ?uInvalidMovesl ?uInvalidMovesm ?uInvalidMovesn ?uInvalidMoveso ?uInvalidMovesp ?uInvalidMovesq ?a1 ?l1 ?c1 ?k1 ?a2 ?l2 ?c2 ?k2 ?a3 ?l3 ?c3 ?k3 ?a4 ?l4 ?c4 ?k4 ?a5 ?l5 ?c5 ?k5 ?a6 ?l6 ?c6 ?k6 ?a7 ?l7 ?c7 ?k7 ?a8 ?l8 ?c8 ?k8 ?a9 ?l9 ?c9 ?k9 ?a10 ?l10 ?c10 ?k10 ?a11 ?l11 ?c11 ?k11 ?a12 ?l12 ?c12 ?k12 ?a13 ?l13 ?c13 ?k13 ?a14 ?l14 ?c14 ?k14 ?a15 ?l15 ?c15 ?k15 ?a16 ?l16 ?c16 ?k16 ?a17 ?l17 ?c17 ?k17 ?a18 ?l18 ?c18 ?k18 ?a19 ?l19 ?c19 ?k19 ?a20 ?l20 ?c20 ?k20 ?a21 ?l21 ?c21 ?k21 ?a22 ?l22 ?c22 ?k22 ?a23 ?l23 ?c23 ?k23 ?a24 ?l24 ?c24 ?k24 ?a25 ?l25 ?c25 ?k25 ?a26 ?l26 ?c26 ?k26 ?a27 ?l27 ?c27 ?k27 ?a28 ?l28 ?c28 ?k28 ?a29 ?l29 ?c29 ?k29 ?z_abs ?z_len ?z_list ?z_range ?z_min ?z_max ?z_tuple ?z_sorted ?z_isinstance ?z_all ?z_zip ?z_bool ?z_int ?z_str ?z_repr ?z_dict ?z_enumerate
    (case uHEa => k_is)
    (case uHEb => k_is)
    (case uHEc => k_is)
    (case uHEd => k_is)
    (case uUnknownPersona => k_is)
    (case uUnknownPersonb => k_is)
    (case uUnknownPersonc => k_is)
    (case uUnknownPersond => k_is)
    (case uUnknownPersone => k_is)
    (case uUnknownPersonf => k_is)
    (case uUnknownPersong => k_is)
    (case uUnknownPersonh => k_is)
    (case uUnknownPersoni => k_is)
    (case uUnknownPersonj => k_is)
    (case uUnknownPersonk => k_is)
    (case uUnknownPersonl => k_is)
    (case uUnknownPersonm => k_is)
    (case uUnknownPersonn => k_is)
    (case uUnknownPersono => k_is)
    (case uUnknownPersonp => k_is)
    (case uUnknownPersonq => k_is)
    (case uInvalidRooma => k_is)
    (case uInvalidRoomb => k_is)
    (case uInvalidRoomc => k_is)
    (case uInvalidRoomd => k_is)
    (case uInvalidRoome => k_is)
    (case uInvalidRoomf => k_is)
    (case uInvalidRoomg => k_is)
    (case uInvalidRoomh => k_is)
    (case uInvalidRoomi => k_is)
    (case uInvalidRoomj => k_is)
    (case uInvalidRoomk => k_is)
    (case uInvalidRooml => k_is)
    (case uInvalidRoomm => k_is)
    (case uInvalidRoomn => k_is)
    (case uInvalidRoomo => k_is)
    (case uInvalidRoomp => k_is)
    (case uInvalidRoomq => k_is)
    (case uNotAdjacenta => k_is)
    (case uNotAdjacentb => k_is)
    (case uNotAdjacentc => k_is)
    (case uNotAdjacentd => k_is)
    (case uNotAdjacente => k_is)
    (case uNotAdjacentf => k_is)
    (case uNotAdjacentg => k_is)
    (case uNotAdjacenth => k_is)
    (case uNotAdjacenti => k_is)
    (case uNotAdjacentj => k_is)
    (case uNotAdjacentk => k_is)
    (case uNotAdjacentl => k_is)
    (case uNotAdjacentm => k_is)
    (case uNotAdjacentn => k_is)
    (case uNotAdjacento => k_is)
    (case uNotAdjacentp => k_is)
    (case uNotAdjacentq => k_is)
    (case uEmptyRooma => k_is)
    (case uEmptyRoomb => k_is)
    (case uEmptyRoomc => k_is)
    (case uEmptyRoomd => k_is)
    (case uEmptyRoome => k_is)
    (case uEmptyRoomf => k_is)
    (case uEmptyRoomg => k_is)
    (case uEmptyRoomh => k_is)
    (case uEmptyRoomi => k_is)
    (case uEmptyRoomj => k_is)
    (case uEmptyRoomk => k_is)
    (case uEmptyRooml => k_is)
    (case uEmptyRoomm => k_is)
    (case uEmptyRoomn => k_is)
    (case uEmptyRoomo => k_is)
    (case uEmptyRoomp => k_is)
    (case uEmptyRoomq => k_is)
    (case uInvalidMovesa => k_is)
    (case uInvalidMovesb => k_is)
    (case uInvalidMovesc => k_is)
    (case uInvalidMovesd => k_is)
    (case uInvalidMovese => k_is)
    (case uInvalidMovesf => k_is)
    (case uInvalidMovesg => k_is)
    (case uInvalidMovesh => k_is)
    (case uInvalidMovesi => k_is)
    (case uInvalidMovesj => k_is)
    (case uInvalidMovesk => k_is)
    (case uInvalidMovesl => k_is)
    (case uInvalidMovesm => k_is)
    (case uInvalidMovesn => k_is)
    (case uInvalidMoveso => k_is)
    (case uInvalidMovesp => k_is)
    (case uInvalidMovesq => k_is)
    (case a1 => k_is)
    (case l1 => k_is)
    (case c1 => k_is)
    (case k1 => k_is)
    (case a2 => k_is)
    (case l2 => k_is)
    (case c2 => k_is)
    (case k2 => k_is)
    (case a3 => k_is)
    (case l3 => k_is)
    (case c3 => k_is)
    (case k3 => k_is)
    (case a4 => k_is)
    (case l4 => k_is)
    (case c4 => k_is)
    (case k4 => k_is)
    (case a5 => k_is)
    (case l5 => k_is)
    (case c5 => k_is)
    (case k5 => k_is)
    (case a6 => k_is)
    (case l6 => k_is)
    (case c6 => k_is)
    (case k6 => k_is)
    (case a7 => k_is)
    (case l7 => k_is)
    (case c7 => k_is)
    (case k7 => k_is)
    (case a8 => k_is)
    (case l8 => k_is)
    (case c8 => k_is)
    (case k8 => k_is)
    (case a9 => k_is)
    (case l9 => k_is)
    (case c9 => k_is)
    (case k9 => k_is)
    (case a10 => k_is)
    (case l10 => k_is)
    (case c10 => k_is)
    (case k10 => k_is)
    (case a11 => k_is)
    (case l11 => k_is)
    (case c11 => k_is)
    (case k11 => k_is)
    (case a12 => k_is)
    (case l12 => k_is)
    (case c12 => k_is)
    (case k12 => k_is)
    (case a13 => k_is)
    (case l13 => k_is)
    (case c13 => k_is)
    (case k13 => k_is)
    (case a14 => k_is)
    (case l14 => k_is)
    (case c14 => k_is)
    (case k14 => k_is)
    (case a15 => k_is)
    (case l15 => k_is)
    (case c15 => k_is)
    (case k15 => k_is)
    (case a16 => k_is)
    (case l16 => k_is)
    (case c16 => k_is)
    (case k16 => k_is)
    (case a17 => k_is)
    (case l17 => k_is)
    (case c17 => k_is)
    (case k17 => k_is)
    (case a18 => k_is)
    (case l18 => k_is)
    (case c18 => k_is)
    (case k18 => k_is)
    (case a19 => k_is)
    (case l19 => k_is)
    (case c19 => k_is)
    (case k19 => k_is)
    (case a20 => k_is)
    (case l20 => k_is)
    (case c20 => k_is)
    (case k20 => k_is)
    (case a21 => k_is)
    (case l21 => k_is)
    (case c21 => k_is)
    (case k21 => k_is)
    (case a22 => k_is)
    (case l22 => k_is)
    (case c22 => k_is)
    (case k22 => k_is)
    (case a23 => k_is)
    (case l23 => k_is)
    (case c23 => k_is)
    (case k23 => k_is)
    (case a24 => k_is)
    (case l24 => k_is)
    (case c24 => k_is)
    (case k24 => k_is)
    (case a25 => k_is)
    (case l25 => k_is)
    (case c25 => k_is)
    (case k25 => k_is)
    (case a26 => k_is)
    (case l26 => k_is)
    (case c26 => k_is)
    (case k26 => k_is)
    (case a27 => k_is)
    (case l27 => k_is)
    (case c27 => k_is)
    (case k27 => k_is)
    (case a28 => k_is)
    (case l28 => k_is)
    (case c28 => k_is)
    (case k28 => k_is)
    (case a29 => k_is)
    (case l29 => k_is)
    (case c29 => k_is)
    (case k29 => k_is)
    (case z_abs => k_is)
    (case z_len => k_is)
    (case z_list => k_is)
    (case z_range => k_is)
    (case z_min => k_is)
    (case z_max => k_is)
    (case z_tuple => k_is)
    (case z_sorted => k_is)
    (case z_isinstance => k_is)
    (case z_all => k_is)
    (case z_zip => k_is)
    (case z_bool => k_is)
    (case z_int => k_is)
    (case z_str => k_is)
    (case z_repr => k_is)
    (case z_dict => k_is)
    (case z_enumerate => k_is)
