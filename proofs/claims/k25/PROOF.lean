import PyProof.Rows.All
import Wide.All
import OpenK.AllK
import Wide.FinOn
import HandS.ForMost
import HandS.Wide
import HandS.Conv
import HandS.Style
import HandS.Sort
import HandS.SortRule
import HandS.SortInts
import HandS.Deep
import HandS.Text
import HandS.Words
import HandS.IsInst
import HandS.More
import HandS.TupSets
import HandS.Zip
import HandS.Walk
import KE.KDictPairs
import HandS.Small
import HandS.TupAny
import HandS.Flow
import HandS.NoneIn
import PyProof.CollectWalk
import PyProof.TupleOfGen
import PyProof.ZipIter
import KE.KDictZip
import KE.KTurns
import HandS.Iter
import HandS.ExcValue
import HandS.SetFor
import HandS.Strs
import PyProof.EqKinds
import HandS.DictComp
import HandS.Star
import PyProof.Rows.ReprOcc
import PyProof.ReprText
import PyProof.StrLawsRepr
import PyProof.CallStr
import PySem.Challenge.RW_fromwithin_k25_certificates_checked
set_option Elab.async false
set_option linter.all false
set_option maxRecDepth 100000
/-! Forests grown room by room: simple ways in them are unique. -/
namespace Fw

def adj (D : List (Int × Int)) (a b : Int) : Prop := (a, b) ∈ D ∨ (b, a) ∈ D

theorem adj_symm {D : List (Int × Int)} {a b : Int} (h : adj D a b) : adj D b a := h.symm

/-- a way without a room twice -/
inductive SP (R : Int → Int → Prop) : Int → Int → List Int → Prop
  | one (a : Int) : SP R a a [a]
  | cons {a c b : Int} {p : List Int} : R a c → SP R c b p → a ∉ p → SP R a b (a :: p)

section
variable {R R' : Int → Int → Prop}
theorem SP.head {a b : Int} {p : List Int} (h : SP R a b p) : a ∈ p := by
  cases h <;> simp
theorem SP.last {a b : Int} {p : List Int} (h : SP R a b p) : b ∈ p := by
  induction h with
  | one a => simp
  | cons _ _ _ ih => exact List.mem_cons_of_mem _ ih
theorem SP.loop {a : Int} {p : List Int} (h : SP R a a p) : p = [a] := by
  cases h with
  | one => rfl
  | cons r q n => exact absurd q.last n
theorem SP.nodup {a b : Int} {p : List Int} (h : SP R a b p) : p.Nodup := by
  induction h with
  | one a => simp
  | cons _ _ n ih => exact List.nodup_cons.mpr ⟨n, ih⟩
theorem SP.snoc {a b c : Int} {p : List Int} (h : SP R a b p) (r : R b c) (n : c ∉ p) : SP R a c (p ++ [c]) := by
  induction h with
  | one a =>
    refine .cons r (.one c) ?_
    intro e
    have e : a = c := List.mem_singleton.mp e
    exact n (by rw [e]; simp)
  | cons r' q n' ih =>
    rename_i a' c' b' p'
    rw [List.mem_cons, not_or] at n
    refine .cons r' (ih r n.2) ?_
    intro e
    rcases List.mem_append.mp e with e | e
    · exact n' e
    · exact n.1 (List.mem_singleton.mp e).symm
theorem SP.map {a b : Int} {p : List Int} (h : SP R a b p) (f : ∀ x y, x ∈ p → y ∈ p → R x y → R' x y) : SP R' a b p := by
  induction h with
  | one a => exact .one a
  | cons r q n ih =>
    exact .cons (f _ _ (List.mem_cons_self ..) (List.mem_cons_of_mem _ q.head) r) (ih fun x y hx hy => f x y (List.mem_cons_of_mem _ hx) (List.mem_cons_of_mem _ hy)) n
/-- what is closed under R and holds the end holds the start, and the other way -/
theorem SP.back {S : Int → Prop} (hs : ∀ x y, R x y → S y → S x) {a b : Int} {p : List Int} (h : SP R a b p) (e : S b) : S a := by
  induction h with
  | one a => exact e
  | cons r _ _ ih => exact hs _ _ r (ih e)
theorem SP.forth {S : Int → Prop} (hs : ∀ x y, R x y → S x → S y) {a b : Int} {p : List Int} (h : SP R a b p) (e : S a) : S b := by
  induction h with
  | one a => exact e
  | cons r _ _ ih => exact ih (hs _ _ r e)
end

def Uniq (R : Int → Int → Prop) : Prop := ∀ a b p q, SP R a b p → SP R a b q → p = q

section
variable {R R' : Int → Int → Prop} {u v : Int}
/-- one more leaf v, on u -/
structure Leaf (R R' : Int → Int → Prop) (u v : Int) : Prop where
  iff : ∀ x y, R' x y ↔ (R x y ∨ (x = u ∧ y = v) ∨ (x = v ∧ y = u))
  no1 : ∀ x, ¬ R v x
  no2 : ∀ x, ¬ R x v
  ne : u ≠ v
theorem Leaf.into (L : Leaf R R' u v) {x : Int} (h : R' x v) : x = u := by
  rcases (L.iff x v).mp h with h | h | h
  · exact absurd h (L.no2 x)
  · exact h.1
  · exact absurd h.2.symm L.ne
theorem Leaf.out (L : Leaf R R' u v) {x : Int} (h : R' v x) : x = u := by
  rcases (L.iff v x).mp h with h | h | h
  · exact absurd h (L.no1 x)
  · exact absurd h.1.symm L.ne
  · exact h.2
theorem Leaf.off (L : Leaf R R' u v) {x y : Int} (hx : x ≠ v) (hy : y ≠ v) (h : R' x y) : R x y := by
  rcases (L.iff x y).mp h with h | h | h
  · exact h
  · exact absurd h.2 hy
  · exact absurd h.1 hx
theorem Leaf.avoid (L : Leaf R R' u v) {a b : Int} {p : List Int} (h : SP R' a b p) (n : v ∉ p) : SP R a b p :=
  h.map fun x y hx hy r => L.off (fun e => n (e ▸ hx)) (fun e => n (e ▸ hy)) r
theorem Leaf.free (L : Leaf R R' u v) {a b : Int} {p : List Int} (h : SP R' a b p) (ha : a ≠ v) (hb : b ≠ v) : v ∉ p := by
  induction h with
  | one a =>
    intro e
    rw [List.mem_singleton] at e
    exact ha e.symm
  | cons r q n ih =>
    rename_i a' c' b' p'
    by_cases hc : c' = v
    · subst hc
      have e := L.into r
      cases q with
      | one => exact absurd rfl hb
      | cons r2 q2 n2 =>
        rename_i c2 p2
        have e2 := L.out r2
        exact absurd (List.mem_cons_of_mem _ (e ▸ e2 ▸ q2.head)) n
    · intro e
      rw [List.mem_cons] at e
      rcases e with e | e
      · exact ha e.symm
      · exact ih hc hb e
theorem Leaf.from (L : Leaf R R' u v) {b : Int} {p : List Int} (h : SP R' v b p) (hb : b ≠ v) : ∃ p', p = v :: p' ∧ SP R u b p' := by
  cases h with
  | one => exact absurd rfl hb
  | cons r q n =>
    rename_i c p'
    have e := L.out r
    subst e
    exact ⟨p', rfl, L.avoid q n⟩
theorem Leaf.to (L : Leaf R R' u v) {a b : Int} {p : List Int} (h : SP R' a b p) : a ≠ v → b = v → ∃ p', p = p' ++ [v] ∧ SP R a u p' := by
  induction h with
  | one a =>
    intro h1 h2
    exact absurd h2 h1
  | cons r q n ih =>
    rename_i a' c' b' p'
    intro h1 h2
    by_cases hc : c' = v
    · subst hc
      subst h2
      have e := L.into r
      subst e
      have e2 := q.loop
      subst e2
      exact ⟨[a'], rfl, .one _⟩
    · obtain ⟨p2, e, q2⟩ := ih hc h2
      refine ⟨a' :: p2, by rw [e]; rfl, .cons (L.off h1 hc r) q2 ?_⟩
      intro m
      exact n (by rw [e]; exact List.mem_append_left _ m)
theorem Leaf.uniq (L : Leaf R R' u v) (U : Uniq R) : Uniq R' := by
  intro a b p q hp hq
  by_cases ha : a = v
  · subst ha
    by_cases hb : b = a
    · subst hb
      rw [hp.loop, hq.loop]
    · obtain ⟨p', e1, s1⟩ := L.from hp hb
      obtain ⟨q', e2, s2⟩ := L.from hq hb
      rw [e1, e2, U _ _ _ _ s1 s2]
  · by_cases hb : b = v
    · obtain ⟨p', e1, s1⟩ := L.to hp ha hb
      obtain ⟨q', e2, s2⟩ := L.to hq ha hb
      rw [e1, e2, U _ _ _ _ s1 s2]
    · exact U _ _ _ _ (L.avoid hp (L.free hp ha hb)) (L.avoid hq (L.free hq ha hb))
end

/-- a forest, room by room: the rooms that stand, and the doors -/
inductive Grown : List Int → List (Int × Int) → Prop
  | nil : Grown [] []
  | room {U : List Int} {E : List (Int × Int)} (v : Int) : Grown U E → v ∉ U → Grown (v :: U) E
  | door {U : List Int} {E : List (Int × Int)} (v u a b : Int) : Grown U E → v ∉ U → u ∈ U → (a = min u v ∧ b = max u v) → Grown (v :: U) ((a, b) :: E)

theorem minmax (u v a b : Int) (h : a = min u v ∧ b = max u v) : (a = u ∧ b = v ∧ u ≤ v) ∨ (a = v ∧ b = u ∧ v ≤ u) := by
  omega

theorem Grown.ends {U : List Int} {E : List (Int × Int)} (g : Grown U E) : ∀ a b, (a, b) ∈ E → a ∈ U ∧ b ∈ U ∧ a < b := by
  induction g with
  | nil => intro a b h; cases h
  | room v g n ih => intro a b h; exact ⟨List.mem_cons_of_mem _ (ih a b h).1, List.mem_cons_of_mem _ (ih a b h).2.1, (ih a b h).2.2⟩
  | door v u x y g n hu hm ih =>
    intro a b h
    have hne : u ≠ v := fun e => n (e ▸ hu)
    rw [List.mem_cons] at h
    rcases h with h | h
    · injection h with h1 h2
      subst h1 h2
      rcases minmax u v a b hm with ⟨h1, h2, h3⟩ | ⟨h1, h2, h3⟩
      · subst h1 h2
        exact ⟨List.mem_cons_of_mem _ hu, List.mem_cons_self .., by omega⟩
      · subst h1 h2
        exact ⟨List.mem_cons_self .., List.mem_cons_of_mem _ hu, by omega⟩
    · exact ⟨List.mem_cons_of_mem _ (ih a b h).1, List.mem_cons_of_mem _ (ih a b h).2.1, (ih a b h).2.2⟩

theorem Grown.nodup {U : List Int} {E : List (Int × Int)} (g : Grown U E) : E.Nodup := by
  induction g with
  | nil => exact List.nodup_nil
  | room v g n ih => exact ih
  | door v u x y g n hu hm ih =>
    refine List.nodup_cons.mpr ⟨fun h => ?_, ih⟩
    have e := g.ends x y h
    rcases minmax u v x y hm with ⟨h1, h2, _⟩ | ⟨h1, h2, _⟩
    · exact n (h2 ▸ e.2.1)
    · exact n (h1 ▸ e.1)

theorem Grown.length {U : List Int} {E : List (Int × Int)} (g : Grown U E) : E.length ≤ U.length := by
  induction g with
  | nil => exact Nat.le_refl _
  | room v g n ih => exact Nat.le_succ_of_le ih
  | door v u x y g n hu hm ih => exact Nat.succ_le_succ ih

theorem Grown.uniq {U : List Int} {E : List (Int × Int)} (g : Grown U E) : Uniq (adj E) := by
  induction g with
  | nil =>
    intro a b p q hp hq
    have k : ∀ {p : List Int}, SP (adj []) a b p → p = [a] := by
      intro p hp
      cases hp with
      | one => rfl
      | cons r _ _ => rcases r with r | r <;> cases r
    rw [k hp, k hq]
  | room v g n ih => exact ih
  | @door U E v u x y g n hu hm ih =>
    have L : Leaf (adj E) (adj ((x, y) :: E)) u v := by
      refine ⟨fun a b => ?_, fun z h => ?_, fun z h => ?_, fun e => n (e ▸ hu)⟩
      · unfold adj
        simp only [List.mem_cons, Prod.mk.injEq]
        rcases minmax u v x y hm with ⟨h1, h2, _⟩ | ⟨h1, h2, _⟩
        · subst h1 h2
          constructor
          · rintro ((h | h) | (h | h))
            · exact .inr (.inl h)
            · exact .inl (.inl h)
            · exact .inr (.inr ⟨h.2, h.1⟩)
            · exact .inl (.inr h)
          · rintro ((h | h) | h | h)
            · exact .inl (.inr h)
            · exact .inr (.inr h)
            · exact .inl (.inl h)
            · exact .inr (.inl ⟨h.2, h.1⟩)
        · subst h1 h2
          constructor
          · rintro ((h | h) | (h | h))
            · exact .inr (.inr h)
            · exact .inl (.inl h)
            · exact .inr (.inl ⟨h.2, h.1⟩)
            · exact .inl (.inr h)
          · rintro ((h | h) | h | h)
            · exact .inl (.inr h)
            · exact .inr (.inr h)
            · exact .inr (.inl ⟨h.2, h.1⟩)
            · exact .inl (.inl h)
      · rcases h with h | h
        · exact n (g.ends _ _ h).1
        · exact n (g.ends _ _ h).2.1
      · rcases h with h | h
        · exact n (g.ends _ _ h).2.1
        · exact n (g.ends _ _ h).1
    exact L.uniq ih

/-- a door stands ahead of another -/
def Dlt (a b : Int × Int) : Prop := a.1 < b.1 ∨ (a.1 = b.1 ∧ a.2 < b.2)
/-- a forest of n rooms, as an ascending list of doors -/
def Forest (n : Int) (D : List (Int × Int)) : Prop := ∃ U E, Grown U E ∧ (∀ x, x ∈ U ↔ 0 ≤ x ∧ x < n) ∧ D.Perm E ∧ U.length ≤ 8 ∧ D.Pairwise Dlt

theorem adj_perm {D E : List (Int × Int)} (h : D.Perm E) : adj D = adj E := by
  funext a b
  unfold adj
  rw [h.mem_iff, h.mem_iff]
theorem Forest.uniq {n : Int} {D : List (Int × Int)} (f : Forest n D) : Uniq (adj D) := by
  obtain ⟨U, E, g, _, p, _⟩ := f
  rw [adj_perm p]
  exact g.uniq
theorem Forest.nodup {n : Int} {D : List (Int × Int)} (f : Forest n D) : D.Nodup := by
  obtain ⟨U, E, g, _, p, _⟩ := f
  exact p.nodup_iff.mpr g.nodup
theorem Forest.up {n : Int} {D : List (Int × Int)} (f : Forest n D) : D.Pairwise Dlt := by
  obtain ⟨U, E, _, _, _, _, u⟩ := f
  exact u
theorem Forest.len {n : Int} {D : List (Int × Int)} (f : Forest n D) : D.length ≤ 8 := by
  obtain ⟨U, E, g, _, p, l, _⟩ := f
  rw [p.length_eq]
  exact Nat.le_trans g.length l
theorem Forest.ends {n : Int} {D : List (Int × Int)} (f : Forest n D) {a b : Int} (h : (a, b) ∈ D) : 0 ≤ a ∧ a < b ∧ b < n := by
  obtain ⟨U, E, g, u, p, _⟩ := f
  have e := g.ends a b (p.mem_iff.mp h)
  exact ⟨((u a).mp e.1).1, e.2.2, ((u b).mp e.2.1).2⟩
theorem Forest.adj {n : Int} {D : List (Int × Int)} (f : Forest n D) {a b : Int} (h : adj D a b) : 0 ≤ a ∧ a < n ∧ 0 ≤ b ∧ b < n := by
  rcases h with h | h
  · have e := f.ends h; omega
  · have e := f.ends h; omega

/-- the adjacent rooms, ascending -/
def nb (n : Int) (D : List (Int × Int)) (r : Int) : List Int := ((List.range n.toNat).map fun (i : Nat) => (i : Int)).filter fun o => decide ((r, o) ∈ D) || decide ((o, r) ∈ D)
theorem mem_nb {n : Int} {D : List (Int × Int)} {r o : Int} : o ∈ nb n D r ↔ (0 ≤ o ∧ o < n) ∧ adj D r o := by
  unfold nb adj
  rw [List.mem_filter, List.mem_map]
  simp only [List.mem_range, Bool.or_eq_true, decide_eq_true_eq]
  constructor
  · rintro ⟨⟨i, hi, rfl⟩, h⟩
    exact ⟨⟨by omega, by omega⟩, h⟩
  · rintro ⟨⟨h0, h1⟩, h⟩
    exact ⟨⟨o.toNat, by omega, by omega⟩, h⟩
theorem Forest.mem_nb {n : Int} {D : List (Int × Int)} (f : Forest n D) {r o : Int} : o ∈ nb n D r ↔ Fw.adj D r o := by
  rw [Fw.mem_nb]
  exact ⟨fun h => h.2, fun h => ⟨⟨(f.adj h).2.2.1, (f.adj h).2.2.2⟩, h⟩⟩
theorem range_up (n : Nat) : ((List.range n).map fun (i : Nat) => (i : Int)).Pairwise (· < ·) := by
  rw [List.pairwise_map]
  exact List.pairwise_lt_range.imp fun h => by omega
theorem nb_up (n : Int) (D : List (Int × Int)) (r : Int) : (nb n D r).Pairwise (· < ·) := (range_up _).filter _
theorem nb_len (n : Int) (D : List (Int × Int)) (r : Int) : (nb n D r).length ≤ n.toNat := by
  unfold nb
  refine Nat.le_trans (List.length_filter_le _ _) ?_
  simp

/-- two ascending lists with the same members are one -/
theorem up_ext : ∀ {xs ys : List Int}, xs.Pairwise (· < ·) → ys.Pairwise (· < ·) → (∀ x, x ∈ xs ↔ x ∈ ys) → xs = ys
  | [], [], _, _, _ => rfl
  | [], y :: ys, _, _, h => absurd ((h y).mpr (List.mem_cons_self ..)) (by simp)
  | x :: xs, [], _, _, h => absurd ((h x).mp (List.mem_cons_self ..)) (by simp)
  | x :: xs, y :: ys, hx, hy, h => by
    obtain ⟨hx1, hx2⟩ := List.pairwise_cons.mp hx
    obtain ⟨hy1, hy2⟩ := List.pairwise_cons.mp hy
    have e : x = y := by
      have h1 := (h x).mp (List.mem_cons_self ..)
      have h2 := (h y).mpr (List.mem_cons_self ..)
      rw [List.mem_cons] at h1 h2
      rcases h1 with h1 | h1
      · exact h1
      · rcases h2 with h2 | h2
        · exact h2.symm
        · have := hy1 _ h1
          have := hx1 _ h2
          omega
    subst e
    rw [up_ext hx2 hy2 fun z => ?_]
    have hz := h z
    rw [List.mem_cons, List.mem_cons] at hz
    constructor
    · intro m
      rcases hz.mp (.inr m) with e | e
      · subst e; have := hx1 _ m; omega
      · exact e
    · intro m
      rcases hz.mpr (.inr m) with e | e
      · subst e; have := hy1 _ m; omega
      · exact e
theorem up_of {xs : List Int} (h : xs.Pairwise (· ≤ ·)) (n : xs.Nodup) : xs.Pairwise (· < ·) := by
  refine (h.and n).imp ?_
  intro a b ⟨h1, h2⟩
  omega

/-- the doors from r and to r, as the law lists them -/
def outs (D : List (Int × Int)) (r : Int) : List Int := (D.filter fun d => decide (d.1 = r)).map (·.2)
def ins (D : List (Int × Int)) (r : Int) : List Int := (D.filter fun d => decide (d.2 = r)).map (·.1)
theorem mem_outs {D : List (Int × Int)} {r o : Int} : o ∈ outs D r ↔ (r, o) ∈ D := by
  unfold outs
  simp only [List.mem_map, List.mem_filter, decide_eq_true_eq]
  constructor
  · rintro ⟨⟨a, b⟩, ⟨h, rfl⟩, rfl⟩; exact h
  · intro h; exact ⟨(r, o), ⟨h, rfl⟩, rfl⟩
theorem mem_ins {D : List (Int × Int)} {r o : Int} : o ∈ ins D r ↔ (o, r) ∈ D := by
  unfold ins
  simp only [List.mem_map, List.mem_filter, decide_eq_true_eq]
  constructor
  · rintro ⟨⟨a, b⟩, ⟨h, rfl⟩, rfl⟩; exact h
  · intro h; exact ⟨(o, r), ⟨h, rfl⟩, rfl⟩
theorem nodup_map_on {α β : Type} {f : α → β} : ∀ {xs : List α}, xs.Nodup → (∀ x y, x ∈ xs → y ∈ xs → f x = f y → x = y) → (xs.map f).Nodup
  | [], _, _ => List.nodup_nil
  | x :: xs, n, h => by
    obtain ⟨n1, n2⟩ := List.nodup_cons.mp n
    rw [List.map_cons]
    refine List.nodup_cons.mpr ⟨fun m => ?_, nodup_map_on n2 fun a b ha hb => h a b (List.mem_cons_of_mem _ ha) (List.mem_cons_of_mem _ hb)⟩
    obtain ⟨y, hy, e⟩ := List.mem_map.mp m
    have := h y x (List.mem_cons_of_mem _ hy) (List.mem_cons_self ..) e
    subst this
    exact n1 hy
theorem Forest.both_nodup {n : Int} {D : List (Int × Int)} (f : Forest n D) (r : Int) : (outs D r ++ ins D r).Nodup := by
  rw [List.nodup_append]
  refine ⟨?_, ?_, ?_⟩
  · refine nodup_map_on (f.nodup.filter _) ?_
    rintro ⟨a, b⟩ ⟨c, d⟩ h1 h2 e
    have e1 := of_decide_eq_true (List.mem_filter.mp h1).2
    have e2 := of_decide_eq_true (List.mem_filter.mp h2).2
    simp only at e e1 e2
    rw [e, e1, e2]
  · refine nodup_map_on (f.nodup.filter _) ?_
    rintro ⟨a, b⟩ ⟨c, d⟩ h1 h2 e
    have e1 := of_decide_eq_true (List.mem_filter.mp h1).2
    have e2 := of_decide_eq_true (List.mem_filter.mp h2).2
    simp only at e e1 e2
    rw [e, e1, e2]
  · intro a ha b hb e
    subst e
    have h1 := f.ends (mem_outs.mp ha)
    have h2 := f.ends (mem_ins.mp hb)
    omega
theorem Forest.sorted_nb {n : Int} {D : List (Int × Int)} (f : Forest n D) {r : Int} {ys : List Int} (p : ys.Perm (outs D r ++ ins D r)) (s : ys.Pairwise (· ≤ ·)) : ys = nb n D r := by
  refine up_ext (up_of s (p.nodup_iff.mpr (f.both_nodup r))) (nb_up n D r) fun x => ?_
  rw [p.mem_iff, List.mem_append, mem_outs, mem_ins, f.mem_nb]
  exact Iff.rfl

/-- the doors to r and from r, one list behind the other, as the program lists them -/
theorem Forest.nb_eq {n : Int} {D : List (Int × Int)} (f : Forest n D) (r : Int) : ins D r ++ outs D r = nb n D r := by
  refine up_ext ?_ (nb_up n D r) fun x => ?_
  · rw [List.pairwise_append]
    refine ⟨?_, ?_, fun a ha b hb => ?_⟩
    · unfold ins
      rw [List.pairwise_map]
      refine (f.up.filter _).imp_of_mem fun {x y} hx hy h => ?_
      have e1 : x.2 = r := of_decide_eq_true (List.mem_filter.mp hx).2
      have e2 : y.2 = r := of_decide_eq_true (List.mem_filter.mp hy).2
      unfold Dlt at h
      omega
    · unfold outs
      rw [List.pairwise_map]
      refine (f.up.filter _).imp_of_mem fun {x y} hx hy h => ?_
      have e1 : x.1 = r := of_decide_eq_true (List.mem_filter.mp hx).2
      have e2 : y.1 = r := of_decide_eq_true (List.mem_filter.mp hy).2
      unfold Dlt at h
      omega
    · have h1 := f.ends (mem_ins.mp ha)
      have h2 := f.ends (mem_outs.mp hb)
      omega
  · rw [List.mem_append, mem_outs, mem_ins, f.mem_nb]
    exact or_comm
/-- how many rooms below n are not in S: it falls when one more is -/
def left (n : Nat) (S : Int → Bool) : Nat := (List.range n).countP fun (i : Nat) => !S (i : Int)
theorem countP_lt {α : Type} {p q : α → Bool} : ∀ {l : List α} {x : α}, (∀ y ∈ l, q y = true → p y = true) → x ∈ l → p x = true → q x = false → l.countP q < l.countP p
  | [], _, _, m, _, _ => by cases m
  | y :: l, x, h, m, hp, hq => by
    have hm : l.countP q ≤ l.countP p := List.countP_mono_left fun z hz => h z (List.mem_cons_of_mem _ hz)
    rw [List.countP_cons, List.countP_cons]
    rw [List.mem_cons] at m
    by_cases e : x = y
    · subst e
      rw [if_neg (by rw [hq]; exact Bool.false_ne_true), if_pos hp]
      omega
    · have ih := countP_lt (fun z hz => h z (List.mem_cons_of_mem _ hz)) (m.resolve_left e) hp hq
      have hy := h y (List.mem_cons_self ..)
      by_cases c : q y = true
      · rw [if_pos c, if_pos (hy c)]; omega
      · rw [if_neg c]; omega
theorem left_lt {n : Nat} {S S' : Int → Bool} {o : Int} (h : ∀ x, S x = true → S' x = true) (h0 : 0 ≤ o) (h1 : o < n) (hs : S o = false) (hs' : S' o = true) : left n S' < left n S := by
  refine countP_lt (x := o.toNat) (fun y _ hy => ?_) (List.mem_range.mpr (by omega)) ?_ ?_
  · cases e : S (y : Int) with
    | false => rfl
    | true => rw [h _ e] at hy; cases hy
  · rw [show ((o.toNat : Nat) : Int) = o by omega, hs]; rfl
  · rw [show ((o.toNat : Nat) : Int) = o by omega, hs']; rfl
theorem left_le (n : Nat) (S : Int → Bool) : left n S ≤ n := by
  refine Nat.le_trans List.countP_le_length ?_
  simp
end Fw
namespace Fw
open PySem PySem.Spec PyProof.Rows L2
def top (i : Nat) : Stmt := PySem.Challenge.pw_fromwithin_k25_certificates_checked.main.body.getD i (.Pass ⟨0, 0, 0, 0⟩)
abbrev sIsInt : Stmt := top 1
abbrev iUnknownPerson : Stmt := inClass (top 4) 0
abbrev sNb : Stmt := top 6
abbrev sPath : Stmt := top 7
abbrev sComp : Stmt := top 8
abbrev sSteps : Stmt := top 9
abbrev sRoomOf : Stmt := top 11
abbrev sPIn : Stmt := top 12
abbrev sPWi : Stmt := top 13
abbrev sPassed : Stmt := top 15
abbrev sPTgt : Stmt := top 16
abbrev sNextT : Stmt := top 17
abbrev sAllAt : Stmt := top 18
abbrev sAhead : Stmt := top 19
abbrev sFCert : Stmt := top 21
abbrev sUnw : Stmt := top 22
abbrev sRTry : Stmt := top 23
abbrev sRPas : Stmt := top 24
abbrev sRBack : Stmt := top 25
abbrev sCond : Stmt := top 26
abbrev sHWB : Stmt := top 27
abbrev sIsCert : Stmt := top 28
abbrev sIsRow : Stmt := top 29
abbrev sStream : Stmt := top 31
abbrev sSame : Stmt := top 32
abbrev sDraw : Stmt := top 33
abbrev sNames : Stmt := top 34
abbrev sLNb : Stmt := top 35
abbrev sConn : Stmt := top 36
abbrev sLReg : Stmt := top 37
abbrev sLPath : Stmt := top 38
abbrev sLPassing : Stmt := top 39
abbrev sLFree : Stmt := top 40
abbrev sLStill : Stmt := top 41
abbrev sLCLeft : Stmt := top 42
abbrev sLNextR : Stmt := top 43
abbrev sLSolv : Stmt := top 44
abbrev sLOutside : Stmt := top 45
abbrev sLClosed : Stmt := top 46
abbrev sLUnw : Stmt := top 47
abbrev sLIsRow : Stmt := top 48
abbrev sLIsCert : Stmt := top 49
abbrev sLFull : Stmt := top 50
abbrev sLNear : Stmt := top 51
abbrev sMut : Stmt := top 52
abbrev sLRR : Stmt := top 53
abbrev sLAny : Stmt := top 54
abbrev sLCross : Stmt := top 55
abbrev sLThg : Stmt := top 56
abbrev sLHolds : Stmt := top 57
abbrev sLaw : Stmt := top 58
end Fw
namespace Fw
open PySem PySem.Spec PyProof.Rows L2
abbrev vi (ns : List Int) : List V := ns.map V.int

theorem same_upd {H : Hp} {p : Addr} {o : HO} (h : H p = none) : Same H (upd H p o) := fun b x e => by
  rw [upd_ne (ne_of_none e h)]
  exact e

/-- the stream of draws: s the list of three, A the great cells, B all cells; c bounds the count -/
structure StreamAt (H : Hp) (s A B : Addr) (c : Nat) : Prop where
  ex : ∃ (big cells : List Int) (cnt : Int), H s = some (.lst [.ref A, .ref B, .int cnt]) ∧ H A = some (.lst (vi big)) ∧ H B = some (.lst (vi cells)) ∧
    (∀ x ∈ big, 0 ≤ x) ∧ (∀ x ∈ cells, 0 ≤ x) ∧ 0 < cells.length ∧ cells.length ≤ 100 ∧ big.length ≤ 100 ∧ 0 ≤ cnt ∧ cnt ≤ c
  nAB : A ≠ B
  nsA : s ≠ A
  nsB : s ≠ B
/-- all but the stream's own lists stands as before -/
def Fr (s A : Addr) (H H' : Hp) : Prop := ∀ b o, b ≠ s → b ≠ A → H b = some o → H' b = some o
theorem Fr.trans {s A : Addr} {H H1 H2 : Hp} (a : Fr s A H H1) (b : Fr s A H1 H2) : Fr s A H H2 := fun c o h1 h2 e => b c o h1 h2 (a c o h1 h2 e)
theorem Fr.of {s A : Addr} {H H1 : Hp} (a : Same H H1) : Fr s A H H1 := fun c o _ _ e => a c o e

theorem same_put {H H1 : Hp} {p : Addr} {o : HO} (s : Same H H1) (h : H p = none) : Same H (upd H1 p o) := fun b x e => by
  rw [upd_ne (ne_of_none e h)]
  exact s _ _ e
theorem get_vi {ns : List Int} {i : Nat} {x : V} (h : (vi ns)[i]? = some x) : ∃ v, ns[i]? = some v ∧ x = .int v := by
  rw [List.getElem?_map] at h
  cases e : ns[i]? with
  | none => rw [e] at h; cases h
  | some v => rw [e] at h; exact ⟨v, rfl, (Option.some.inj h).symm⟩
theorem vi_app (a b : List Int) : vi (a ++ b) = vi a ++ vi b := List.map_append
def absI (i : Int) : Int := if i < 0 then -i else i
theorem absI_pos (i : Int) : 0 ≤ absI i := by unfold absI; split <;> omega
/-- the builtins' names are not taken -/
structure Nm (mg : Str → Option Value) : Prop where
  abs : mg "abs" = none
  len : mg "len" = none
  list : mg "list" = none
  range : mg "range" = none
  min : mg "min" = none
  max : mg "max" = none
  tuple : mg "tuple" = none
  sorted : mg "sorted" = none
  isinstance : mg "isinstance" = none
  all : mg "all" = none
  zip : mg "zip" = none
  bool : mg "bool" = none
  int : mg "int" = none
  str : mg "str" = none
  repr : mg "repr" = none

/-! ### data -/
theorem dp_ints {K : PySem.W.Frag} {H : Hp} : ∀ ns : List Int, DpAll K H (vi ns) (ns.map PyData.int)
  | [] => .nil
  | n :: ns => .cons (.int n) (dp_ints ns)
theorem lay_ints : ∀ ns : List Int, PyData.canLayAll0 (ns.map PyData.int) = true
  | [] => by simp [PyData.canLayAll0]
  | n :: ns => by
    rw [List.map_cons, PyData.canLayAll0, lay_ints ns, PyData.canLay0]
    rfl
theorem deep_ints : ∀ ns : List Int, PyData.depthAll (ns.map PyData.int) = 0
  | [] => by simp [PyData.depthAll]
  | n :: ns => by
    rw [List.map_cons, PyData.depthAll, deep_ints ns, PyData.depth]
    rfl
theorem shaped_list (ns : List Int) : SeqAt.shaped (.list (ns.map PyData.int)) = true := by
  unfold SeqAt.shaped
  rw [PyData.canLay0, lay_ints, PyData.depth, deep_ints]
  decide
theorem shaped_tup (ns : List Int) : SeqAt.shaped (.tuple (ns.map PyData.int)) = true := by
  unfold SeqAt.shaped
  rw [PyData.canLay0, lay_ints, PyData.depth, deep_ints]
  decide
theorem eqv_nil (ns : List Int) : PyData.eqv (.list (ns.map PyData.int)) (.list []) = ns.isEmpty := by
  rw [PyData.eqv]
  cases ns with
  | nil => rw [List.map_nil, PyData.eqvAll]; rfl
  | cons n ns => rw [List.map_cons, PyData.eqvAll]; rfl
theorem ix0 (n : Nat) : ixN (n + 1) 0 = some 0 := by
  unfold ixN
  rw [if_pos (by omega), if_pos (by omega)]
  rfl
theorem atI0 {α : Type} {x : α} {xs : List α} : atI (x :: xs) 0 = some x := atI_nat (j := 0) rfl
theorem atI1 {α : Type} {x y : α} {xs : List α} : atI (x :: y :: xs) 1 = some y := atI_nat (j := 1) rfl
theorem atI2 {α : Type} {x y z : α} {xs : List α} : atI (x :: y :: z :: xs) 2 = some z := atI_nat (j := 2) rfl

section
variable {P : Program} {w : World} {K : PySem.W.Frag} {mg : Str → Option Value} {base : Heap}

def spStream (K : PySem.W.Frag) : Sp := fun vs H Q _ => ∃ (a : Addr) (ns : List Int), vs = [.ref a] ∧ SqL K H a (ns.map V.int) ∧ ns.length ≤ 63 ∧
  ∀ H' s A B, Same H H' → H s = none → H A = none → StreamAt H' s A B 0 → Q (.ref s) H'

theorem scStream : FnScope ["_law_script", "_law_cells", "_law_cell"] ["_law_script"] (defScope sStream) := ⟨rfl, rfl, rfl, by decide +kernel, rfl, by decide +kernel, by decide +kernel⟩
theorem ok_stream {f : Addr} {fd : FuncData} {k : Nat} (F : Fun K "_law_stream" "_law_stream" sStream f fd) (T : Nm mg) : FnOk P w K mg base CX0 (k + 1) f fd ["_law_script"] (spStream K) := by
  refine F.ok scStream (fun vs H Q E h => ?_) (fun cdv A outer s H vs Q E hr h => ?_)
  · obtain ⟨a, ns, rfl, _⟩ := h
    rfl
  · obtain ⟨a, ns, rfl, hS, hlen, q⟩ := h
    refine ⟨_, pss_cons (ps_setLc (i := 1) (own := [("_law_cell", 2)]) (g := gName 2) (by rfl) scStream.nd rfl rfl (sw_true rfl rfl rfl (by decide +kernel)) (pi_list (pv 0))
        (blkOk_by (own := [("_law_cell", 2)]) (N := ["_law_script", "_law_cells", "_law_cell"]) (sc := defScope sStream) (by decide +kernel))
        (fun _ _ _ _ _ => pg_name (i := 2) scStream.nd rfl (Or.inl rfl)) (fun _ _ _ _ _ => pts_nil)
        (fun _ _ _ _ _ => pe_callB call_abs (by rfl) T.abs (by decide +kernel) (pa_cons (pv 2) pa_nil)))
      (pss_one (ps_ret (pe_lst (pa_cons
        (pe_lc (own := [("_law_cell", 2)]) (g := gName 2) (by rfl) scStream.nd (pi_list (pv 1))
          (blkOk_by (own := [("_law_cell", 2)]) (N := ["_law_script", "_law_cells", "_law_cell"]) (sc := defScope sStream) (by decide +kernel))
          (fun _ _ _ _ _ => pg_name (i := 2) scStream.nd rfl (Or.inl rfl)) (fun _ _ _ _ _ => pts_one (pt_cmpR op_ge (pv 2) (pe_op op_pow pe_int pe_int) (nomark _)))
          (fun _ _ _ _ _ => pv 2))
        (pa_cons (pe_op op_cat (pv 1) (pe_lst (pa_cons (pe_op op_add (pe_callB call_len_seq (by rfl) T.len PySem.boot_len (pa_cons (pv 1) pa_nil)) pe_int) pa_nil)))
        (pa_cons pe_int pa_nil)))))), ?_⟩
    refine ⟨.ref a, rfl, a, rfl, ⟨_, hS⟩, fun D hD => lc_list (K := K) (a := a) (xs := vi ns) (fun i H1 => Same H H1 ∧ H1 D = some (.lst (vi ((ns.map absI).take i))))
      ⟨same_upd hD, upd_same⟩ (fun i H1 _ h => h.1.seq hS) ?_ ?_⟩
    · rintro i x H1 hx ⟨s1, e1⟩
      obtain ⟨v, ev, rfl⟩ := get_vi hx
      refine ⟨rfl, ?_⟩
      unfold tYes
      refine iteT ?_
      refine ⟨_, rfl, v, rfl, _, e1, ?_, ?_, ?_⟩
      · rw [List.length_map, List.length_take, List.length_map]
        exact small1000 (by omega)
      · exact same_put s1 hD
      · rw [upd_same, List.take_add_one, List.getElem?_map, ev, vi_app]
        rfl
    · rintro H1 ⟨s1, e1⟩
      rw [List.length_map, ← List.length_map (f := absI), List.take_length] at e1
      refine ⟨_, rfl, D, rfl, ⟨_, SqL.of e1⟩, fun G hG => lc_list (K := K) (a := D) (xs := vi (ns.map absI)) (fun i H2 => Same H1 H2 ∧ H2 G = some (.lst (vi (((ns.map absI).take i).filter fun x => decide (10 ^ 18 ≤ x)))))
        ⟨same_upd hG, upd_same⟩ (fun i H2 _ h => h.1.seq (SqL.of e1)) ?_ ?_⟩
      · rintro i x H2 hx ⟨s2, e2⟩
        obtain ⟨v, ev, rfl⟩ := get_vi hx
        refine ⟨rfl, _, rfl, _, _, rfl, rfl, ⟨by decide, by decide, by decide⟩, _, _, rfl, rfl, _, rfl, ?_⟩
        have et : ((ns.map absI).take (i + 1)).filter (fun x => decide (10 ^ 18 ≤ x)) = ((ns.map absI).take i).filter (fun x => decide (10 ^ 18 ≤ x)) ++ (if 10 ^ 18 ≤ v then [v] else []) := by
          rw [List.take_add_one, ev, List.filter_append]
          congr 1
          by_cases c : (10 : Int) ^ 18 ≤ v
          · rw [if_pos c]
            show List.filter _ [v] = [v]
            rw [List.filter_cons_of_pos (by simpa using c)]
            rfl
          · rw [if_neg c]
            show List.filter _ [v] = []
            rw [List.filter_cons_of_neg (by simpa using c)]
            rfl
        refine ite2 (fun c => ?_) (fun c => ?_)
        · have c : (10 : Int) ^ 18 ≤ v := of_decide_eq_true c
          refine ⟨_, rfl, _, e2, ?_, same_put s2 hG, ?_⟩
          · rw [List.length_map]
            refine small1000 (Nat.le_trans (List.length_filter_le _ _) ?_)
            rw [List.length_take, List.length_map]
            omega
          · rw [upd_same, et, if_pos c, vi_app]
            rfl
        · have c : ¬ (10 : Int) ^ 18 ≤ v := fun e => c (decide_eq_true e)
          refine ⟨s2, ?_⟩
          rw [et, if_neg c, List.append_nil]
          exact e2
      · rintro H2 ⟨s2, e2⟩
        rw [List.length_map, List.take_length] at e2
        have e1' := s2 _ _ e1
        refine ⟨_, rfl, _, rfl, D, _, rfl, .inl (SqL.of e1'), _, _, rfl, rfl, by show 1 ≤ sizeLine; decide, fun O hO => ?_⟩
        have e1'' := same_upd (o := .lst [.int (((vi (ns.map absI)).length : Nat) + 3)]) hO _ _ e1'
        refine ⟨D, O, _, _, rfl, rfl, e1'', upd_same, ?_, fun B hB => ?_⟩
        · simp only [List.length_map, List.length_append, List.length_cons, List.length_nil]
          exact Nat.le_of_lt (small1000 (by omega))
        refine ⟨by show 3 ≤ sizeLine; decide, fun S hS' => ?_⟩
        have nGS : S ≠ G := fun e => by
          rw [e] at hS'
          exact absurd hS' (by rw [same_upd hB _ _ (same_upd hO _ _ e2)]; exact nofun)
        have nBS : S ≠ B := fun e => by
          rw [e, upd_same] at hS'
          cases hS'
        have nGB : G ≠ B := fun e => by
          rw [← e] at hB
          exact absurd hB (by rw [same_upd hO _ _ e2]; exact nofun)
        have sA : Same H (upd (upd H2 O (.lst [.int (((vi (ns.map absI)).length : Nat) + 3)])) B (.lst (vi (ns.map absI) ++ [.int (((vi (ns.map absI)).length : Nat) + 3)]))) := (s1.trans s2).trans ((same_upd hO).trans (same_upd hB))
        refine q _ S G B (sA.trans (same_upd hS')) (sA.free hS') (s1.free hG) ⟨⟨(ns.map absI).filter (fun x => decide (10 ^ 18 ≤ x)), ns.map absI ++ [((ns.length : Nat) : Int) + 3], 0, upd_same, ?_, ?_, ?_, ?_, ?_, ?_, ?_, Int.le_refl _, Int.le_refl _⟩, nGB, nGS, nBS⟩
        · rw [upd_ne nGS.symm, upd_ne nGB, same_upd hO _ _ e2]
        · rw [upd_ne nBS.symm, upd_same, vi_app]
          show some (HO.lst (vi (ns.map absI) ++ [V.int (((vi (ns.map absI)).length : Nat) + 3)])) = _
          rw [List.length_map, List.length_map]
          rfl
        · intro x hx
          obtain ⟨y, _, rfl⟩ := List.mem_map.mp (List.mem_filter.mp hx).1
          exact absI_pos y
        · intro x hx
          rcases List.mem_append.mp hx with hx | hx
          · obtain ⟨y, _, rfl⟩ := List.mem_map.mp hx
            exact absI_pos y
          · rw [List.mem_singleton.mp hx]
            omega
        · simp
        · simp only [List.length_map, List.length_append, List.length_cons, List.length_nil]
          omega
        · refine Nat.le_trans (List.length_filter_le _ _) ?_
          rw [List.length_map]
          omega

theorem lg60 {m : Int} (h0 : 0 < m) (h1 : m < 2 ^ 60) : m.natAbs.log2 < 9000 := by
  have : m.natAbs ≠ 0 := by omega
  have h2 : m.natAbs < 2 ^ 60 := by omega
  have := (Nat.log2_lt this).mpr h2
  omega
def spDraw : Sp := fun vs H Q _ => ∃ (s A B : Addr) (c : Nat) (m : Int), vs = [.ref s, .int m] ∧ StreamAt H s A B c ∧ c < 2 ^ 40 ∧ 0 < m ∧ m < 2 ^ 60 ∧
  ∀ H' r, StreamAt H' s A B (c + 1) → Fr s A H H' → 0 ≤ r → r < m → Q (.int r) H'

theorem scDraw : FnScope ["_law_stream_here", "_law_many", "_law_rest", "_law_turn", "_law_cell", "_law_mixed"] ["_law_stream_here", "_law_many"] (defScope sDraw) := ⟨rfl, rfl, rfl, by decide +kernel, rfl, by decide +kernel, by decide +kernel⟩
theorem ok_draw {f : Addr} {fd : FuncData} {k : Nat} (F : Fun K "_law_draw" "_law_draw" sDraw f fd) (T : Nm mg) : FnOk P w K mg base CX0 (k + 1) f fd ["_law_stream_here", "_law_many"] spDraw := by
  refine F.ok scDraw (fun vs H Q E h => ?_) (fun cdv A outer s H vs Q E hr h => ?_)
  · obtain ⟨s, A, B, c, m, rfl, _⟩ := h
    rfl
  · obtain ⟨s, A, B, c, m, rfl, hS, hc, hm0, hm1, q⟩ := h
    refine ⟨_, pss_cons (ps_while PassesOwn.never (pt_cmpR (op_neD hr.units) (pe_ix ix_list (pv 0) pe_int (fun _ _ => rfl)) (pe_lst pa_nil) (nomark _))
        (pss_cons (ps_set (i := 2) scDraw.nd rfl (.inl rfl) (pe_ix ix_list (pe_ix ix_list (pv 0) pe_int (fun _ _ => rfl)) pe_int (fun _ _ => rfl)))
        (pss_cons (ps_if (pt_cmpR op_gt (pv 2) pe_int (nomark _))
          (pss_cons (ps_asg (pe_op op_fdivW (pv 2) (pv 1)) (pg_sub (pe_ix ix_list (pv 0) pe_int (fun _ _ => rfl)) pe_int set_list))
          (pss_one (ps_ret (pe_op op_modN (pv 2) (pv 1))))) pss_nil)
        (pss_one (ps_expr (pe_bm PySem.F.plainAttrs_list PySem.F.slot_list_pop PySem.F.type_list_pop mt_popAt (pe_ix ix_list (pv 0) pe_int (fun _ _ => rfl)) (pa_cons pe_int pa_nil)))))))
      (pss_cons (ps_set (i := 3) scDraw.nd rfl (.inl rfl) (pe_op op_add (pe_ix ix_list (pv 0) pe_int (fun _ _ => rfl)) pe_int))
      (pss_cons (ps_asg (pv 3) (pg_sub (pv 0) pe_int set_list))
      (pss_cons (ps_set (i := 4) scDraw.nd rfl (.inl rfl) (pe_op op_modN (pe_ix ix_list (pe_ix ix_list (pv 0) pe_int (fun _ _ => rfl)) (pe_op op_modN (pv 3) (pe_callB call_len_seq (by rfl) T.len PySem.boot_len (pa_cons (pe_ix ix_list (pv 0) pe_int (fun _ _ => rfl)) pa_nil))) (fun _ _ => rfl)) pe_int))
      (pss_cons (ps_set (i := 5) scDraw.nd rfl (.inl rfl) (pe_op op_add (pe_op op_add (pe_op op_mul (pv 4) (pe_op op_add pe_int (pe_op op_mul pe_int (pv 3)))) (pe_op op_mul (pe_op op_mul pe_int (pv 3)) (pv 3))) pe_int))
      (pss_cons (ps_set (i := 5) scDraw.nd rfl (.inl rfl) (pe_op op_modN (pv 5) pe_int))
      (pss_one (ps_ret (pe_op op_modN (pe_op op_fdivN (pe_op op_modN (pe_op op_mul (pv 5) (pv 5)) pe_int) pe_int) (pv 1))))))))), ?_⟩
    have fm : ∀ x y : Int, 0 < y → 0 ≤ x.fmod y ∧ x.fmod y < y := fun x y hy => by
      rw [Int.fmod_eq_emod_of_nonneg x (Int.le_of_lt hy)]
      exact ⟨Int.emod_nonneg x (by omega), Int.emod_lt_of_pos x hy⟩
    refine ⟨fun n σ H' => ∃ y2, σ = [some (.ref s), some (.int m), y2, none, none, none] ∧ StreamAt H' s A B c ∧ Fr s A H H' ∧ ∃ big : List Int, H' A = some (.lst (vi big)) ∧ n = big.length, ?_, ?_⟩
    · obtain ⟨big, cells, cnt, _, h2, _⟩ := hS.ex
      exact ⟨_, none, rfl, hS, fun _ _ _ _ e => e, big, h2, rfl⟩
    rintro n σ H1 ⟨y2, rfl, hS1, fr1, big', hb', rfl⟩
    obtain ⟨big, cells, cnt, h1, h2, h3, p1, p2, l0, l1, l2, c0, c1⟩ := hS1.ex
    have eb : vi big' = vi big := by
      rw [h2] at hb'
      injection hb' with hb'
      injection hb' with hb'
      exact hb'.symm
    have el : big'.length = big.length := by
      have := congrArg List.length eb
      simpa using this
    rw [el]
    refine ⟨_, rfl, s, _, _, _, rfl, rfl, SqL.of h1, atI0, Nat.zero_le _, fun e he => ?_⟩
    have n1 : s ≠ e := ne_of_none h1 he
    have n2 : A ≠ e := ne_of_none h2 he
    have n3 : B ≠ e := ne_of_none h3 he
    have h1' : (upd H1 e (.lst [])) s = _ := (upd_ne n1).trans h1
    have h2' : (upd H1 e (.lst [])) A = _ := (upd_ne n2).trans h2
    have h3' : (upd H1 e (.lst [])) B = _ := (upd_ne n3).trans h3
    have sm : Same H1 (upd H1 e (.lst [])) := same_upd he
    refine ⟨.list (big.map .int), .list [], .lst (SqL.of h2') (dp_ints big), .lst (SqL.of upd_same) .nil, shaped_list big, shaped_list [], _, rfl, ?_⟩
    rw [eqv_nil]
    cases big with
    | nil =>
      refine iteF ?_
      -- turn = s[2] + 1; s[2] = turn
      refine ⟨_, rfl, s, _, _, _, rfl, rfl, SqL.of h1', atI2, _, _, rfl, rfl, ?_⟩
      refine ⟨_, rfl, _, rfl, s, _, _, 2, rfl, rfl, h1', rfl, ?_⟩
      have h3s : (upd (upd H1 e (.lst [])) s (.lst ([V.ref A, V.ref B, V.int cnt].set 2 (V.int (cnt + 1))))) B = _ := (upd_ne hS1.nsB.symm).trans h3'
      have h2s : (upd (upd H1 e (.lst [])) s (.lst ([V.ref A, V.ref B, V.int cnt].set 2 (V.int (cnt + 1))))) A = _ := (upd_ne hS1.nsA.symm).trans h2'
      have hS2 : StreamAt (upd (upd H1 e (.lst [])) s (.lst ([V.ref A, V.ref B, V.int cnt].set 2 (V.int (cnt + 1))))) s A B (c + 1) :=
        ⟨⟨[], cells, cnt + 1, upd_same, h2s, h3s, p1, p2, l0, l1, l2, by omega, by omega⟩, hS1.nAB, hS1.nsA, hS1.nsB⟩
      have fr2 : Fr s A H (upd (upd H1 e (.lst [])) s (.lst ([V.ref A, V.ref B, V.int cnt].set 2 (V.int (cnt + 1))))) := fun b o z1 z2 z3 => by
        rw [upd_ne z1]
        exact sm _ _ (fr1 b o z1 z2 z3)
      have h1s : (upd (upd H1 e (.lst [])) s (.lst ([V.ref A, V.ref B, V.int cnt].set 2 (V.int (cnt + 1))))) s = some (.lst [V.ref A, V.ref B, V.int (cnt + 1)]) := upd_same
      have hl : (0 : Int) < (cells.length : Nat) := by omega
      obtain ⟨g0, g1⟩ := fm (cnt + 1) ((cells.length : Nat) : Int) hl
      have hj : ((cnt + 1).fmod ((cells.length : Nat) : Int)).toNat < cells.length := by omega
      have hat : atI (vi cells) ((cnt + 1).fmod (((vi cells).length : Nat) : Int)) = some (V.int cells[((cnt + 1).fmod ((cells.length : Nat) : Int)).toNat]) := by
        rw [List.length_map]
        have := atI_nat (xs := vi cells) (j := ((cnt + 1).fmod ((cells.length : Nat) : Int)).toNat) (v := V.int cells[((cnt + 1).fmod ((cells.length : Nat) : Int)).toNat]) (by rw [List.getElem?_map, List.getElem?_eq_getElem hj]; rfl)
        rw [show ((((cnt + 1).fmod ((cells.length : Nat) : Int)).toNat : Nat) : Int) = (cnt + 1).fmod ((cells.length : Nat) : Int) by omega] at this
        exact this
      refine ⟨_, rfl, s, _, _, _, rfl, rfl, SqL.of h1s, atI1, _, rfl, _, rfl, s, _, _, _, rfl, rfl, SqL.of h1s, atI1, B, _, rfl, .inl (SqL.of h3s), _, _, rfl, rfl, by rw [List.length_map]; omega, B, _, _, _, rfl, rfl, SqL.of h3s, hat, _, _, rfl, rfl, (by show (2147483647 : Int) ≠ 0; decide), ?_⟩
      generalize cells[((cnt + 1).fmod ((cells.length : Nat) : Int)).toNat] = x
      obtain ⟨x0, x1⟩ := fm x 2147483647 (by decide)
      refine ⟨_, rfl, _, rfl, _, _, rfl, rfl, .inl ⟨by decide, by decide⟩, _, _, rfl, rfl, _, _, rfl, rfl, .inl ⟨by omega, by omega⟩, ?_⟩
      refine ⟨_, rfl, _, _, rfl, rfl, .inl ⟨by decide, by decide⟩, _, rfl, _, _, rfl, rfl, .inr ⟨by omega, by omega⟩, _, _, rfl, rfl, _, _, rfl, rfl, ?_⟩
      refine ⟨_, rfl, _, _, rfl, rfl, (by show (2147483629 : Int) ≠ 0; decide), ?_⟩
      refine ⟨_, rfl, _, rfl, _, _, rfl, rfl, .inl ?_, _, _, rfl, rfl, (by show (2147483587 : Int) ≠ 0; decide), _, _, rfl, rfl, ⟨by decide, by decide⟩, _, rfl, _, _, rfl, rfl, by omega, ?_⟩
      · generalize (x.fmod 2147483647 * _ + _ + _ : Int) = y
        obtain ⟨y0, y1⟩ := fm y 2147483629 (by decide)
        exact ⟨by omega, by omega⟩
      · exact q _ _ hS2 fr2 (fm _ m hm0).1 (fm _ m hm0).2
    | cons x r =>
      refine iteT ⟨_, fun _ _ h => h, ?_⟩
      refine ⟨_, rfl, s, _, _, _, rfl, rfl, SqL.of h1', atI0, A, _, _, _, rfl, rfl, SqL.of h2', atI0, ?_⟩
      refine ⟨_, rfl, _, _, rfl, rfl, _, rfl, ?_⟩
      have hx : 0 ≤ x := p1 x (List.mem_cons_self ..)
      have hr' : ∀ y ∈ r, 0 ≤ y := fun y hy => p1 y (List.mem_cons_of_mem _ hy)
      refine ite2 (fun cx => ?_) (fun cx => ?_)
      · refine ⟨_, rfl, _, rfl, _, _, rfl, rfl, ⟨hm0, lg60 hm0 hm1⟩, ?_⟩
        refine ⟨_, rfl, s, _, _, _, rfl, rfl, SqL.of h1', atI0, A, _, _, 0, rfl, rfl, h2', ix0 _, ?_⟩
        refine ⟨_, rfl, _, rfl, _, _, rfl, rfl, by omega, ?_⟩
        refine q _ _ ⟨⟨x / m :: r, cells, cnt, (upd_ne hS1.nsA).trans h1', upd_same, (upd_ne hS1.nAB.symm).trans h3', ?_, p2, l0, l1, l2, c0, by omega⟩, hS1.nAB, hS1.nsA, hS1.nsB⟩ ?_ (fm x m hm0).1 (fm x m hm0).2
        · intro y hy
          rcases List.mem_cons.mp hy with rfl | hy
          · exact Int.ediv_nonneg hx (Int.le_of_lt hm0)
          · exact hr' y hy
        · intro b o z1 z2 z3
          rw [upd_ne z2]
          exact sm _ _ (fr1 b o z1 z2 z3)
      · refine ⟨_, rfl, s, _, _, _, rfl, rfl, SqL.of h1', atI0, .inl ⟨rfl, _, SqL.of h2'⟩, A, _, _, 0, _, rfl, rfl, h2', by decide, by decide, (ixN_seq (ix0 _)).1, rfl, ?_⟩
        refine ⟨r.length, by simp, _, rfl, ⟨⟨r, cells, cnt, (upd_ne hS1.nsA).trans h1', upd_same, (upd_ne hS1.nAB.symm).trans h3', hr', p2, l0, l1, by simp at l2; omega, c0, c1⟩, hS1.nAB, hS1.nsA, hS1.nsB⟩, ?_, r, upd_same, rfl⟩
        intro b o z1 z2 z3
        rw [upd_ne z2]
        exact sm _ _ (fr1 b o z1 z2 z3)
end
end Fw
namespace Fw
open PySem PySem.Spec PyProof.Rows L2

structure Def (K : PySem.W.Frag) (mg : Str → Option Value) (x : Str) (st : Stmt) (f : Addr) (fd : FuncData) (ps : List Str) : Prop where
  F : Fun K x x st f fd
  b : Binds K fd ps []
  g : mg x = some (.ref f)

section
variable {s A B : Addr} {H H1 H2 : Hp} {c : Nat}
theorem StreamAt.ne (hS : StreamAt H s A B c) {L : Addr} (h : H L = none) : s ≠ L ∧ A ≠ L ∧ B ≠ L := by
  obtain ⟨big, cells, cnt, h1, h2, h3, _⟩ := hS.ex
  exact ⟨ne_of_none h1 h, ne_of_none h2 h, ne_of_none h3 h⟩
theorem StreamAt.put (hS : StreamAt H s A B c) {L : Addr} {o : HO} (n : s ≠ L ∧ A ≠ L ∧ B ≠ L) : StreamAt (upd H L o) s A B c := by
  obtain ⟨big, cells, cnt, h1, h2, h3, r⟩ := hS.ex
  exact ⟨⟨big, cells, cnt, (upd_ne n.1).trans h1, (upd_ne n.2.1).trans h2, (upd_ne n.2.2).trans h3, r⟩, hS.nAB, hS.nsA, hS.nsB⟩
theorem StreamAt.mono (hS : StreamAt H s A B c) {c' : Nat} (h : c ≤ c') : StreamAt H s A B c' := by
  obtain ⟨big, cells, cnt, h1, h2, h3, p1, p2, l0, l1, l2, c0, c1⟩ := hS.ex
  exact ⟨⟨big, cells, cnt, h1, h2, h3, p1, p2, l0, l1, l2, c0, by omega⟩, hS.nAB, hS.nsA, hS.nsB⟩
theorem StreamAt.same (hS : StreamAt H s A B c) (e : Same H H1) : StreamAt H1 s A B c := by
  obtain ⟨big, cells, cnt, h1, h2, h3, r⟩ := hS.ex
  exact ⟨⟨big, cells, cnt, e _ _ h1, e _ _ h2, e _ _ h3, r⟩, hS.nAB, hS.nsA, hS.nsB⟩
theorem StreamAt.tup (hS : StreamAt H s A B c) {t : Addr} {xs : List V} (h : H t = some (.tup xs)) : t ≠ s ∧ t ≠ A ∧ t ≠ B := by
  obtain ⟨big, cells, cnt, h1, h2, h3, _⟩ := hS.ex
  exact ⟨ne_of h h1 (by intro q; cases q), ne_of h h2 (by intro q; cases q), ne_of h h3 (by intro q; cases q)⟩
theorem Fr.refl : Fr s A H H := fun _ _ _ _ e => e
theorem Fr.free (f : Fr s A H H1) (hS : StreamAt H1 s A B c) {L : Addr} (h : H1 L = none) : H L = none := by
  obtain ⟨n1, n2, _⟩ := hS.ne h
  cases e : H L with
  | none => rfl
  | some o =>
    rw [f L o n1.symm n2.symm e] at h
    cases h
theorem Fr.put (f : Fr s A H H1) {L : Addr} {o : HO} (h : H L = none) : Fr s A H (upd H1 L o) := fun b u z1 z2 e => by
  rw [upd_ne (ne_of_none e h)]
  exact f b u z1 z2 e
theorem Fr.tup (f : Fr s A H H1) (hS : StreamAt H s A B c) {t : Addr} {xs : List V} (h : H t = some (.tup xs)) : H1 t = some (.tup xs) :=
  f t _ (hS.tup h).1 (hS.tup h).2.1 h
end

/-- a house, as it stands in memory -/
def HouseAt (H : Hp) (h : Addr) (n : Int) (D : List (Int × Int)) : Prop := ∃ (q : Addr) (ps : List (Addr × Int × Int)),
  H h = some (.tup [.int n, .ref q]) ∧ H q = some (.tup (ps.map fun p => V.ref p.1)) ∧ D = ps.map (·.2) ∧ ∀ p ∈ ps, H p.1 = some (.tup [.int p.2.1, .int p.2.2])
theorem HouseAt.same {H H' : Hp} {h : Addr} {n : Int} {D : List (Int × Int)} (x : HouseAt H h n D) (e : Same H H') : HouseAt H' h n D := by
  obtain ⟨q, ps, h1, h2, h3, h4⟩ := x
  exact ⟨q, ps, e _ _ h1, e _ _ h2, h3, fun p hp => e _ _ (h4 p hp)⟩
theorem HouseAt.fr {s A B : Addr} {c : Nat} {H H' : Hp} {h : Addr} {n : Int} {D : List (Int × Int)} (x : HouseAt H h n D) (hS : StreamAt H s A B c) (e : Fr s A H H') : HouseAt H' h n D := by
  obtain ⟨q, ps, h1, h2, h3, h4⟩ := x
  exact ⟨q, ps, e.tup hS h1, e.tup hS h2, h3, fun p hp => e.tup hS (h4 p hp)⟩

theorem perm_map_inv {α β : Type} {f : α → β} : ∀ {ys zs : List β}, ys.Perm zs → ∀ {ps : List α}, zs = ps.map f → ∃ ps' : List α, ps'.Perm ps ∧ ys = ps'.map f := by
  intro ys zs h
  induction h with
  | nil =>
    intro ps e
    cases ps with
    | nil => exact ⟨[], .nil, rfl⟩
    | cons p r => cases e
  | cons x _ ih =>
    intro ps e
    cases ps with
    | nil => cases e
    | cons p r =>
      rw [List.map_cons] at e
      injection e with e1 e2
      obtain ⟨ps', hp, he⟩ := ih e2
      exact ⟨p :: ps', hp.cons p, by rw [he, List.map_cons, e1]⟩
  | swap x y l =>
    intro ps e
    match ps, e with
    | p :: q :: r, e =>
      rw [List.map_cons, List.map_cons] at e
      injection e with e1 e2
      injection e2 with e2 e3
      exact ⟨q :: p :: r, List.Perm.swap p q r, by rw [List.map_cons, List.map_cons, e1, e2, e3]⟩
  | trans _ _ ih1 ih2 =>
    intro ps e
    obtain ⟨p2, h2, e2⟩ := ih2 e
    obtain ⟨p1, h1, e1⟩ := ih1 e2
    exact ⟨p1, h1.trans h2, e1⟩

theorem rg_vi (n : Int) : rgV 0 n = vi ((List.range n.toNat).map fun (i : Nat) => (i : Int)) := by
  unfold rgV vi
  rw [List.map_map, Int.sub_zero]
  refine List.map_congr_left fun i _ => ?_
  show V.int (0 + (i : Int)) = V.int (i : Int)
  rw [Int.zero_add]
def rg (n : Int) : List Int := (List.range n.toNat).map fun (i : Nat) => (i : Int)
theorem mem_rg {n x : Int} : x ∈ rg n ↔ 0 ≤ x ∧ x < n := by
  unfold rg
  rw [List.mem_map]
  constructor
  · rintro ⟨i, hi, rfl⟩
    rw [List.mem_range] at hi
    omega
  · rintro ⟨h0, h1⟩
    exact ⟨x.toNat, List.mem_range.mpr (by omega), by omega⟩
theorem rg_len (n : Int) : (rg n).length = n.toNat := by simp [rg]
theorem rg_nodup (n : Int) : (rg n).Nodup := (range_up n.toNat).imp fun h => by omega

theorem vi_erase (ns : List Int) (i : Nat) : (vi ns).eraseIdx i = vi (ns.eraseIdx i) := by
  induction ns generalizing i with
  | nil => rfl
  | cons n ns ih =>
    cases i with
    | zero => rfl
    | succ i =>
      show V.int n :: (vi ns).eraseIdx i = V.int n :: vi (ns.eraseIdx i)
      rw [ih]
theorem erase_perm : ∀ {ns : List Int} {i : Nat} (h : i < ns.length), (ns[i] :: ns.eraseIdx i).Perm ns
  | n :: ns, 0, _ => List.Perm.refl _
  | n :: ns, i + 1, h => by
    have h' : i < ns.length := by simpa using h
    show (ns[i] :: n :: ns.eraseIdx i).Perm (n :: ns)
    exact (List.Perm.swap _ _ _).trans ((erase_perm (by simpa using h)).cons n)
theorem lacks {r : Int} (h0 : 0 ≤ r) (h1 : r < 3) : ∃ lk : Int, atI [V.int 0, V.int 0, V.int 6] r = some (.int lk) ∧ (lk = 0 ∨ lk = 6) := by
  have : r = 0 ∨ r = 1 ∨ r = 2 := by omega
  rcases this with rfl | rfl | rfl
  · exact ⟨0, atI0, .inl rfl⟩
  · exact ⟨0, atI1, .inl rfl⟩
  · exact ⟨6, atI2, .inr rfl⟩
theorem pick3 {r r1 : Int} {i : Nat} (h0 : 0 ≤ r) (h1 : r < 3) (a0 : 0 ≤ r1) (a1 : r1 < 1 + (i : Int)) : ∃ ix : Int, atI [V.int (1 + (i : Int) - 1), V.int 0, V.int r1] r = some (.int ix) ∧ 0 ≤ ix ∧ ix ≤ i := by
  have : r = 0 ∨ r = 1 ∨ r = 2 := by omega
  rcases this with rfl | rfl | rfl
  · exact ⟨_, atI0, by omega, by omega⟩
  · exact ⟨_, atI1, by omega, by omega⟩
  · exact ⟨_, atI2, by omega, by omega⟩
/-- the two ints of a pair in memory -/
def twoOf (H : Hp) (x : V) : Int × Int := match x with
  | .ref t => match H t with
    | some (.tup [.int i, .int j]) => (i, j)
    | _ => (0, 0)
  | _ => (0, 0)
theorem twoOf_eq {H : Hp} {t : Addr} {d : Int × Int} (h : H t = some (.tup [.int d.1, .int d.2])) : twoOf H (.ref t) = d := by
  unfold twoOf
  simp only [h]
theorem Dlt_of {x y : Int × Int} (h : ¬ (y.1 < x.1 ∨ (y.1 = x.1 ∧ y.2 < x.2))) (n : x ≠ y) : Dlt x y := by
  unfold Dlt
  have : ¬ (x.1 = y.1 ∧ x.2 = y.2) := fun e => n (Prod.ext e.1 e.2)
  omega
/-- what stands while the doors are made -/
structure Mid (H : Hp) (s A B O R : Addr) (ord : List Int) (c : Nat) (ps : List (Addr × Int × Int)) (H' : Hp) : Prop where
  st : StreamAt H' s A B c
  frm : Fr s A H H'
  eO : H' O = some (.lst (vi ord))
  eR : H' R = some (.lst (ps.map fun p => V.ref p.1))
  eP : ∀ p ∈ ps, H' p.1 = some (.tup [.int p.2.1, .int p.2.2])
theorem Mid.fr {H H1 H2 : Hp} {s A B O R : Addr} {ord : List Int} {c c' : Nat} {ps : List (Addr × Int × Int)} (m : Mid H s A B O R ord c ps H1) (hS : StreamAt H2 s A B c') (f : Fr s A H1 H2) (zO : s ≠ O ∧ A ≠ O ∧ B ≠ O) (zR : s ≠ R ∧ A ≠ R ∧ B ≠ R) : Mid H s A B O R ord c' ps H2 :=
  ⟨hS, m.frm.trans f, f _ _ zO.1.symm zO.2.1.symm m.eO, f _ _ zR.1.symm zR.2.1.symm m.eR, fun p hp => f.tup m.st (m.eP p hp)⟩
theorem Mid.new {H H1 : Hp} {s A B O R : Addr} {ord : List Int} {c : Nat} {ps : List (Addr × Int × Int)} (m : Mid H s A B O R ord c ps H1) {N : Addr} {o : HO} (h : H1 N = none) : Mid H s A B O R ord c ps (upd H1 N o) :=
  ⟨m.st.same (same_upd h), m.frm.put (m.frm.free m.st h), same_upd h _ _ m.eO, same_upd h _ _ m.eR, fun p hp => same_upd h _ _ (m.eP p hp)⟩
theorem if_by {t : TT} {tb te : TS} {D : Ends} {σ : L2.St} {H : Hp} (Good : Bool → Hp → Prop) (hb : ∀ H', Good true H' → tb D σ H') (he : ∀ H', Good false H' → te D σ H')
    (h : ∀ Q : Bool → Hp → Prop, (∀ b H', Good b H' → Q b H') → t σ H Q) : tIfS t tb te D σ H := h _ fun b H' g => by
  cases b with
  | true => exact iteT (hb _ g)
  | false => exact iteF (he _ g)
section
variable {P : Program} {w : World} {K : PySem.W.Frag} {mg : Str → Option Value} {base : Heap}
def spHouse : Sp := fun vs H Q _ => ∃ (s A B : Addr) (c : Nat) (least most : Int), vs = [.ref s, .int least, .int most] ∧ StreamAt H s A B c ∧ c < 2 ^ 30 ∧ 1 ≤ least ∧ least ≤ most ∧ most ≤ 8 ∧
  ∀ H' h n D, StreamAt H' s A B (c + 40) → Fr s A H H' → HouseAt H' h n D → Forest n D → least ≤ n → n ≤ most → Q (.ref h) H'

end
end Fw
namespace Fw
open PySem PySem.Spec PyProof.Rows L2

/-! ### x in a tuple, by data -/
def rInT (K : PySem.W.Frag) : R2 := fun x y H Q => ∃ d ds, Dp K H x d ∧ Dp K H y (.tuple ds) ∧ SeqAt.shaped d = true ∧ SeqAt.shaped (.tuple ds) = true ∧ Q (.bl (ds.any fun z => PyData.eqv z d)) H
theorem op_inT {X : Cx} (hu : X.A.units + 65 < cLine) : OpR X (compareOp .In) (rInT X.K) := by
  intro pins s σ H x y v u Q I rx ry h
  obtain ⟨d, ds, hd, he, sd, se, q⟩ := h
  obtain ⟨as, r1⟩ := Dp.reads I d x v hd rx
  obtain ⟨bs, r2⟩ := Dp.reads I (.tuple ds) y u he ry
  exact SeqAt.in_tuple_reads r2 r1 (SeqAt.canLay_of_shaped se) (SeqAt.canLay_of_shaped sd) (room_in_shaped sd hu) ⟨.bl _, H, I, rfl, q⟩
theorem units65 {k : Nat} {A : Around} (r : Room k A) : A.units + 65 < cLine := by have := r.un; omega

/-- a door as data -/
def pd (d : Int × Int) : PyData := .tuple [.int d.1, .int d.2]
theorem pd_lay : ∀ D : List (Int × Int), PyData.canLayAll0 (D.map pd) = true
  | [] => by simp [PyData.canLayAll0]
  | d :: D => by
    rw [List.map_cons, PyData.canLayAll0, pd_lay D]
    simp [pd, PyData.canLay0, PyData.canLayAll0]
theorem pd_deep : ∀ D : List (Int × Int), PyData.depthAll (D.map pd) ≤ 1
  | [] => by simp [PyData.depthAll]
  | d :: D => by
    rw [List.map_cons, PyData.depthAll]
    have := pd_deep D
    simp [pd, PyData.depth, PyData.depthAll]
    omega
theorem pd_shaped (d : Int × Int) : SeqAt.shaped (pd d) = true := shaped_tup [d.1, d.2]
theorem pds_shaped (D : List (Int × Int)) : SeqAt.shaped (.tuple (D.map pd)) = true := by
  unfold SeqAt.shaped
  rw [PyData.canLay0, pd_lay, PyData.depth]
  have := pd_deep D
  simp
  omega
theorem pd_eqv (a b : Int × Int) : PyData.eqv (pd a) (pd b) = decide (a = b) := by
  obtain ⟨a1, a2⟩ := a
  obtain ⟨b1, b2⟩ := b
  simp only [pd, PyData.eqv, PyData.eqvAll, Bool.and_true]
  rw [Bool.eq_iff_iff]
  simp
theorem any_pd (D : List (Int × Int)) (d : Int × Int) : ((D.map pd).any fun z => PyData.eqv z (pd d)) = decide (d ∈ D) := by
  rw [Bool.eq_iff_iff, List.any_eq_true, decide_eq_true_eq]
  constructor
  · rintro ⟨z, hz, e⟩
    obtain ⟨y, hy, rfl⟩ := List.mem_map.mp hz
    rw [pd_eqv, decide_eq_true_eq] at e
    exact e ▸ hy
  · intro h
    exact ⟨pd d, List.mem_map_of_mem h, by rw [pd_eqv]; simp⟩
theorem dp_pair {K : PySem.W.Frag} {H : Hp} {t : Addr} {d : Int × Int} (h : H t = some (.tup [.int d.1, .int d.2])) : Dp K H (.ref t) (pd d) :=
  .tup (SqT.of h) (.cons (.int _) (.cons (.int _) .nil))
theorem dp_pairs {K : PySem.W.Frag} {H : Hp} : ∀ {ps : List (Addr × Int × Int)}, (∀ p ∈ ps, H p.1 = some (.tup [.int p.2.1, .int p.2.2])) → DpAll K H (ps.map fun p => V.ref p.1) ((ps.map (·.2)).map pd)
  | [], _ => .nil
  | p :: ps, h => .cons (dp_pair (h p (List.mem_cons_self ..))) (dp_pairs fun q hq => h q (List.mem_cons_of_mem _ hq))
theorem tt_by {t : TT} {Q : Bool → Hp → Prop} {σ : L2.St} {H : Hp} (Good : Bool → Hp → Prop) (h : ∀ Q' : Bool → Hp → Prop, (∀ b H', Good b H' → Q' b H') → t σ H Q') (hq : ∀ b H', Good b H' → Q b H') : t σ H Q := h _ hq

def pr (D : List (Int × Int)) (r : Int) : Int → Bool := fun o => decide ((r, o) ∈ D) || decide ((o, r) ∈ D)
def nbk (D : List (Int × Int)) (r : Int) (i : Nat) : List Int := ((List.range i).map fun (j : Nat) => 0 + (j : Int)).filter (pr D r)
theorem nbk_succ (D : List (Int × Int)) (r : Int) (i : Nat) : nbk D r (i + 1) = nbk D r i ++ if pr D r (0 + (i : Int)) = true then [0 + (i : Int)] else [] := by
  unfold nbk
  rw [List.range_succ, List.map_append, List.filter_append]
  congr 1
  by_cases c : pr D r (0 + (i : Int)) = true
  · rw [if_pos c]
    show List.filter (pr D r) [0 + (i : Int)] = _
    rw [List.filter_cons_of_pos c]
    rfl
  · rw [if_neg c]
    show List.filter (pr D r) [0 + (i : Int)] = _
    rw [List.filter_cons_of_neg c]
    rfl
theorem nbk_len (D : List (Int × Int)) (r : Int) (i : Nat) : (nbk D r i).length ≤ i := by
  refine Nat.le_trans (List.length_filter_le _ _) ?_
  simp
theorem nbk_nb (n : Int) (D : List (Int × Int)) (r : Int) : nbk D r n.toNat = nb n D r := by
  unfold nbk nb
  congr 1
  refine List.map_congr_left fun i _ => ?_
  omega

theorem get_ref {ps : List (Addr × Int × Int)} {i : Nat} {x : V} (h : (ps.map fun p => V.ref p.1)[i]? = some x) : ∃ p, ps[i]? = some p ∧ x = .ref p.1 := by
  rw [List.getElem?_map] at h
  cases e : ps[i]? with
  | none => rw [e] at h; cases h
  | some v => rw [e] at h; exact ⟨v, rfl, (Option.some.inj h).symm⟩
theorem outs_succ {D : List (Int × Int)} {r : Int} {i : Nat} {d : Int × Int} (h : D[i]? = some d) : outs (D.take (i + 1)) r = outs (D.take i) r ++ if d.1 = r then [d.2] else [] := by
  unfold outs
  rw [List.take_add_one, h, List.filter_append, List.map_append]
  congr 1
  by_cases c : d.1 = r
  · rw [if_pos c]
    show List.map _ (List.filter _ [d]) = _
    rw [List.filter_cons_of_pos (by simpa using c)]
    rfl
  · rw [if_neg c]
    show List.map _ (List.filter _ [d]) = _
    rw [List.filter_cons_of_neg (by simpa using c)]
    rfl
theorem ins_succ {D : List (Int × Int)} {r : Int} {i : Nat} {d : Int × Int} (h : D[i]? = some d) : ins (D.take (i + 1)) r = ins (D.take i) r ++ if d.2 = r then [d.1] else [] := by
  unfold ins
  rw [List.take_add_one, h, List.filter_append, List.map_append]
  congr 1
  by_cases c : d.2 = r
  · rw [if_pos c]
    show List.map _ (List.filter _ [d]) = _
    rw [List.filter_cons_of_pos (by simpa using c)]
    rfl
  · rw [if_neg c]
    show List.map _ (List.filter _ [d]) = _
    rw [List.filter_cons_of_neg (by simpa using c)]
    rfl
theorem outs_len (D : List (Int × Int)) (r : Int) : (outs D r).length ≤ D.length := by
  unfold outs
  rw [List.length_map]
  exact List.length_filter_le _ _
theorem ins_len (D : List (Int × Int)) (r : Int) : (ins D r).length ≤ D.length := by
  unfold ins
  rw [List.length_map]
  exact List.length_filter_le _ _
section
variable {P : Program} {w : World} {K : PySem.W.Frag} {mg : Str → Option Value} {base : Heap}
def spNb : Sp := fun vs H Q _ => ∃ (h : Addr) (n : Int) (D : List (Int × Int)) (r : Int), vs = [.ref h, .int r] ∧ HouseAt H h n D ∧ Forest n D ∧
  ∀ H' t, Same H H' → H' t = some (.tup (vi (nb n D r))) → Q (.ref t) H'

abbrev nNb : List Str := ["house", "room", "doors", "a", "b"]
abbrev gAB : PySem.W.Frag → TG := fun K => gTup K 2 (gCons (gName 3) (gCons (gName 4) gNil))
theorem scNb : FnScope nNb ["house", "room"] (defScope sNb) := ⟨rfl, rfl, rfl, by decide +kernel, rfl, by decide +kernel, by decide +kernel⟩
theorem ok_nb {f : Addr} {fd : FuncData} {k : Nat} (F : Fun K "neighbors" "neighbors" sNb f fd) (T : Nm mg) : FnOk P w K mg base CX0 (k + 1) f fd ["house", "room"] spNb := by
  refine F.ok scNb (fun vs H Q E h => ?_) (fun cdv A outer s H vs Q E hr h => ?_)
  · obtain ⟨h, n, D, r, rfl, _⟩ := h
    rfl
  · obtain ⟨h, n, D, r, rfl, ⟨q0, ps, h1, h2, h3, h4⟩, hF, q⟩ := h
    refine ⟨_, pss_cons (ps_set (i := 2) scNb.nd rfl (.inl rfl) (pe_ix ix_tup (pv 0) pe_int (fun _ _ => rfl)))
      (pss_one (ps_ret (pe_callTy call_tuple_of (by rfl) T.tuple (by decide +kernel) (pa_cons (pe_op op_cat
        (pe_lc (own := [("a", 3), ("b", 4)]) (g := gAB K) (by rfl) scNb.nd (pi_tup (pv 2))
          (blkOk_by (own := [("a", 3), ("b", 4)]) (N := nNb) (sc := defScope sNb) (by decide +kernel))
          (fun _ _ _ _ _ => pg_tup (by rfl) (pgs_cons (pg_name (i := 3) scNb.nd rfl (Or.inl rfl)) (pgs_cons (pg_name (i := 4) scNb.nd rfl (Or.inl rfl)) pgs_nil)))
          (fun _ _ _ _ _ => pts_one (pt_cmpR op_eq (pv 4) (pv 1) (nomark _)))
          (fun _ _ _ _ _ => pv 3))
        (pe_lc (own := [("a", 3), ("b", 4)]) (g := gAB K) (by rfl) scNb.nd (pi_tup (pv 2))
          (blkOk_by (own := [("a", 3), ("b", 4)]) (N := nNb) (sc := defScope sNb) (by decide +kernel))
          (fun _ _ _ _ _ => pg_tup (by rfl) (pgs_cons (pg_name (i := 3) scNb.nd rfl (Or.inl rfl)) (pgs_cons (pg_name (i := 4) scNb.nd rfl (Or.inl rfl)) pgs_nil)))
          (fun _ _ _ _ _ => pts_one (pt_cmpR op_eq (pv 3) (pv 1) (nomark _)))
          (fun _ _ _ _ _ => pv 4))) pa_nil)))), ?_⟩
    have el := hF.len
    have eD : D.take (ps.map fun p => V.ref p.1).length = D := by
      rw [h3, List.length_map, ← List.length_map (f := fun x : Addr × Int × Int => x.2), List.take_length]
    refine ⟨_, rfl, h, _, _, _, rfl, rfl, SqT.of h1, atI1, ?_⟩
    refine ⟨_, rfl, q0, rfl, ⟨_, SqT.of h2⟩, fun L hL => lc_tup (K := K) (a := q0) (xs := ps.map fun p => V.ref p.1) (fun i H1 => Same H H1 ∧ H1 L = some (.lst (vi (ins (D.take i) r))))
      ⟨same_upd hL, upd_same⟩ (fun i H1 _ hh => SqT.of (hh.1 _ _ h2)) ?_ ?_⟩
    · rintro i x H1 hx ⟨s1, e1⟩
      obtain ⟨p, hp, rfl⟩ := get_ref hx
      have ed : D[i]? = some p.2 := by rw [h3, List.getElem?_map, hp]; rfl
      refine ⟨p.1, _, rfl, SqT.of (s1 _ _ (h4 p (List.mem_of_getElem? hp))), rfl, _, _, rfl, _, _, rfl, rfl, rfl, _, rfl, _, rfl, rfl, _, rfl, ?_⟩
      refine ite2 (fun c => ?_) (fun c => ?_)
      · have c : p.2.2 = r := V.int.inj (of_decide_eq_true c)
        refine ⟨_, rfl, _, e1, ?_, same_put s1 hL, ?_⟩
        · rw [List.length_map]
          exact small1000 (Nat.le_trans (ins_len _ _) (by rw [List.length_take]; omega))
        · rw [upd_same, ins_succ ed, if_pos c, vi_app]
          rfl
      · have c : ¬ p.2.2 = r := fun e => c (decide_eq_true (by rw [e]))
        refine ⟨s1, ?_⟩
        rw [ins_succ ed, if_neg c, List.append_nil]
        exact e1
    · rintro H1 ⟨s1, e1⟩
      rw [eD] at e1
      refine ⟨_, rfl, q0, rfl, ⟨_, SqT.of (s1 _ _ h2)⟩, fun M hM => lc_tup (K := K) (a := q0) (xs := ps.map fun p => V.ref p.1) (fun i H2 => Same H1 H2 ∧ H2 M = some (.lst (vi (outs (D.take i) r))))
        ⟨same_upd hM, upd_same⟩ (fun i H2 _ hh => SqT.of (hh.1 _ _ (s1 _ _ h2))) ?_ ?_⟩
      · rintro i x H2 hx ⟨s2, e2⟩
        obtain ⟨p, hp, rfl⟩ := get_ref hx
        have ed : D[i]? = some p.2 := by rw [h3, List.getElem?_map, hp]; rfl
        refine ⟨p.1, _, rfl, SqT.of (s2 _ _ (s1 _ _ (h4 p (List.mem_of_getElem? hp)))), rfl, _, _, rfl, _, _, rfl, rfl, rfl, _, rfl, _, rfl, rfl, _, rfl, ?_⟩
        refine ite2 (fun c => ?_) (fun c => ?_)
        · have c : p.2.1 = r := V.int.inj (of_decide_eq_true c)
          refine ⟨_, rfl, _, e2, ?_, same_put s2 hM, ?_⟩
          · rw [List.length_map]
            exact small1000 (Nat.le_trans (outs_len _ _) (by rw [List.length_take]; omega))
          · rw [upd_same, outs_succ ed, if_pos c, vi_app]
            rfl
        · have c : ¬ p.2.1 = r := fun e => c (decide_eq_true (by rw [e]))
          refine ⟨s2, ?_⟩
          rw [outs_succ ed, if_neg c, List.append_nil]
          exact e2
      · rintro H2 ⟨s2, e2⟩
        rw [eD] at e2
        refine ⟨L, M, _, _, rfl, rfl, s2 _ _ e1, e2, ?_, fun N hN => ?_⟩
        · rw [List.length_map, List.length_map]
          have h1 := outs_len D r
          have h2 := ins_len D r
          exact Nat.le_of_lt (small1000 (by omega))
        rw [← vi_app, hF.nb_eq r]
        refine ⟨N, _, rfl, .inl ⟨SqL.of upd_same, fun t ht => q _ t ?_ upd_same⟩⟩
        exact ((s1.trans s2).trans (same_upd hN)).trans (same_upd ht)
def spLNb : Sp := fun vs H Q _ => ∃ (h : Addr) (n : Int) (D : List (Int × Int)) (r : Int), vs = [.ref h, .int r] ∧ HouseAt H h n D ∧ Forest n D ∧
  ∀ H' l, Same H H' → H l = none → H' l = some (.lst (vi (nb n D r))) → Q (.ref l) H'

abbrev nLNb : List Str := ["_law_house", "_law_room", "_law_found", "_law_one", "_law_other"]
abbrev gOO : PySem.W.Frag → TG := fun K => gTup K 2 (gCons (gName 3) (gCons (gName 4) gNil))
theorem scLNb : FnScope nLNb ["_law_house", "_law_room"] (defScope sLNb) := ⟨rfl, rfl, rfl, by decide +kernel, rfl, by decide +kernel, by decide +kernel⟩
theorem ok_lnb {f : Addr} {fd : FuncData} {k : Nat} (F : Fun K "_law_neighbors" "_law_neighbors" sLNb f fd) (T : Nm mg) : FnOk P w K mg base CX0 (k + 1) f fd ["_law_house", "_law_room"] spLNb := by
  refine F.ok scLNb (fun vs H Q E h => ?_) (fun cdv A outer s H vs Q E hr h => ?_)
  · obtain ⟨h, n, D, r, rfl, _⟩ := h
    rfl
  · obtain ⟨h, n, D, r, rfl, ⟨q0, ps, h1, h2, h3, h4⟩, hF, q⟩ := h
    refine ⟨_, pss_cons (ps_setLc (i := 2) (own := [("_law_one", 3), ("_law_other", 4)]) (g := gOO K) (by rfl) scLNb.nd rfl rfl (sw_true rfl rfl rfl (by decide +kernel)) (pi_tup (pe_ix ix_tup (pv 0) pe_int (fun _ _ => rfl)))
        (blkOk_by (own := [("_law_one", 3), ("_law_other", 4)]) (N := nLNb) (sc := defScope sLNb) (by decide +kernel))
        (fun _ _ _ _ _ => pg_tup (by rfl) (pgs_cons (pg_name (i := 3) scLNb.nd rfl (Or.inl rfl)) (pgs_cons (pg_name (i := 4) scLNb.nd rfl (Or.inl rfl)) pgs_nil)))
        (fun _ _ _ _ _ => pts_one (pt_cmpR op_eq (pv 3) (pv 1) (nomark _)))
        (fun _ _ _ _ _ => pv 4))
      (pss_one (ps_ret (pe_callB cr_sortedI (by rfl) T.sorted (by decide +kernel) (pa_cons (pe_op op_cat (pv 2)
        (pe_lc (own := [("_law_one", 3), ("_law_other", 4)]) (g := gOO K) (by rfl) scLNb.nd (pi_tup (pe_ix ix_tup (pv 0) pe_int (fun _ _ => rfl)))
          (blkOk_by (own := [("_law_one", 3), ("_law_other", 4)]) (N := nLNb) (sc := defScope sLNb) (by decide +kernel))
          (fun _ _ _ _ _ => pg_tup (by rfl) (pgs_cons (pg_name (i := 3) scLNb.nd rfl (Or.inl rfl)) (pgs_cons (pg_name (i := 4) scLNb.nd rfl (Or.inl rfl)) pgs_nil)))
          (fun _ _ _ _ _ => pts_one (pt_cmpR op_eq (pv 4) (pv 1) (nomark _)))
          (fun _ _ _ _ _ => pv 3))) pa_nil)))), ?_⟩
    refine ⟨_, rfl, h, _, _, _, rfl, rfl, SqT.of h1, atI1, q0, rfl, ⟨_, SqT.of h2⟩, fun L hL => lc_tup (K := K) (a := q0) (xs := ps.map fun p => V.ref p.1) (fun i H1 => Same H H1 ∧ H1 L = some (.lst (vi (outs (D.take i) r))))
      ⟨same_upd hL, upd_same⟩ (fun i H1 _ hh => SqT.of (hh.1 _ _ h2)) ?_ ?_⟩
    · rintro i x H1 hx ⟨s1, e1⟩
      obtain ⟨p, hp, rfl⟩ := get_ref hx
      have ed : D[i]? = some p.2 := by rw [h3, List.getElem?_map, hp]; rfl
      have em := List.mem_of_getElem? hp
      refine ⟨p.1, _, rfl, SqT.of (s1 _ _ (h4 p em)), rfl, _, _, rfl, _, _, rfl, rfl, rfl, _, rfl, _, rfl, rfl, _, rfl, ?_⟩
      refine ite2 (fun c => ?_) (fun c => ?_)
      · have c : p.2.1 = r := V.int.inj (of_decide_eq_true c)
        refine ⟨_, rfl, _, e1, ?_, same_put s1 hL, ?_⟩
        · rw [List.length_map]
          exact small1000 (Nat.le_trans (outs_len _ _) (by have := hF.len; rw [List.length_take]; omega))
        · rw [upd_same, outs_succ ed, if_pos c, vi_app]
          rfl
      · have c : ¬ p.2.1 = r := fun e => c (decide_eq_true (by rw [e]))
        refine ⟨s1, ?_⟩
        rw [outs_succ ed, if_neg c, List.append_nil]
        exact e1
    · rintro H1 ⟨s1, e1⟩
      have eD : D.take (ps.map fun p => V.ref p.1).length = D := by
        rw [h3, List.length_map, ← List.length_map (f := fun x : Addr × Int × Int => x.2), List.take_length]
      rw [eD] at e1
      refine ⟨_, rfl, _, rfl, h, _, _, _, rfl, rfl, SqT.of (s1 _ _ h1), atI1, q0, rfl, ⟨_, SqT.of (s1 _ _ h2)⟩, fun M hM => lc_tup (K := K) (a := q0) (xs := ps.map fun p => V.ref p.1) (fun i H2 => Same H1 H2 ∧ H2 M = some (.lst (vi (ins (D.take i) r))))
        ⟨same_upd hM, upd_same⟩ (fun i H2 _ hh => SqT.of (hh.1 _ _ (s1 _ _ h2))) ?_ ?_⟩
      · rintro i x H2 hx ⟨s2, e2⟩
        obtain ⟨p, hp, rfl⟩ := get_ref hx
        have ed : D[i]? = some p.2 := by rw [h3, List.getElem?_map, hp]; rfl
        have em := List.mem_of_getElem? hp
        refine ⟨p.1, _, rfl, SqT.of (s2 _ _ (s1 _ _ (h4 p em))), rfl, _, _, rfl, _, _, rfl, rfl, rfl, _, rfl, _, rfl, rfl, _, rfl, ?_⟩
        refine ite2 (fun c => ?_) (fun c => ?_)
        · have c : p.2.2 = r := V.int.inj (of_decide_eq_true c)
          refine ⟨_, rfl, _, e2, ?_, same_put s2 hM, ?_⟩
          · rw [List.length_map]
            exact small1000 (Nat.le_trans (ins_len _ _) (by have := hF.len; rw [List.length_take]; omega))
          · rw [upd_same, ins_succ ed, if_pos c, vi_app]
            rfl
        · have c : ¬ p.2.2 = r := fun e => c (decide_eq_true (by rw [e]))
          refine ⟨s2, ?_⟩
          rw [ins_succ ed, if_neg c, List.append_nil]
          exact e2
      · rintro H2 ⟨s2, e2⟩
        rw [eD] at e2
        have el := hF.len
        refine ⟨L, M, _, _, rfl, rfl, s2 _ _ e1, e2, ?_, fun N hN => ?_⟩
        · rw [List.length_map, List.length_map]
          have h1 := outs_len D r
          have h2 := ins_len D r
          exact Nat.le_of_lt (small1000 (by omega))
        · rw [← vi_app]
          refine ⟨N, _, rfl, SqL.of upd_same, fun ys Z hp hup hZ => ?_⟩
          refine q _ Z ((s1.trans s2).trans ((same_upd hN).trans (same_upd hZ))) (s1.free (s2.free ((same_upd hN).free hZ))) ?_
          rw [upd_same, hF.sorted_nb hp hup]
end
end Fw
namespace Fw
open PySem PySem.Spec PyProof.Rows L2

/-! ### repr, where no repr is under way -/
def rRepr (K : PySem.W.Frag) : List V → Hp → VK → Prop := fun vs H Q => ∃ (a : Addr) (d : PyData), vs = [.ref a] ∧ Dp K H (.ref a) d ∧ d.showable = true ∧ d.hasDict = false ∧ d.depth ≤ 60 ∧ d.shown.length ≤ sizeLine ∧ Q (.str d.shown) H
theorem call_repr {X : Cx} (hg : X.A.guards = some []) (hu : X.A.units + 65 < cLine) : CallR X (.builtin "repr") (rRepr X.K) := by
  intro pins s σ H vs us Q I r h
  obtain ⟨a, d, rfl, hd, hs, hn, hp, hz, q⟩ := h
  obtain ⟨u, rfl, ru⟩ := vals1 r
  obtain rfl : u = Value.ref a := ru
  obtain ⟨as, rd⟩ := Dp.reads I d _ _ hd rfl
  refine repr_of_reads' rd hs (fun z => ?_) hg (by omega) (fun _ _ e => e) (fun h' t tk hk => ?_) hz
  · rw [hn] at z
    cases z
  · exact ⟨.str _, H, I.kept hk, ⟨_, rfl⟩, q⟩

/-! ### a def that is run where no repr is under way -/
structure FnG (P : Program) (w : World) (K : PySem.W.Frag) (mg : Str → Option Value) (base : Heap) (k : Nat) (f : Addr) (fd : FuncData) (ps : List Str) (sp : Sp) : Prop where
  len : ∀ vs H Q E, sp vs H Q E → vs.length = ps.length
  go : ∀ (A : Around) (out : List Env) (st : Shared) (H : Hp) (as : Args) (us : List Value) (vs : List V) (Q : VK), A.guards = some [] → Room k A → Env0 P w K mg base A out st H → BindsTo st fd as (ps.zip us) → Vals vs us → sp vs H Q E0 →
    codeAny (model P w) A (.call (.ref f) as) (CR CX0 out P w H st Q E0) st

section
variable {P : Program} {w : World} {K : PySem.W.Frag} {mg : Str → Option Value} {base : Heap}
theorem Fun.okG {x : Str} {st : Stmt} {f : Addr} {fd : FuncData} {N ps : List Str} {k : Nat} {sp : Sp} (F : Fun K x x st f fd) (S : FnScope N ps (defScope st)) (len : ∀ vs H Q E, sp vs H Q E → vs.length = ps.length)
    (bd : ∀ (c : Value) (A : Around) (out : List Env) (z : Shared) (H : Hp) (vs : List V) (Q : VK), (A.deeper (envOfC x (defScope st) z.heap.objs.size f c)).guards = some [] → Room k (A.deeper (envOfC x (defScope st) z.heap.objs.size f c)) → sp vs H Q E0 →
      ∃ t, PSs (cxOf CX0 P w K mg base N x (defScope st) f c A out z H E0).nox (defBody st) t ∧ t { nx := fun _ H' => Q .non H', rt := Q } (L2.start N vs) H) : FnG P w K mg base (k + 1) f fd ps sp := by
  obtain ⟨oc, od, kV, doc, pm, an, c, ct, osl, rfl, lk, hc⟩ := F.ex
  refine ⟨len, fun A out z H as us vs Q gd room en bi rel hs => ?_⟩
  have kin : K.In z.heap := fun b o e => (en.bs b o (en.mod.kin b o e)).1
  refine codeAny_call_function room.depth (kin _ _ lk) rfl S.co S.gen rfl (PySem.W.codeRec_of kin hc) (bi _ _ _ _ ?_)
  have kinds : ∀ y ∈ ps.zip us, (defScope st).names.lookup y.1 = some .local ∨ ((defScope st).names.lookup y.1 = some .cell ∧ ((cellsFrom (z.heap.objs.size + 1) (defScope st).names []).lookup y.1).isSome = true) := by
    rintro ⟨n, v⟩ hy
    exact (S.par n (List.of_mem_zip hy).1).imp id fun q => ⟨q, PySem.W.cellsFrom_some _ _ _ (.inl q)⟩
  refine wpAny_newFunctionEnv_cells S.kind kinds fun env ee z1 ic => ?_
  subst ee
  refine ⟨(en.mod.nolimit.keeps fun b o e => (en.bs b o e).1).keeps ic.toInCall.keep, codeAny_func ?_⟩
  obtain ⟨t, d, rd⟩ := bd c A out z H vs Q gd (room.deeper _) hs
  have inv := inv_start (CX := CX0) (E := E0) S room.hd en (len _ _ _ _ hs) rel ic
  refine wpAny_mono (d.nox.run [] z1 _ H _ inv rd) (fun fl z2 e => ?_) fun _ _ e => e
  match fl, e with
  | .ret u, ⟨v, σ', H', J, rv, q⟩ => exact ⟨v, H', J.os, J.bare, J.base, J.hok, rv, q⟩
  | .next, ⟨σ', H', J, q⟩ => exact ⟨.non, H', J.os, J.bare, J.base, J.hok, rfl, q⟩
  | .brk, ⟨_, _, _, q⟩ => exact q.elim
  | .cont, ⟨_, _, _, q⟩ => exact q.elim

/-- a call of such a def -/
theorem pe_callG {X : Cx} {k : Nat} {f : Addr} {fd : FuncData} {ps : List Str} {sp : Sp} {x : Str} {p pos : Pos} {e : Expr} {es : List Expr} {t : TA} (F : FnG X.prog X.w X.K X.mg X.base k f fd ps sp) (gd : X.A.guards = some []) (hr : Room k X.A)
    (hg : Gl X x) (hm : X.mg x = some (.ref f)) (hk : PySem.W.keepIn X.K (.ref f) = true) (hb : Binds X.K fd ps []) (ha : PA X (e :: es) t) (hdb : (x == ("__debug__" : Str)) = false := by decide)
    (h1 : starEach (e :: es) X.env = (false, eval e X.env) :: starEach es X.env := by rfl) (h2 : (backTo pos (starEach es X.env)).any (·.1) = false := by rfl) : PE X (.Call (.Name x p) (e :: es) [] pos) (tCall sp [] E0 t) := by
  constructor
  intro pins z σ H Q I h
  refine wpAny_Call_Name_kw (ld_glob I hg hm (PySem.W.callWith_K (h₀ := X.base) I.ok.mod.kin hk (thn (ha.run pos pins z σ H _ I h) ?_) h1 h2) hdb)
  rintro us z1 ⟨vs, H1, I1, r, q⟩
  refine ⟨I1.kIn, wpAny_call (codeAny_mono (F.go X.A X.stack z1 H1 ⟨us, []⟩ (us ++ []) (vs ++ []) Q gd hr I1.env0 (hb z1 us I1.kIn ?_) (r.append .nil) q) fun a z2 hq => ?_)⟩
  · rw [← (r.append .nil).length]
    exact F.len _ _ _ _ q
  · match a, hq with
    | .error _, hq => exact hq.elim
    | .ok (.ret u), hq => exact I1.after hq
    | .ok .next, hq => exact hq.elim
    | .ok .brk, hq => exact hq.elim
    | .ok .cont, hq => exact hq.elim
end
end Fw
namespace Fw
open PySem PySem.Spec PyProof.Rows L2

/-- the state at the law's own call: only the script is tracked -/
theorem top_state {P : Program} {w : World} {K : PySem.W.Frag} {mg mb : Str → Option Value} {a : Addr} {z : Shared} {vs : List Value} {ns : List Int} (kin : K.In z.heap) (gl : z.heap.Ns mainGlobals mg) (bl : z.heap.Ns builtinsNs mb)
    (bb : ∀ x : Str, x ≠ "__name__" → mb x = bootBuiltins x) (lim : z.heap.NoLimit) (ge : z.gens = #[]) (obj : z.heap.get? a = some { cls := .type "list", data := .seq vs.toArray }) (hi : IntsAre vs ns) (hl : ns.length ≤ sizeLine) :
    ∃ (H : Hp) (base : Heap), SqL K H a (vi ns) ∧ K.In base ∧ base.Ns mainGlobals mg ∧ Env0 P w K mg base callerA [] z H ∧ ∀ (H' : Hp) (z' : Shared), Un (frs []) [] H H' z.heap z'.heap → HOk P w H' z'.heap → OldK z.heap z'.heap := by
  have rel : Vals (vi ns) vs := vals_ints hi
  -- what is tracked: nothing, or the script alone
  have pick : ∃ H : Hp, SqL K H a (vi ns) ∧ HOk P w H z.heap ∧ (∀ b, H b = none ∨ (b = a ∧ K.lookup a = none ∧ ∃ xs, H b = some (.frz { cls := .type "list", data := .seq vs.toArray } (.lst xs)))) := by
    cases e : K.lookup a with
    | some o =>
      have e2 : o = { cls := .type "list", data := .seq vs.toArray } := by
        have := kin a o e
        rw [obj] at this
        exact (Option.some.inj this).symm
      subst e2
      refine ⟨fun _ => none, .inr ⟨_, vs.toArray, _, e, rfl, rfl, rfl, ?_, rel⟩, fun b u q => ?_, fun b => .inl rfl⟩
      · rw [List.size_toArray, hi.length]
        exact hl
      · cases (show (none : Option HO) = some u from q)
    | none =>
      refine ⟨upd (fun _ => none) a (.frz { cls := .type "list", data := .seq vs.toArray } (.lst (vi ns))), .inl (.inr ⟨_, upd_same⟩), fun b u q => ?_, fun b => ?_⟩
      · by_cases eb : b = a
        · rw [eb, upd_same] at q
          cases q
          rw [eb]
          exact ⟨obj, by rw [List.length_map]; exact hl, vs, _, rel, obj⟩
        · rw [upd_ne eb] at q
          cases q
      · by_cases eb : b = a
        · exact .inr ⟨eb, rfl, _, by rw [eb]; exact upd_same⟩
        · exact .inl (upd_ne eb)
  obtain ⟨H, hS, hok, only⟩ := pick
  have low : ∀ {b : Addr} {o : Obj}, z.heap.get? b = some o → (b = a → K.lookup a ≠ none) → (hidT z.heap H).get? b = some o := fun {b o} e q => hidT_get e (by
    rcases only b with n | ⟨eb, n, _⟩
    · exact n
    · exact absurd n (q eb))
  have dic : ∀ {b : Addr} {m : Str → Option Value}, z.heap.Ns b m → (hidT z.heap H).Ns b m := fun {b m} h => by
    obtain ⟨o, es, ep, e, d, r⟩ := h
    refine ⟨o, es, ep, hidT_get e ?_, d, r⟩
    rcases only b with n | ⟨eb, _, _⟩
    · exact n
    · rw [eb, obj] at e
      cases e
      cases (show Data.seq vs.toArray _ = Data.dict es ep from d)
  have kb : K.In (hidT z.heap H) := fun b o e => low (kin b o e) fun eb n => by
    rw [eb, n] at e
    cases e
  refine ⟨H, hidT z.heap H, hS, kb, dic gl, ?_, fun H' z' un ok' => OldK.of_keep fun b o e => ?_⟩
  · refine { frames := rfl, mod := ⟨kb, dic gl, ⟨mb, dic bl, bb⟩, ?_⟩, bs := fun b o e => of_hidT e, bsz := Nat.le_of_eq (hidT_size _ _), funs := trivial, frf := fun b hb => ?_, hok := hok, bare := .of_eq ge }
    · obtain ⟨mc, h1, h2⟩ := lim
      exact ⟨mc, dic h1, h2⟩
    · cases (show b ∈ ([] : List Addr) from hb)
  · rcases only b with n | ⟨eb, _, xs, fz⟩
    · refine un.keep b o e n (fun hb => ?_) (fun hb => ?_)
      · cases (show b ∈ ([] : List Addr) from hb)
      · cases hb
    · have f2 := (ok' b _ (un.frzs b _ _ fz)).1
      rw [eb, obj] at e
      cases e
      exact f2

/-- the law's def takes the script alone -/
abbrev Takes1 (fd : FuncData) : Prop := ∀ (z : Shared) (v : Value), BindsTo z fd ⟨[v], []⟩ [("_law_script", v)]
/-- the law's def, at fa, keeps sp over whatever holds the written part -/
def LawAt (P : Program) (w : World) (K : PySem.W.Frag) (mg : Str → Option Value) (k : Nat) (fa : Addr) (sp : Sp) : Prop :=
  ∃ fd, Takes1 fd ∧ ∀ b : Heap, K.In b → b.Ns mainGlobals mg → FnG P w K mg b k fa fd ["_law_script"] sp
/-- a promise that says True of every script -/
def Tells (sp : PySem.W.Frag → Sp) : Prop := ∀ K H a ns, ns.length ≤ 63 → SqL K H a (vi ns) → sp K [.ref a] H (fun v _ => v = .bl true) E0
/-- how a call that keeps such a promise ends -/
structure Told (P : Program) (w : World) (H : Hp) (z : Shared) (r : Result) (z' : Shared) : Prop where
  res : r = .ok (.ret (.bool true))
  os : z'.os = z.os
  bare : AllBare z'.gens
  st : ∃ H', Un (frs []) [] H H' z.heap z'.heap ∧ HOk P w H' z'.heap
theorem told {P : Program} {w : World} {H : Hp} {z z' : Shared} {r : Result} (e : CR CX0 [] P w H z (fun v _ => v = .bl true) E0 r z') : Told P w H z r z' := by
  rcases r with _ | f
  · exact False.elim e
  cases f
  all_goals first | exact False.elim e | skip
  rename_i u
  obtain ⟨v, H', o1, o2, un, ok, rv, qv⟩ := e
  have qv : v = .bl true := qv
  rw [qv] at rv
  exact ⟨by rw [show u = Value.bool true from rv], o1, o2, H', un, ok⟩
/-- the end of a law whose def wants that no repr is under way -/
theorem walkG {l : PySem.W.OpenLaw} {k : Nat} {q : Program} {ls : List Str} {XP : (Str → Option Value) → Heap → Prop} {Y : World → Heap → Prop} {d : DefRec} {K : Params → PySem.W.Frag} {sp : PySem.W.Frag → Sp} (t : Tells sp) (m : l.most = some 63) (nd : d.params.defaults = []) (room : Room k callerA)
    (inK : ∀ w h, Y w h → (K w.params).In h) (L : ∀ w mg fa h, (K w.params).In h → h.Ns mainGlobals mg → mg d.name = some (.ref fa) → LawAt l.prog w (K w.params) mg k fa (sp (K w.params))) :
    PySem.W.WalkO q ls XP Y l.row.toRowW d [] (fun f vs => PySem.call f vs) := by
  apply Att.attach_call m nd
  intro w _ z mg _ fa _ _ _ _ a vs ns G y _ _ _ here obj hi few gens
  obtain ⟨fd, one, keeps⟩ := L w mg fa _ (inK w _ y) G.T.g here
  obtain ⟨H, b, hS, kb, gb, en, old⟩ := top_state (P := l.prog) (w := w) (inK w _ y) G.T.g G.T.b G.T.builtins G.T.nolimit gens obj hi (Nat.le_trans few (by decide))
  have c := (keeps b kb gb).go callerA [] z H ⟨[.ref a], []⟩ [.ref a] [.ref a] (fun v _ => v = .bl true) rfl room en (one z (.ref a)) (.cons rfl .nil) (t _ H a ns few hS)
  exact codeAny_mono c fun r z' e => by
    have e := told e
    obtain ⟨H', un, ok⟩ := e.st
    exact ⟨e.res, old H' z' un ok, e.os, e.bare⟩
end Fw
namespace Fw
open PySem PySem.Spec PyProof.Rows L2
/-- a house as data -/
def hd (n : Int) (D : List (Int × Int)) : PyData := .tuple [.int n, .tuple (D.map pd)]
theorem log_small {i : Int} (h0 : 0 ≤ i) (h1 : i ≤ 100) : i.natAbs.log2 < 1920 := by
  by_cases h : i.natAbs = 0
  · rw [h]; decide
  · exact (Nat.log2_lt h).mpr (Nat.lt_of_le_of_lt (show i.natAbs ≤ 2 ^ 7 by omega) (Nat.pow_lt_pow_right (by decide) (by decide)))
theorem pds_show : ∀ {D : List (Int × Int)}, (∀ d ∈ D, 0 ≤ d.1 ∧ d.1 ≤ 100 ∧ 0 ≤ d.2 ∧ d.2 ≤ 100) → PyData.showableAll (D.map pd) = true ∧ PyData.leavesShortAll 13 (D.map pd) = true
  | [], _ => by simp [PyData.showableAll, PyData.leavesShortAll]
  | d :: D, h => by
    obtain ⟨i1, i2⟩ := pds_show (D := D) fun x hx => h x (List.mem_cons_of_mem _ hx)
    obtain ⟨a0, a1, b0, b1⟩ := h d (List.mem_cons_self ..)
    have s1 := PyData.shown_int_le2 (i := d.1) (by omega) (by omega)
    have s2 := PyData.shown_int_le2 (i := d.2) (by omega) (by omega)
    rw [List.map_cons, PyData.showableAll, PyData.leavesShortAll, i1, i2]
    simp only [pd, PyData.showable, PyData.showableAll, PyData.leavesShort, PyData.leavesShortAll, Bool.and_true]
    exact ⟨by rw [decide_eq_true (log_small a0 a1), decide_eq_true (log_small b0 b1)]; rfl, by rw [decide_eq_true s1, decide_eq_true s2]; rfl⟩
theorem pds_nodict : ∀ D : List (Int × Int), PyData.hasDictAll (D.map pd) = false
  | [] => by simp [PyData.hasDictAll]
  | d :: D => by
    rw [List.map_cons, PyData.hasDictAll, pds_nodict D]
    simp [pd, PyData.hasDict, PyData.hasDictAll]
theorem pds_bulk : ∀ D : List (Int × Int), PyData.bulkAll (D.map pd) = 3 * D.length
  | [] => by simp [PyData.bulkAll]
  | d :: D => by
    rw [List.map_cons, PyData.bulkAll, pds_bulk D]
    simp [pd, PyData.bulk, PyData.bulkAll]
    omega
structure Shows (d : PyData) : Prop where
  s : d.showable = true
  n : d.hasDict = false
  p : d.depth ≤ 60
  z : d.shown.length ≤ sizeLine
theorem hd_shows {n : Int} {D : List (Int × Int)} (n0 : 0 ≤ n) (n1 : n ≤ 100) (h : ∀ d ∈ D, 0 ≤ d.1 ∧ d.1 ≤ 100 ∧ 0 ≤ d.2 ∧ d.2 ≤ 100) (hl : D.length ≤ 100) : Shows (hd n D) := by
  obtain ⟨i1, i2⟩ := pds_show h
  have s1 := PyData.shown_int_le2 (i := n) (by omega) (by omega)
  have dp := pd_deep D
  refine ⟨?_, ?_, ?_, PyData.shown_fits_bulk (B := 13) (by decide) (by decide) ?_ ?_⟩
  · simp only [hd, PyData.showable, PyData.showableAll, Bool.and_true, i1]
    rw [decide_eq_true (log_small n0 n1)]
  · simp only [hd, PyData.hasDict, PyData.hasDictAll, Bool.or_false, Bool.false_or]
    exact pds_nodict D
  · simp only [hd, PyData.depth, PyData.depthAll]
    omega
  · simp only [hd, PyData.leavesShort, PyData.leavesShortAll, Bool.and_true, i2]
    rw [decide_eq_true s1]
  · simp only [hd, PyData.bulk, PyData.bulkAll, pds_bulk]
    omega
theorem Forest.shows {n : Int} {D : List (Int × Int)} (f : Forest n D) (n0 : 0 ≤ n) (n1 : n ≤ 8) : Shows (hd n D) := by
  refine hd_shows n0 (by omega) (fun d hd => ?_) (Nat.le_trans f.len (by decide))
  have := f.ends (a := d.1) (b := d.2) hd
  omega
theorem HouseAt.dp {K : PySem.W.Frag} {H : Hp} {h : Addr} {n : Int} {D : List (Int × Int)} (x : HouseAt H h n D) : Dp K H (.ref h) (hd n D) := by
  obtain ⟨q, ps, h1, h2, h3, h4⟩ := x
  rw [h3]
  exact .tup (SqT.of h1) (.cons (.int n) (.cons (.tup (SqT.of h2) (dp_pairs h4)) .nil))
end Fw
namespace Fw
open PySem PySem.Spec PyProof.Rows L2
/-- a def of the text, wherever it stands -/
def DefE (K : PySem.W.Frag) (mg : Str → Option Value) (x : Str) (st : Stmt) (ps : List Str) : Prop := ∃ f fd, Def K mg x st f fd ps
/-- a def that keeps a promise, by its name -/
def Cal (P : Program) (w : World) (K : PySem.W.Frag) (mg : Str → Option Value) (base : Heap) (k : Nat) (x : Str) (ps : List Str) (sp : Sp) : Prop :=
  ∃ f fd, mg x = some (.ref f) ∧ PySem.W.keepIn K (.ref f) = true ∧ Binds K fd ps [] ∧ FnOk P w K mg base CX0 k f fd ps sp
def CalG (P : Program) (w : World) (K : PySem.W.Frag) (mg : Str → Option Value) (base : Heap) (k : Nat) (x : Str) (ps : List Str) (sp : Sp) : Prop :=
  ∃ f fd, mg x = some (.ref f) ∧ PySem.W.keepIn K (.ref f) = true ∧ Binds K fd ps [] ∧ FnG P w K mg base k f fd ps sp
section
variable {P : Program} {w : World} {K : PySem.W.Frag} {mg : Str → Option Value} {base : Heap}
theorem Def.cal {x : Str} {st : Stmt} {f : Addr} {fd : FuncData} {ps : List Str} {k : Nat} {sp : Sp} (D : Def K mg x st f fd ps) (h : FnOk P w K mg base CX0 k f fd ps sp) : Cal P w K mg base k x ps sp :=
  ⟨f, fd, D.g, D.F.kp, D.b, h⟩
theorem Def.calG {x : Str} {st : Stmt} {f : Addr} {fd : FuncData} {ps : List Str} {k : Nat} {sp : Sp} (D : Def K mg x st f fd ps) (h : FnG P w K mg base k f fd ps sp) : CalG P w K mg base k x ps sp :=
  ⟨f, fd, D.g, D.F.kp, D.b, h⟩
theorem DefE.cal {x : Str} {st : Stmt} {ps : List Str} {k : Nat} {sp : Sp} (D : DefE K mg x st ps) (h : ∀ f fd, Def K mg x st f fd ps → FnOk P w K mg base CX0 k f fd ps sp) : Cal P w K mg base k x ps sp := by
  obtain ⟨f, fd, d⟩ := D
  exact d.cal (h f fd d)
theorem DefE.calG {x : Str} {st : Stmt} {ps : List Str} {k : Nat} {sp : Sp} (D : DefE K mg x st ps) (h : ∀ f fd, Def K mg x st f fd ps → FnG P w K mg base k f fd ps sp) : CalG P w K mg base k x ps sp := by
  obtain ⟨f, fd, d⟩ := D
  exact d.calG (h f fd d)
theorem Cal.imp {x : Str} {ps : List Str} {k : Nat} {sp sp' : Sp} (C : Cal P w K mg base k x ps sp) (h : ∀ vs H Q E, sp' vs H Q E → sp vs H Q E) : Cal P w K mg base k x ps sp' := by
  obtain ⟨f, fd, a, b, c, d⟩ := C
  exact ⟨f, fd, a, b, c, d.imp h⟩
theorem Cal.up {x : Str} {ps : List Str} {j k : Nat} {sp : Sp} (C : Cal P w K mg base j x ps sp) (h : j ≤ k) : Cal P w K mg base k x ps sp := by
  obtain ⟨f, fd, a, b, c, d⟩ := C
  exact ⟨f, fd, a, b, c, d.mono h⟩
theorem pe_cal {X : Cx} {k : Nat} {ps : List Str} {sp : Sp} {x : Str} {p pos : Pos} {e : Expr} {es : List Expr} {t : TA} (C : Cal X.prog X.w X.K X.mg X.base k x ps sp) (hr : Room k X.A) (hg : Gl X x) (ha : PA X (e :: es) t) (hdb : (x == ("__debug__" : Str)) = false := by decide)
    (h1 : starEach (e :: es) X.env = (false, eval e X.env) :: starEach es X.env := by rfl) (h2 : (backTo pos (starEach es X.env)).any (·.1) = false := by rfl) : PE X (.Call (.Name x p) (e :: es) [] pos) (tCall sp [] E0 t) := by
  obtain ⟨f, fd, a, b, c, d⟩ := C
  exact pe_call d hr hg a b c .nil pass0 ha hdb h1 h2
theorem pe_calG {X : Cx} {k : Nat} {ps : List Str} {sp : Sp} {x : Str} {p pos : Pos} {e : Expr} {es : List Expr} {t : TA} (C : CalG X.prog X.w X.K X.mg X.base k x ps sp) (gd : X.A.guards = some []) (hr : Room k X.A) (hg : Gl X x) (ha : PA X (e :: es) t) (hdb : (x == ("__debug__" : Str)) = false := by decide)
    (h1 : starEach (e :: es) X.env = (false, eval e X.env) :: starEach es X.env := by rfl) (h2 : (backTo pos (starEach es X.env)).any (·.1) = false := by rfl) : PE X (.Call (.Name x p) (e :: es) [] pos) (tCall sp [] E0 t) := by
  obtain ⟨f, fd, a, b, c, d⟩ := C
  exact pe_callG d gd hr hg a b c ha hdb h1 h2
end
def tTru (K : PySem.W.Frag) (ta : TE) : TT := fun σ H Q => ta σ H fun x H' => ∃ k, TruV K x H' k ∧ Q k H'
/-! ### the rules with the written part told (so that they can stand in a comprehension) -/
section
variable {X : Cx} (K : PySem.W.Frag) (h : X.K = K)
include h
theorem op_inK : OpR X (compareOp .In) (rIn K false) := by subst h; exact op_in_seq
theorem op_notInK : OpR X (compareOp .NotIn) (rIn K true) := by subst h; exact op_notIn_seq
theorem ix_listK : IxR X (rIxL K) := by subst h; exact ix_list
theorem ix_tupK : IxR X (rIxT K) := by subst h; exact ix_tup
theorem call_lenK : CallR X (.builtin "len") (fun xs H Q => ∃ p ys, xs = [.ref p] ∧ (SqL K H p ys ∨ SqT K H p ys) ∧ Q (.int ys.length) H) := by subst h; exact call_len_seq
theorem call_listK : CallR X (.type "list") (fun xs H Q => ∃ p ys, xs = [.ref p] ∧ (SqL K H p ys ∨ SqT K H p ys) ∧ ∀ l, H l = none → Q (.ref l) (upd H l (.lst ys))) := by subst h; exact call_list_of
theorem call_tupleK : CallR X (.type "tuple") (fun xs H Q => ∃ p ys, xs = [.ref p] ∧ ((SqL K H p ys ∧ ∀ l, H l = none → Q (.ref l) (upd H l (.tup ys))) ∨ (SqT K H p ys ∧ Q (.ref p) H))) := by subst h; exact call_tuple_of
theorem call_tupleF : CallR X (.type "tuple") (fun xs H Q => ∃ p ys, xs = [.ref p] ∧ SqL K H p ys ∧ ∀ (l : Addr) (ob : Obj), H l = none → ob.dict = none → Q (.ref l) (upd H l (.frz ob (.tup ys)))) := by
  subst h
  intro pins s σ H xs us Q I r h
  obtain ⟨p, ys, rfl, hq, q⟩ := h
  obtain ⟨u, rfl, ru⟩ := vals1 r
  cases ru
  obtain ⟨its, rel, pl, hz⟩ := I.list hq
  have hlen := rel.length
  refine call_tuple_list pl.isList (fun h' kp => ?_) (by simp only [List.size_toArray] <;> omega)
  have I1 : Inv X pins σ H { s with heap := h' } := I.kept (t' := s.toks) kp
  have J : Inv X pins σ (upd H h'.objs.size (.frz { cls := .type "tuple", data := .seq its.toArray } (.tup ys))) { s with heap := h'.push { cls := .type "tuple", data := .seq its.toArray } } :=
    I1.laid (t' := s.toks) (fun b o e => Heap.get?_push_of_some _ e) (Nat.le_refl _) (show ObjOk X.prog X.w _ _ _ (.frz _ (.tup ys)) from ⟨Heap.get?_push_size _ rfl, hz, its, rel, IsTup.new _ _⟩)
  exact ⟨.ref h'.objs.size, _, J, rfl, q _ _ (I1.hok.fresh (Nat.le_refl _)) rfl⟩
theorem pi_tupK {tg l : Expr} {tl : TE} (hl : PE X l tl) : PI X tg l (iTup K tl) := by subst h; exact pi_tup hl
theorem pi_listK {tg l : Expr} {tl : TE} (hl : PE X l tl) : PI X tg l (iList K tl) := by subst h; exact pi_list hl
theorem op_eqDK (hu : X.A.units + 64 < cLine) : OpR X (compareOp .Eq) (rEqD K) := by subst h; exact op_eqD hu
theorem op_neDK (hu : X.A.units + 64 < cLine) : OpR X (compareOp .NotEq) (rNeD K) := by subst h; exact op_neD hu
theorem pt_truthK {a : Expr} {ta : TE} (ha : PE X a ta) (he : ∀ whole, isTrue a X.env whole = (do let v ← whole; standAt a.pos; holding [v] (truthy v))) : PT X a (tTru K ta) := by subst h; exact pt_truth ha he
end
end Fw
namespace Fw
open PySem PySem.Spec PyProof.Rows L2
/-! ### names: texts of small letters -/
def Low (m : Nat) (s : Str) : Prop := s.length ≤ m ∧ ∀ c ∈ s.cps.toList, 97 ≤ c ∧ c ≤ 122
def Nam (s : Str) : Prop := 1 ≤ s.length ∧ Low 8 s
def ltS (a b : Str) : Prop := a.cps.toList < b.cps.toList
structure Names (ns : List Str) : Prop where
  nam : ∀ x ∈ ns, Nam x
  up : ns.Pairwise ltS
theorem str_ext {a b : Str} (h : a.cps.toList = b.cps.toList) : a = b := by
  cases a with
  | mk x => cases b with
    | mk y =>
      have : x = y := Array.toList_inj.mp h
      rw [this]
theorem app_list (a b : Str) : (a ++ b).cps.toList = a.cps.toList ++ b.cps.toList := by
  show (a.cps ++ b.cps).toList = _
  rw [Array.toList_append]
theorem app_len (a b : Str) : (a ++ b).length = a.length + b.length := Str.length_append a b
theorem len_list (a : Str) : a.length = a.cps.toList.length := by
  show a.cps.size = _
  rw [Array.length_toList]
theorem Low.app {m n : Nat} {a b : Str} (h : Low m a) (k : Low n b) : Low (m + n) (a ++ b) := by
  refine ⟨by rw [app_len]; have := h.1; have := k.1; omega, fun c hc => ?_⟩
  rw [app_list, List.mem_append] at hc
  exact hc.elim (h.2 c) (k.2 c)
theorem Low.mono {m n : Nat} {a : Str} (h : Low m a) (k : m ≤ n) : Low n a := ⟨Nat.le_trans h.1 k, h.2⟩
def let1 (i : Int) : Str := ⟨#[97 + i.toNat]⟩
theorem let1_low {i : Int} (h0 : 0 ≤ i) (h1 : i < 26) : Low 1 (let1 i) := by
  refine ⟨Nat.le_refl _, fun c hc => ?_⟩
  have : c = 97 + i.toNat := by simpa [let1] using hc
  omega
theorem join_low {sep : Str} (hs : sep.cps.toList = []) : ∀ {ys : List Str}, (∀ y ∈ ys, Low 1 y) → Low ys.length (Txt.join sep ys) := by
  intro ys h
  show Low ys.length (Builtin.Str.glued sep ys)
  rw [StrLaws.glued_eq_join]
  induction ys with
  | nil => exact ⟨Nat.le_refl _, fun c hc => by cases (show c ∈ ([] : List Nat) from hc)⟩
  | cons y r ih =>
    cases r with
    | nil => exact h y (List.mem_cons_self ..)
    | cons z r =>
      have i1 := ih fun x hx => h x (List.mem_cons_of_mem _ hx)
      have i0 := h y (List.mem_cons_self ..)
      have e : Str.join sep (y :: z :: r) = y ++ sep ++ Str.join sep (z :: r) := rfl
      have e2 : y ++ sep = y := str_ext (by rw [app_list, hs, List.append_nil])
      rw [e, e2]
      refine ((i0.app i1).mono ?_)
      simp only [List.length_cons]
      omega
theorem join_fits {sep : Str} (hs : sep.cps.toList = []) {ys : List Str} (h : ∀ y ∈ ys, Low 1 y) (hl : ys.length ≤ 100) : (ys.map (·.length)).sum + ys.length * sep.length ≤ 16777216 := by
  have e : sep.length = 0 := by rw [len_list, hs]; rfl
  rw [e, Nat.mul_zero, Nat.add_zero]
  have : ∀ zs : List Str, (∀ y ∈ zs, Low 1 y) → (zs.map (·.length)).sum ≤ zs.length := by
    intro zs hz
    induction zs with
    | nil => exact Nat.le_refl _
    | cons z r ih =>
      have := ih fun x hx => hz x (List.mem_cons_of_mem _ hx)
      have := (hz z (List.mem_cons_self ..)).1
      simp only [List.map_cons, List.sum_cons, List.length_cons]
      omega
  have := this ys h
  omega
def nmk (h t : Str) (r : Int) (k : Nat) : Str := h ++ let1 ((r + 7 * (0 + (k : Int))).fmod 26) ++ t
theorem fm26 (x : Int) : 0 ≤ x.fmod 26 ∧ x.fmod 26 < 26 := by
  rw [Int.fmod_eq_emod_of_nonneg x (by decide)]
  omega
theorem nmk_nam {h t : Str} {r : Int} {k : Nat} (a : Low 3 h) (b : Low 3 t) : Nam (nmk h t r k) := by
  have l := let1_low (fm26 (r + 7 * (0 + (k : Int)))).1 (fm26 _).2
  have := ((a.app l).app b).mono (show 3 + 1 + 3 ≤ 8 by decide)
  refine ⟨?_, this⟩
  unfold nmk
  rw [app_len, app_len]
  show 1 ≤ h.length + 1 + t.length
  omega
theorem nmk_len {h t : Str} {r : Int} {k : Nat} (a : Low 3 h) (b : Low 3 t) : (nmk h t r k).length ≤ 7 := ((a.app (let1_low (fm26 (r + 7 * (0 + (k : Int)))).1 (fm26 _).2)).app b).1
theorem nmk_inj {h t : Str} {r : Int} {i j : Nat} (hi : i < 26) (hj : j < 26) (e : nmk h t r i = nmk h t r j) : i = j := by
  have e1 := congrArg (fun s : Str => s.cps.toList) e
  simp only [nmk, app_list] at e1
  have e2 := List.append_cancel_right e1
  have e3 := List.append_cancel_left e2
  have e4 : 97 + ((r + 7 * (0 + (i : Int))).fmod 26).toNat = 97 + ((r + 7 * (0 + (j : Int))).fmod 26).toNat := by simpa [let1] using e3
  have a := fm26 (r + 7 * (0 + (i : Int)))
  have b := fm26 (r + 7 * (0 + (j : Int)))
  rw [Int.fmod_eq_emod_of_nonneg _ (by decide)] at a b e4
  rw [Int.fmod_eq_emod_of_nonneg _ (by decide)] at e4
  omega
theorem nmk_nodup {h t : Str} {r : Int} {m : Nat} (hm : m ≤ 26) : ((List.range m).map (nmk h t r)).Nodup := by
  rw [List.nodup_iff_pairwise_ne, List.pairwise_map]
  refine (List.nodup_iff_pairwise_ne.mp List.nodup_range).imp_of_mem fun {a b} ha hb ne e => ne ?_
  rw [List.mem_range] at ha hb
  exact nmk_inj (by omega) (by omega) e
theorem risingS_le : ∀ {ys : List Str} {p : Str}, risingS p ys = true → (∀ x ∈ ys, ¬ ltS x p) ∧ ys.Pairwise (fun a b => ¬ ltS b a)
  | [], _, _ => ⟨fun _ h => absurd h List.not_mem_nil, .nil⟩
  | x :: r, p, h => by
    rw [risingS, Bool.and_eq_true, Bool.not_eq_true', ltCps_eq, decide_eq_false_iff_not] at h
    obtain ⟨h1, h2⟩ := h
    obtain ⟨i1, i2⟩ := risingS_le h2
    refine ⟨fun y hy => ?_, .cons i1 i2⟩
    rcases List.mem_cons.mp hy with rfl | hy
    · exact h1
    · have h3 := i1 y hy
      exact fun z => List.le_trans (α := Nat) (Std.not_lt.mp h1) (Std.not_lt.mp h3) z
theorem sortedS_le {ys : List Str} (h : sortedS ys = true) : ys.Pairwise (fun a b => ¬ ltS b a) := by
  cases ys with
  | nil => exact .nil
  | cons x r => exact .cons (risingS_le h).1 (risingS_le h).2
theorem ltS_of {a b : Str} (h : ¬ ltS b a) (n : a ≠ b) : ltS a b := by
  have h : a.cps.toList ≤ b.cps.toList := Std.not_lt.mp h
  by_cases l : ltS a b
  · exact l
  · exact absurd (str_ext (List.le_antisymm h (Std.not_lt.mp l))) n
theorem sorted_names {ns ys : List Str} (p : ys.Perm ns) (h : sortedS ys = true) (n : ns.Nodup) (a : ∀ x ∈ ns, Nam x) : Names ys := by
  refine ⟨fun x hx => a x (p.mem_iff.mp hx), ?_⟩
  have nd : ys.Nodup := p.nodup_iff.mpr n
  exact ((sortedS_le h).and (List.nodup_iff_pairwise_ne.mp nd)).imp fun {a b} h => ltS_of h.1 h.2
theorem ltS_irr (a : Str) : ¬ ltS a a := fun h => List.lt_irrefl _ h
theorem ltS_trans {a b c : Str} (h : ltS a b) (k : ltS b c) : ltS a c := List.lt_trans h k
theorem Names.nodup {ns : List Str} (h : Names ns) : ns.Nodup := List.nodup_iff_pairwise_ne.mpr (h.up.imp fun {a b} l => fun (e : a = b) => ltS_irr b (by rw [e] at l; exact l))
theorem vs_app (a b : List Str) : (a ++ b).map V.str = a.map V.str ++ b.map V.str := List.map_append
theorem get_vs {ns : List Str} {i : Nat} {x : V} (h : (ns.map V.str)[i]? = some x) : ∃ v, ns[i]? = some v ∧ x = .str v := by
  rw [List.getElem?_map] at h
  cases e : ns[i]? with
  | none => rw [e] at h; cases h
  | some v => rw [e] at h; exact ⟨v, rfl, (Option.some.inj h).symm⟩
theorem abc_at {z : Str} (hz : z.cps.toList = (List.range 26).map (97 + ·)) {i : Int} (h0 : 0 ≤ i) (h1 : i < 26) : atI z.cps.toList i = some (97 + i.toNat) := by
  have := atI_nat (xs := z.cps.toList) (j := i.toNat) (v := 97 + i.toNat) (by rw [hz, List.getElem?_map, List.getElem?_range (by omega)]; rfl)
  rw [show ((i.toNat : Nat) : Int) = i by omega] at this
  exact this

theorem nam_ok {s : Str} (h : Nam s) : PyData.strOk s = true := by
  unfold PyData.strOk
  rw [Array.all_eq_true_iff_forall_mem]
  intro c hc
  have := h.2.2 c (by rw [Array.mem_toList_iff]; exact hc)
  exact decide_eq_true (by omega)
/-! ### a placement, as it stands in memory -/
/-- a tuple that is to be read (the second way: one that is known to have no attributes of its own) -/
def TpAt (H : Hp) (p : Addr) (xs : List V) : Prop := H p = some (.tup xs) ∨ ∃ o : Obj, o.dict = none ∧ H p = some (.frz o (.tup xs))
theorem TpAt.same {H H' : Hp} {p : Addr} {xs : List V} (x : TpAt H p xs) (e : Same H H') : TpAt H' p xs := x.elim (fun h => .inl (e _ _ h)) fun ⟨o, d, h⟩ => .inr ⟨o, d, e _ _ h⟩
theorem TpAt.sq {K : PySem.W.Frag} {H : Hp} {p : Addr} {xs : List V} (x : TpAt H p xs) : SqT K H p xs := x.elim (fun h => SqT.of h) fun ⟨o, _, h⟩ => .inl (.inr ⟨o, h⟩)
def PlAt (H : Hp) (p : Addr) (P : List (Str × Int)) : Prop := ∃ ps : List (Addr × Str × Int), TpAt H p (ps.map fun q => V.ref q.1) ∧ P = ps.map (·.2) ∧ ∀ q ∈ ps, H q.1 = some (.tup [.str q.2.1, .int q.2.2])
theorem PlAt.same {H H' : Hp} {p : Addr} {P : List (Str × Int)} (x : PlAt H p P) (e : Same H H') : PlAt H' p P := by
  obtain ⟨ps, h1, h2, h3⟩ := x
  exact ⟨ps, h1.same e, h2, fun q hq => e _ _ (h3 q hq)⟩
/-- the same, of a tuple of the second way -/
def PlD (H : Hp) (p : Addr) (P : List (Str × Int)) : Prop := ∃ (ps : List (Addr × Str × Int)) (o : Obj), o.dict = none ∧ H p = some (.frz o (.tup (ps.map fun q => V.ref q.1))) ∧ P = ps.map (·.2) ∧ ∀ q ∈ ps, H q.1 = some (.tup [.str q.2.1, .int q.2.2])
theorem PlD.pl {H : Hp} {p : Addr} {P : List (Str × Int)} (x : PlD H p P) : PlAt H p P := by
  obtain ⟨ps, o, d, h1, h2, h3⟩ := x
  exact ⟨ps, .inr ⟨o, d, h1⟩, h2, h3⟩
theorem PlD.same {H H' : Hp} {p : Addr} {P : List (Str × Int)} (x : PlD H p P) (e : Same H H') : PlD H' p P := by
  obtain ⟨ps, o, d, h1, h2, h3⟩ := x
  exact ⟨ps, o, d, e _ _ h1, h2, fun q hq => e _ _ (h3 q hq)⟩
/-- a placement of n rooms -/
structure Pl (n : Int) (P : List (Str × Int)) : Prop where
  nm : Names (P.map (·.1))
  rm : ∀ x ∈ P, 0 ≤ x.2 ∧ x.2 < n
theorem Pl.nodup {n : Int} {P : List (Str × Int)} (h : Pl n P) : (P.map (·.1)).Nodup := h.nm.nodup
/-! ### parameters -/
abbrev pDraw : List Str := ["_law_stream_here", "_law_many"]
abbrev pHP : List Str := ["house", "placement"]
abbrev pIsAsc : List Str := ["sequence"]
abbrev pIsInt : List Str := ["value"]
abbrev pIsRoom : List Str := ["house", "value"]
abbrev pLMoved : List Str := ["_law_placement", "_law_name", "_law_room"]
abbrev pLMoves : List Str := ["_law_house", "_law_placement"]
abbrev pLNb : List Str := ["_law_house", "_law_room"]
abbrev pMove : List Str := ["house", "placement", "name", "room"]
abbrev pLeav : List Str := ["placement", "target", "region"]
abbrev pSurp : List Str := ["placement", "region"]
abbrev pLHP : List Str := ["_law_house", "_law_placement"]
abbrev pFree : List Str := ["house", "placement", "target", "region"]
abbrev pLFree : List Str := ["_law_house", "_law_placement", "_law_target", "_law_piece"]
abbrev pWith : List Str := ["placement", "name", "room"]
abbrev pNamesOf : List Str := ["placement"]
abbrev pPIn : List Str := ["placement", "room"]
abbrev pPWi : List Str := ["placement", "rooms"]
abbrev pPl : List Str := ["_law_stream_here", "_law_house", "_law_most"]
abbrev pRegOf : List Str := ["house", "placement", "room"]
abbrev pRoomOf : List Str := ["placement", "name"]
abbrev pLWithin : List Str := ["_law_one", "_law_others"]
abbrev pLWalk : List Str := ["_law_stream_here", "_law_house", "_law_placement", "_law_many"]
abbrev pLTarget : List Str := ["_law_stream_here", "_law_house", "_law_placement"]
abbrev pHPT : List Str := ["house", "placement", "target"]
abbrev pLHPT : List Str := ["_law_house", "_law_placement", "_law_target"]
abbrev pConn : List Str := ["_law_house", "_law_rooms", "_law_room"]
abbrev pPTgt : List Str := ["house", "placement", "target", "name"]
abbrev pPassing : List Str := ["house", "placement", "target", "room"]
abbrev pLPassing : List Str := ["_law_house", "_law_placement", "_law_target", "_law_room", "_law_some"]
abbrev pSame : List Str := ["_law_found", "_law_expected"]
end Fw
namespace Fw
open PySem PySem.Spec PyProof.Rows L2
section
variable {P : Program} {w : World} {K : PySem.W.Frag} {mg : Str → Option Value} {base : Heap}
theorem cal_draw (D : DefE K mg "_law_draw" sDraw pDraw) (T : Nm mg) : Cal P w K mg base 1 "_law_draw" pDraw spDraw := D.cal fun _ _ d => ok_draw d.F T
theorem StreamAt.frz {s A B : Addr} {c : Nat} {H : Hp} (hS : StreamAt H s A B c) {t : Addr} {o : Obj} {u : HO} (h : H t = some (.frz o u)) : t ≠ s ∧ t ≠ A ∧ t ≠ B := by
  obtain ⟨big, cells, cnt, h1, h2, h3, _⟩ := hS.ex
  exact ⟨ne_of h h1 (by intro q; cases q), ne_of h h2 (by intro q; cases q), ne_of h h3 (by intro q; cases q)⟩
theorem Fr.frz {s A B : Addr} {c : Nat} {H H1 : Hp} (f : Fr s A H H1) (hS : StreamAt H s A B c) {t : Addr} {o : Obj} {u : HO} (h : H t = some (.frz o u)) : H1 t = some (.frz o u) := f t _ (hS.frz h).1 (hS.frz h).2.1 h
theorem TpAt.fr {s A B : Addr} {c : Nat} {H H' : Hp} {p : Addr} {xs : List V} (x : TpAt H p xs) (hS : StreamAt H s A B c) (e : Fr s A H H') : TpAt H' p xs := x.elim (fun h => .inl (e.tup hS h)) fun ⟨o, d, h⟩ => .inr ⟨o, d, e.frz hS h⟩
theorem PlAt.fr {s A B : Addr} {c : Nat} {H H' : Hp} {p : Addr} {P : List (Str × Int)} (x : PlAt H p P) (hS : StreamAt H s A B c) (e : Fr s A H H') : PlAt H' p P := by
  obtain ⟨ps, h1, h2, h3⟩ := x
  exact ⟨ps, h1.fr hS e, h2, fun q hq => e.tup hS (h3 q hq)⟩
theorem PlD.fr {s A B : Addr} {c : Nat} {H H' : Hp} {p : Addr} {P : List (Str × Int)} (x : PlD H p P) (hS : StreamAt H s A B c) (e : Fr s A H H') : PlD H' p P := by
  obtain ⟨ps, o, d, h1, h2, h3⟩ := x
  exact ⟨ps, o, d, e.frz hS h1, h2, fun q hq => e.tup hS (h3 q hq)⟩
def spNames : Sp := fun vs H Q _ => ∃ (s A B : Addr) (c : Nat) (m : Int), vs = [.ref s, .int m] ∧ StreamAt H s A B c ∧ c < 2 ^ 30 ∧ 0 ≤ m ∧ m ≤ 20 ∧
  ∀ H' l ns, StreamAt H' s A B (c + 10) → Fr s A H H' → H l = none → H' l = some (.lst (ns.map V.str)) → ns.length = m.toNat → Names ns → Q (.ref l) H'
/-- the same, with more known of the names -/
def spNamesS (S : List Str → Prop) : Sp := fun vs H Q _ => ∃ (s A B : Addr) (c : Nat) (m : Int), vs = [.ref s, .int m] ∧ StreamAt H s A B c ∧ c < 2 ^ 30 ∧ 0 ≤ m ∧ m ≤ 20 ∧
  ∀ H' l ns, StreamAt H' s A B (c + 10) → Fr s A H H' → H l = none → H' l = some (.lst (ns.map V.str)) → ns.length = m.toNat → Names ns → S ns → Q (.ref l) H'
abbrev spNamesR (R : Str → Prop) : Sp := spNamesS fun ns => ∀ x ∈ ns, R x
/-- short, and all of one length -/
def OneLen (ns : List Str) : Prop := (∀ x ∈ ns, x.length ≤ 7) ∧ ∃ u, ∀ x ∈ ns, x.length = u
theorem nmk_lenE {h t : Str} {r : Int} {k : Nat} : (nmk h t r k).length = h.length + 1 + t.length := by
  unfold nmk
  rw [app_len, app_len]
  rfl
abbrev nNames : List Str := ["_law_stream_here", "_law_many", "_law_letters", "_law_first", "_law_head", "_law_k", "_law_tail"]
theorem scNames : FnScope nNames ["_law_stream_here", "_law_many"] (defScope sNames) := ⟨rfl, rfl, rfl, by decide +kernel, rfl, by decide +kernel, by decide +kernel⟩
theorem ok_namesS {f : Addr} {fd : FuncData} (F : Fun K "_law_names" "_law_names" sNames f fd) (T : Nm mg) (C_law_draw : Cal P w K mg base 1 "_law_draw" pDraw spDraw) : FnOk P w K mg base CX0 2 f fd ["_law_stream_here", "_law_many"] (spNamesS OneLen) := by
  refine F.ok scNames (fun vs H Q E h => ?_) (fun cdv A outer s H vs Q E hr h => ?_)
  · obtain ⟨s, A, B, c, m, rfl, _⟩ := h
    rfl
  · obtain ⟨s, A, B, c, m, rfl, hS, hc, hm0, hm1, q⟩ := h
    refine ⟨_, (pss_cons (ps_set (i := 2) scNames.nd rfl (.inr rfl) pe_str)
      (pss_cons (ps_set (i := 3) scNames.nd rfl (.inr rfl) (pe_cal C_law_draw (hr.mono (by decide)) (by rfl) (pa_cons (pv 0) (pa_cons pe_int pa_nil))))
      (pss_cons (ps_set (i := 4) scNames.nd rfl (.inr rfl) (pe_join pe_str (pe_lc (own := [("_law_k", 5)]) (g := gName 5) (by rfl) scNames.nd (pi_range1 (by rfl) T.range (pa_cons (pe_cal C_law_draw (hr.mono (by decide)) (by rfl) (pa_cons (pv 0) (pa_cons pe_int pa_nil))) pa_nil))
 (blkOk_by (own := [("_law_k", 5)]) (N := nNames) (sc := defScope sNames) (by decide +kernel))
 (fun _ _ _ _ _ => (pg_name (i := 5) scNames.nd rfl (.inl rfl))) (fun _ _ _ _ _ => pts_nil) (fun _ _ _ _ _ => (pe_ix ix_str (pv 2) (pe_cal C_law_draw (hr.mono (by decide)) (by rfl) (pa_cons (pv 0) (pa_cons pe_int pa_nil))) (fun _ _ => rfl))))))
      (pss_cons (ps_set (i := 6) scNames.nd rfl (.inr rfl) (pe_join pe_str (pe_lc (own := [("_law_k", 5)]) (g := gName 5) (by rfl) scNames.nd (pi_range1 (by rfl) T.range (pa_cons (pe_cal C_law_draw (hr.mono (by decide)) (by rfl) (pa_cons (pv 0) (pa_cons pe_int pa_nil))) pa_nil))
 (blkOk_by (own := [("_law_k", 5)]) (N := nNames) (sc := defScope sNames) (by decide +kernel))
 (fun _ _ _ _ _ => (pg_name (i := 5) scNames.nd rfl (.inl rfl))) (fun _ _ _ _ _ => pts_nil) (fun _ _ _ _ _ => (pe_ix ix_str (pv 2) (pe_cal C_law_draw (hr.mono (by decide)) (by rfl) (pa_cons (pv 0) (pa_cons pe_int pa_nil))) (fun _ _ => rfl))))))
      (pss_one (ps_ret (pe_callB cr_sortedS (by rfl) T.sorted (by decide +kernel) (pa_cons (pe_lc (own := [("_law_k", 5)]) (g := gName 5) (by rfl) scNames.nd (pi_range1 (by rfl) T.range (pa_cons (pv 1) pa_nil))
 (blkOk_by (own := [("_law_k", 5)]) (N := nNames) (sc := defScope sNames) (by decide +kernel))
 (fun _ _ _ _ _ => (pg_name (i := 5) scNames.nd rfl (.inl rfl))) (fun _ _ _ _ _ => pts_nil) (fun _ _ _ _ _ => (pe_op op_add_str (pe_op op_add_str (pv 4) (pe_ix ix_str (pv 2) (pe_op op_modN (pe_op op_add (pv 3) (pe_op op_mul pe_int (pv 5))) pe_int) (fun _ _ => rfl))) (pv 6)))) pa_nil)))))))), ?_⟩
    refine ⟨_, rfl, s, A, B, c, _, rfl, hS, by omega, by decide, by decide, fun H1 r hS1 fr1 r0 r1 => ?_⟩
    refine ⟨⟨_, rfl⟩, _, rfl, s, A, B, c + 1, _, rfl, hS1, by omega, by decide, by decide, fun H2 r2 hS2 fr2 r20 r21 => ?_⟩
    have abc : (Str.ofString "abcdefghijklmnopqrstuvwxyz").cps.toList = (List.range 26).map (97 + ·) := by decide +kernel
    have nil : (Str.ofString "").cps.toList = [] := by decide +kernel
    refine ⟨r2, rfl, by omega, by omega, fun L hL => lc_range (lo := 0) (n := r2.toNat) (fun i H' => ∃ ys : List Str, StreamAt H' s A B (c + 1 + 1 + i) ∧ Fr s A H2 H' ∧ H' L = some (.lst (ys.map V.str)) ∧ ys.length = i ∧ ∀ y ∈ ys, Low 1 y)
      ⟨[], hS2.same (same_upd hL), Fr.of (same_upd hL), upd_same, rfl, fun y hy => absurd hy List.not_mem_nil⟩ ?_ ?_⟩
    · rintro i H' hi ⟨ys, hS', fr', e', l', p'⟩
      refine ⟨rfl, ?_⟩
      unfold tYes
      refine iteT ⟨_, rfl, _, rfl, s, A, B, c + 1 + 1 + i, _, rfl, hS', by omega, by decide, by decide, fun H'' x hS'' fr'' x0 x1 => ?_⟩
      have z := hS2.ne hL
      refine ⟨_, x, _, rfl, rfl, by decide +kernel, abc_at abc x0 x1, _, fr'' _ _ z.1.symm z.2.1.symm e', ?_, ys ++ [let1 x], hS''.put z, (fr'.trans fr'').put hL, ?_, ?_, ?_⟩
      · rw [List.length_map]
        exact small1000 (by omega)
      · rw [upd_same, vs_app]
        rfl
      · rw [List.length_append, l']
        rfl
      · intro y hy
        rcases List.mem_append.mp hy with hy | hy
        · exact p' y hy
        · rw [List.mem_singleton.mp hy]
          exact let1_low x0 x1
    rintro H3 ⟨ys, hS3, fr3, e3, l3, p3⟩
    refine ⟨_, L, ys, rfl, rfl, .inl (SqL.of e3), join_fits nil p3 (by omega), ?_⟩
    have hd : Low 3 (Txt.join (Str.ofString "") ys) := (join_low nil p3).mono (by omega)
    generalize Txt.join (Str.ofString "") ys = hd' at *
    have hS3 := hS3.mono (show _ ≤ c + 5 by omega)
    have fr3 : Fr s A H H3 := (fr1.trans fr2).trans fr3
    clear e3 l3 p3 hL fr2 hS2
    refine ⟨⟨_, rfl⟩, _, rfl, s, A, B, c + 5, _, rfl, hS3, by omega, by decide, by decide, fun H4 r4 hS4 fr4 r40 r41 => ?_⟩
    refine ⟨r4, rfl, by omega, by omega, fun M hM => lc_range (lo := 0) (n := r4.toNat) (fun i H' => ∃ ys : List Str, StreamAt H' s A B (c + 5 + 1 + i) ∧ Fr s A H4 H' ∧ H' M = some (.lst (ys.map V.str)) ∧ ys.length = i ∧ ∀ y ∈ ys, Low 1 y)
      ⟨[], hS4.same (same_upd hM), Fr.of (same_upd hM), upd_same, rfl, fun y hy => absurd hy List.not_mem_nil⟩ ?_ ?_⟩
    · rintro i H' hi ⟨ys, hS', fr', e', l', p'⟩
      refine ⟨rfl, ?_⟩
      unfold tYes
      refine iteT ⟨_, rfl, _, rfl, s, A, B, c + 5 + 1 + i, _, rfl, hS', by omega, by decide, by decide, fun H'' x hS'' fr'' x0 x1 => ?_⟩
      have z := hS4.ne hM
      refine ⟨_, x, _, rfl, rfl, by decide +kernel, abc_at abc x0 x1, _, fr'' _ _ z.1.symm z.2.1.symm e', ?_, ys ++ [let1 x], hS''.put z, (fr'.trans fr'').put hM, ?_, ?_, ?_⟩
      · rw [List.length_map]
        exact small1000 (by omega)
      · rw [upd_same, vs_app]
        rfl
      · rw [List.length_append, l']
        rfl
      · intro y hy
        rcases List.mem_append.mp hy with hy | hy
        · exact p' y hy
        · rw [List.mem_singleton.mp hy]
          exact let1_low x0 x1
    rintro H5 ⟨zs, hS5, fr5, e5, l5, p5⟩
    refine ⟨_, M, zs, rfl, rfl, .inl (SqL.of e5), join_fits nil p5 (by omega), ?_⟩
    have td : Low 3 (Txt.join (Str.ofString "") zs) := (join_low nil p5).mono (by omega)
    generalize Txt.join (Str.ofString "") zs = tl' at *
    have hS5 := hS5.mono (show _ ≤ c + 10 by omega)
    have fr5 : Fr s A H H5 := (fr3.trans fr4).trans fr5
    clear e5 l5 p5 hM fr4 hS4 hS3 fr3 fr1 hS1
    refine ⟨_, rfl, m, rfl, by omega, by omega, fun N hN => lc_range (lo := 0) (n := m.toNat) (fun i H' => Same H5 H' ∧ H' N = some (.lst (((List.range i).map (nmk hd' tl' r)).map V.str)))
      ⟨same_upd hN, upd_same⟩ ?_ ?_⟩
    · rintro i H' hi ⟨sm, e'⟩
      refine ⟨rfl, ?_⟩
      unfold tYes
      have g := fm26 (r + 7 * (0 + (i : Int)))
      refine iteT ⟨_, rfl, _, rfl, _, rfl, _, rfl, _, _, rfl, rfl, .inl ⟨by decide, by decide⟩, _, _, rfl, rfl, _, _, rfl, rfl, (by show (26 : Int) ≠ 0; decide), _, _, _, rfl, rfl, by decide +kernel, abc_at abc g.1 g.2, _, _, rfl, rfl, ?_, _, rfl, _, _, rfl, rfl, ?_, _, e', ?_, same_put sm hN, ?_⟩
      · show hd'.length + 1 ≤ sizeLine
        have := hd.1
        exact Nat.le_of_lt (small1000 (by omega))
      · rw [app_len]
        show hd'.length + 1 + tl'.length ≤ sizeLine
        have := hd.1
        have := td.1
        exact Nat.le_of_lt (small1000 (by omega))
      · rw [List.length_map, List.length_map, List.length_range]
        exact small1000 (by omega)
      · rw [upd_same, List.range_succ, List.map_append, vs_app]
        rfl
    rintro H6 ⟨sm6, e6⟩
    refine ⟨N, _, rfl, SqL.of e6, ?_, fun zs p hp hs hpn => ?_⟩
    · rw [List.length_map, List.length_range]
      omega
    have fr7 : Fr s A H (upd H6 p (.lst (zs.map V.str))) := fr5.trans (Fr.of (sm6.trans (same_upd hpn)))
    refine q _ p zs (hS5.same (sm6.trans (same_upd hpn))) fr7 (fr5.free hS5 (sm6.free hpn)) upd_same ?_ (sorted_names hp hs (nmk_nodup (by omega)) ?_) ⟨fun x hx => ?_, hd'.length + 1 + tl'.length, fun x hx => ?_⟩
    · rw [hp.length_eq, List.length_map, List.length_range]
    · intro x hx
      obtain ⟨k, _, rfl⟩ := List.mem_map.mp hx
      exact nmk_nam hd td
    · obtain ⟨k, _, rfl⟩ := List.mem_map.mp (hp.mem_iff.mp hx)
      exact nmk_len hd td
    · obtain ⟨k, _, rfl⟩ := List.mem_map.mp (hp.mem_iff.mp hx)
      exact nmk_lenE
theorem names_imp {S S' : List Str → Prop} {x : Str} {ps : List Str} {k : Nat} (C : Cal P w K mg base k x ps (spNamesS S)) (h : ∀ z, S z → S' z) : Cal P w K mg base k x ps (spNamesS S') :=
  C.imp fun vs H Q E ⟨s, A, B, c, m, e, hS, hc, m0, m1, q⟩ => ⟨s, A, B, c, m, e, hS, hc, m0, m1, fun H' l ns a b c d e f g => q H' l ns a b c d e f (h _ g)⟩
theorem ok_names7 {f : Addr} {fd : FuncData} (F : Fun K "_law_names" "_law_names" sNames f fd) (T : Nm mg) (C_law_draw : Cal P w K mg base 1 "_law_draw" pDraw spDraw) : FnOk P w K mg base CX0 2 f fd ["_law_stream_here", "_law_many"] (spNamesR fun x => x.length ≤ 7) :=
  (ok_namesS F T C_law_draw).imp fun vs H Q E ⟨s, A, B, c, m, e, hS, hc, m0, m1, q⟩ => ⟨s, A, B, c, m, e, hS, hc, m0, m1, fun H' l ns a b c d e f g => q H' l ns a b c d e f g.1⟩
theorem names_all {R : Str → Prop} {x : Str} {ps : List Str} {k : Nat} (C : Cal P w K mg base k x ps spNames) (h : ∀ z, R z) : Cal P w K mg base k x ps (spNamesR R) :=
  C.imp fun vs H Q E ⟨s, A, B, c, m, e, hS, hc, m0, m1, q⟩ => ⟨s, A, B, c, m, e, hS, hc, m0, m1, fun H' l ns a b c d e f => q H' l ns a b c d e f fun _ _ => h _⟩
theorem names_S {S : List Str → Prop} {x : Str} {ps : List Str} {k : Nat} (C : Cal P w K mg base k x ps spNames) (h : ∀ z, S z) : Cal P w K mg base k x ps (spNamesS S) :=
  C.imp fun vs H Q E ⟨s, A, B, c, m, e, hS, hc, m0, m1, q⟩ => ⟨s, A, B, c, m, e, hS, hc, m0, m1, fun H' l ns a b c d e f => q H' l ns a b c d e f (h _)⟩
theorem ok_names {f : Addr} {fd : FuncData} (F : Fun K "_law_names" "_law_names" sNames f fd) (T : Nm mg) (C_law_draw : Cal P w K mg base 1 "_law_draw" pDraw spDraw) : FnOk P w K mg base CX0 2 f fd ["_law_stream_here", "_law_many"] spNames :=
  (ok_names7 F T C_law_draw).imp fun vs H Q E ⟨s, A, B, c, m, e, hS, hc, m0, m1, q⟩ => ⟨s, A, B, c, m, e, hS, hc, m0, m1, fun H' l ns a b c d e f _ => q H' l ns a b c d e f⟩
end
end Fw
namespace Fw
open PySem PySem.Spec PyProof.Rows L2
theorem cut_vi (ns : List Int) (lo hi : Option Int) : ∃ ms : List Int, cutV (vi ns) lo hi = vi ms ∧ (∀ x ∈ ms, x ∈ ns) := by
  refine ⟨(ns.drop (HT.sIx (vi ns).length 0 lo)).take (HT.sIx (vi ns).length (vi ns).length hi - HT.sIx (vi ns).length 0 lo), ?_, fun x hx => List.mem_of_mem_drop (List.mem_of_mem_take hx)⟩
  unfold cutV vi
  rw [List.map_take, List.map_drop]
theorem cut_le (xs : List V) {m : Int} (h : 0 ≤ m) : (cutV xs none (some m)).length ≤ m.toNat := by
  unfold cutV
  rw [List.length_take]
  refine Nat.le_trans (Nat.min_le_left _ _) ?_
  show (if m < 0 then _ else min m.toNat xs.length) - 0 ≤ m.toNat
  rw [if_neg (by omega)]
  omega
theorem atI_in {xs : List Int} {r : Int} (h0 : 0 ≤ r) (h1 : r < (xs.length : Nat)) : ∃ x, x ∈ xs ∧ atI (vi xs) r = some (V.int x) := by
  have hj : r.toNat < xs.length := by omega
  refine ⟨xs[r.toNat], List.getElem_mem hj, ?_⟩
  have := atI_nat (xs := vi xs) (j := r.toNat) (v := V.int xs[r.toNat]) (by rw [List.getElem?_map, List.getElem?_eq_getElem hj]; rfl)
  rw [show ((r.toNat : Nat) : Int) = r by omega] at this
  exact this
theorem seq_by {a b : TS} {D : Ends} {σ : L2.St} {H : Hp} (M : L2.St → Hp → Prop) (h1 : ∀ N : L2.St → Hp → Prop, (∀ σ' H', M σ' H' → N σ' H') → a { D with nx := N } σ H) (h2 : ∀ σ' H', M σ' H' → b D σ' H') : tSeq a b D σ H := h1 _ h2
section
variable {P : Program} {w : World} {K : PySem.W.Frag} {mg : Str → Option Value} {base : Heap}
theorem HouseAt.room0 {H : Hp} {h : Addr} {n : Int} {D : List (Int × Int)} (x : HouseAt H h n D) : ∃ q, H h = some (.tup [.int n, .ref q]) := by
  obtain ⟨q, ps, h1, _⟩ := x
  exact ⟨q, h1⟩
end
end Fw
namespace Fw
open PySem PySem.Spec PyProof.Rows L2
/-! ### what a walk over a placement needs: tuples stay -/
structure Tk (H H' : Hp) : Prop where
  t : ∀ {b : Addr} {xs : List V}, H b = some (.tup xs) → H' b = some (.tup xs)
  f : ∀ {b : Addr} {o : Obj} {xs : List V}, H b = some (.frz o (.tup xs)) → H' b = some (.frz o (.tup xs))
theorem Tk.refl {H : Hp} : Tk H H := ⟨fun e => e, fun e => e⟩
theorem Tk.of {H H' : Hp} (h : Same H H') : Tk H H' := ⟨fun e => h _ _ e, fun e => h _ _ e⟩
theorem Tk.trans {H H1 H2 : Hp} (a : Tk H H1) (b : Tk H1 H2) : Tk H H2 := ⟨fun e => b.t (a.t e), fun e => b.f (a.f e)⟩
theorem Tk.fr {s A B : Addr} {c : Nat} {H H' : Hp} (f : Fr s A H H') (hS : StreamAt H s A B c) : Tk H H' := ⟨fun e => f.tup hS e, fun e => f.frz hS e⟩
theorem Tk.put {H H' : Hp} (a : Tk H H') {L : Addr} {xs : List V} {o : HO} (h : H' L = some (.lst xs)) : Tk H (upd H' L o) := by
  refine ⟨fun e => ?_, fun e => ?_⟩
  · rw [upd_ne (ne_of (a.t e) h (by intro z; cases z))]
    exact a.t e
  · rw [upd_ne (ne_of (a.f e) h (by intro z; cases z))]
    exact a.f e
theorem Tk.putD {H H' : Hp} (a : Tk H H') {L : Addr} {xs : List (Key × V)} {o : HO} (h : H' L = some (.dK xs)) : Tk H (upd H' L o) := by
  refine ⟨fun e => ?_, fun e => ?_⟩
  · rw [upd_ne (ne_of (a.t e) h (by intro z; cases z))]
    exact a.t e
  · rw [upd_ne (ne_of (a.f e) h (by intro z; cases z))]
    exact a.f e
theorem Tk.new {H H' : Hp} (a : Tk H H') {L : Addr} {o : HO} (h : H' L = none) : Tk H (upd H' L o) := a.trans (Tk.of (same_upd h))
theorem HouseAt.tk {H H' : Hp} {h : Addr} {n : Int} {D : List (Int × Int)} (x : HouseAt H h n D) (e : Tk H H') : HouseAt H' h n D := by
  obtain ⟨q, ps, h1, h2, h3, h4⟩ := x
  exact ⟨q, ps, e.t h1, e.t h2, h3, fun p hp => e.t (h4 p hp)⟩
theorem TpAt.tk {H H' : Hp} {p : Addr} {xs : List V} (x : TpAt H p xs) (e : Tk H H') : TpAt H' p xs := x.elim (fun h => .inl (e.t h)) fun ⟨o, d, h⟩ => .inr ⟨o, d, e.f h⟩
theorem PlAt.tk {H H' : Hp} {p : Addr} {P : List (Str × Int)} (x : PlAt H p P) (e : Tk H H') : PlAt H' p P := by
  obtain ⟨ps, h1, h2, h3⟩ := x
  exact ⟨ps, h1.tk e, h2, fun q hq => e.t (h3 q hq)⟩
theorem PlD.tk {H H' : Hp} {p : Addr} {P : List (Str × Int)} (x : PlD H p P) (e : Tk H H') : PlD H' p P := by
  obtain ⟨ps, o, d, h1, h2, h3⟩ := x
  exact ⟨ps, o, d, e.f h1, h2, fun q hq => e.t (h3 q hq)⟩
theorem get_pl {ps : List (Addr × Str × Int)} {i : Nat} {x : V} (h : (ps.map fun p => V.ref p.1)[i]? = some x) : ∃ p, ps[i]? = some p ∧ x = .ref p.1 := by
  rw [List.getElem?_map] at h
  cases e : ps[i]? with
  | none => rw [e] at h; cases h
  | some v => rw [e] at h; exact ⟨v, rfl, (Option.some.inj h).symm⟩
/-- a comprehension over a placement -/
theorem lc_pl {K : PySem.W.Frag} {p : Addr} {P : List (Str × Int)} {i j : Nat} {tt : TT} {te : TE} {vs : List Nat} {σ : L2.St} {H1 : Hp} {D : Addr} {Qd : Hp → Prop} (x : PlAt H1 p P) (Pv : Nat → Hp → Prop) (h0 : Pv 0 (upd H1 D (.lst []))) (hl : ∀ k H, Pv k H → Tk H1 H)
    (hs : ∀ k nm r H, P[k]? = some (nm, r) → Pv k H → wipe (((wipe σ vs).set i (some (.str nm))).set j (some (.int r))) vs = wipe σ vs ∧ tt (((wipe σ vs).set i (some (.str nm))).set j (some (.int r))) H fun b H3 =>
      if b = true then te (((wipe σ vs).set i (some (.str nm))).set j (some (.int r))) H3 fun y H4 => ∃ acc, H4 D = some (.lst acc) ∧ acc.length < sizeLine ∧ Pv (k + 1) (upd H4 D (.lst (acc ++ [y]))) else Pv (k + 1) H3) (hd : ∀ H, Pv P.length H → Qd H) :
    ∃ W : Nat → Nat → Hp → Prop, (∃ m, W 0 m (upd H1 D (.lst []))) ∧ ∀ k m H, W k m H →
      ((Itt K p).stop k H ∧ Qd H) ∨ ((Itt K p).go k H ∧ ∃ Nx : Hp → Prop, (∀ H', Nx H' → ∃ m', m' < m ∧ W (k + 1) m' H') ∧ ∀ x H', (Itt K p).yld k H x H' → gTup K 2 (gCons (gName i) (gCons (gName j) gNil)) x (wipe σ vs) H' fun σ2 H2 => wipe σ2 vs = wipe σ vs ∧ tt σ2 H2 fun b H3 =>
        if b = true then te σ2 H3 fun y H4 => ∃ acc, H4 D = some (.lst acc) ∧ acc.length < sizeLine ∧ Nx (upd H4 D (.lst (acc ++ [y]))) else Nx H3) := by
  obtain ⟨ps, h1, rfl, h3⟩ := x
  refine lc_tup (K := K) (a := p) (xs := ps.map fun q => V.ref q.1) Pv h0 (fun i H _ hp => (h1.tk (hl i H hp)).sq) (fun k x H hx hp => ?_) (fun H hp => hd H (by rw [List.length_map] at hp ⊢; exact hp))
  obtain ⟨q, hq, rfl⟩ := get_pl hx
  refine ⟨q.1, _, rfl, SqT.of ((hl k H hp).t (h3 q (List.mem_of_getElem? hq))), rfl, _, _, rfl, _, _, rfl, rfl, ?_⟩
  exact hs k q.2.1 q.2.2 H (by rw [List.getElem?_map, hq]; rfl) hp
/-- a loop over a placement -/
theorem for_pl {K : PySem.W.Frag} {p : Addr} {P : List (Str × Int)} {i j : Nat} {tb : TS} {D : Ends} {σ : L2.St} {H0 H : Hp} (x : PlAt H0 p P) (Pv : Nat → L2.St → Hp → Prop) (h0 : Pv 0 σ H) (hl : ∀ k σ H, Pv k σ H → Tk H0 H)
    (hs : ∀ k nm r σ H, P[k]? = some (nm, r) → Pv k σ H → tb { D with nx := Pv (k + 1), ct := Pv (k + 1), bk := D.nx } ((σ.set i (some (.str nm))).set j (some (.int r))) H) (hd : ∀ σ H, Pv P.length σ H → D.nx σ H) :
    ∃ W : Nat → Nat → L2.St → Hp → Prop, (∃ m, W 0 m σ H) ∧ ∀ k m σ H, W k m σ H →
      ((Itt K p).stop k H ∧ D.nx σ H) ∨ ((Itt K p).go k H ∧ ∃ N : L2.St → Hp → Prop, (∀ σ' H', N σ' H' → ∃ m', m' < m ∧ W (k + 1) m' σ' H') ∧ ∀ x H', (Itt K p).yld k H x H' → gTup K 2 (gCons (gName i) (gCons (gName j) gNil)) x σ H' fun σ2 H2 => tb { D with nx := N, ct := N, bk := D.nx } σ2 H2) := by
  obtain ⟨ps, h1, rfl, h3⟩ := x
  refine for_tup (K := K) (a := p) (xs := ps.map fun q => V.ref q.1) Pv h0 (fun i σ H _ hp => (h1.tk (hl i σ H hp)).sq) (fun k x σ H hx hp => ?_) (fun σ H hp => hd σ H (by rw [List.length_map] at hp ⊢; exact hp))
  obtain ⟨q, hq, rfl⟩ := get_pl hx
  refine ⟨q.1, _, rfl, SqT.of ((hl k σ H hp).t (h3 q (List.mem_of_getElem? hq))), rfl, _, _, rfl, _, _, rfl, rfl, ?_⟩
  exact hs k q.2.1 q.2.2 σ H (by rw [List.getElem?_map, hq]; rfl) hp
theorem PlAt.sq {K : PySem.W.Frag} {H : Hp} {p : Addr} {P : List (Str × Int)} (x : PlAt H p P) : ∃ xs, SqT K H p xs := by
  obtain ⟨ps, h1, _⟩ := x
  exact ⟨_, h1.sq⟩
theorem inV_vi (x : Int) (R : List Int) : inV (.int x) (vi R) = decide (x ∈ R) := by
  unfold inV
  rw [Bool.eq_iff_iff, List.any_eq_true, decide_eq_true_eq]
  constructor
  · rintro ⟨y, hy, e⟩
    obtain ⟨z, hz, rfl⟩ := List.mem_map.mp hy
    have : z = x := by simpa [eqV] using e
    exact this ▸ hz
  · intro h
    exact ⟨.int x, List.mem_map_of_mem h, by simp [eqV]⟩
theorem flat_vi (R : List Int) : (vi R).all flatV = true := by
  rw [List.all_eq_true]
  intro x hx
  obtain ⟨z, _, rfl⟩ := List.mem_map.mp hx
  rfl
theorem take_snoc {α : Type} {xs : List α} {k : Nat} {x : α} (h : xs[k]? = some x) : xs.take (k + 1) = xs.take k ++ [x] := by
  rw [List.take_add_one, h]
  rfl
theorem filter_snoc {α : Type} (f : α → Bool) (xs : List α) (x : α) : (xs ++ [x]).filter f = xs.filter f ++ if f x = true then [x] else [] := by
  rw [List.filter_append]
  congr 1
  by_cases c : f x = true
  · rw [if_pos c, List.filter_cons_of_pos c]
    rfl
  · rw [if_neg c, List.filter_cons_of_neg c]
    rfl
theorem lt_of_get {α : Type} {xs : List α} {k : Nat} {x : α} (h : xs[k]? = some x) : k < xs.length := (List.getElem?_eq_some_iff.mp h).1
theorem sqT_same {K : PySem.W.Frag} {H H' : Hp} {a : Addr} {xs : List V} (e : Same H H') (h : SqT K H a xs) : SqT K H' a xs :=
  h.imp (Or.imp (e a _) fun ⟨o, x⟩ => ⟨o, e a _ x⟩) id
end Fw
namespace Fw
open PySem PySem.Spec PyProof.Rows L2
/-- who is in the rooms R -/
def inside (P : List (Str × Int)) (R : List Int) : List Str := (P.filter fun x => decide (x.2 ∈ R)).map (·.1)
theorem inside_snoc {P : List (Str × Int)} {R : List Int} {k : Nat} {nm : Str} {r : Int} (h : P[k]? = some (nm, r)) : inside (P.take (k + 1)) R = inside (P.take k) R ++ if r ∈ R then [nm] else [] := by
  unfold inside
  rw [take_snoc h, filter_snoc, List.map_append]
  congr 1
  by_cases c : r ∈ R
  · rw [if_pos c, if_pos (by simpa using c)]
    rfl
  · rw [if_neg c, if_neg (by simpa using c)]
    rfl
theorem inside_len (P : List (Str × Int)) (R : List Int) : (inside P R).length ≤ P.length := by
  unfold inside
  rw [List.length_map]
  exact List.length_filter_le _ _
theorem inside_nil {P : List (Str × Int)} {R : List Int} : inside P R = [] ↔ ∀ x ∈ P, x.2 ∉ R := by
  unfold inside
  rw [List.map_eq_nil_iff, List.filter_eq_nil_iff]
  simp
theorem key_uniq {P : List (Str × Int)} (nd : (P.map (·.1)).Nodup) {x y : Str × Int} (hx : x ∈ P) (hy : y ∈ P) (e : x.1 = y.1) : x = y := by
  induction P with
  | nil => cases hx
  | cons z P ih =>
    rw [List.map_cons, List.nodup_cons] at nd
    rcases List.mem_cons.mp hx with h1 | h1 <;> rcases List.mem_cons.mp hy with h2 | h2
    · rw [h1, h2]
    · exact absurd (List.mem_map_of_mem (f := (·.1)) h2) (by rw [← e, h1]; exact nd.1)
    · exact absurd (List.mem_map_of_mem (f := (·.1)) h1) (by rw [e, h2]; exact nd.1)
    · exact ih nd.2 h1 h2
section
variable {P : Program} {w : World} {K : PySem.W.Frag} {mg : Str → Option Value} {base : Heap}
def spPWi (K : PySem.W.Frag) : Sp := fun vs H Q _ => ∃ (p t : Addr) (P : List (Str × Int)) (R : List Int), vs = [.ref p, .ref t] ∧ PlAt H p P ∧ SqT K H t (vi R) ∧ P.length ≤ 100 ∧
  ∀ H' u, Same H H' → H' u = some (.tup ((inside P R).map V.str)) → Q (.ref u) H'
abbrev nPWi : List Str := ["placement", "rooms", "name", "room"]
theorem scPWi : FnScope nPWi ["placement", "rooms"] (defScope sPWi) := ⟨rfl, rfl, rfl, by decide +kernel, rfl, by decide +kernel, by decide +kernel⟩
theorem ok_pwi {f : Addr} {fd : FuncData} {k : Nat} (F : Fun K "people_within" "people_within" sPWi f fd) (T : Nm mg) : FnOk P w K mg base CX0 (k + 1) f fd pPWi (spPWi K) := by
  refine F.ok scPWi (fun vs H Q E h => ?_) (fun cdv A outer s H vs Q E hr h => ?_)
  · obtain ⟨p, t, P, R, rfl, _⟩ := h
    rfl
  · obtain ⟨p, t, P, R, rfl, hP, hR, hl, q⟩ := h
    refine ⟨_, (pss_one (ps_ret (pe_callTy call_tuple_of (by rfl) T.tuple (by decide +kernel) (pa_cons (pe_lc (own := [("name", 2), ("room", 3)]) (g := gTup K 2 (gCons (gName 2) (gCons (gName 3) gNil))) (by rfl) scPWi.nd (pi_tup (pv 0))
 (blkOk_by (own := [("name", 2), ("room", 3)]) (N := nPWi) (sc := defScope sPWi) (by decide +kernel))
 (fun _ _ _ _ _ => (pg_tup (by rfl) (pgs_cons (pg_name (i := 2) scPWi.nd rfl (.inl rfl)) (pgs_cons (pg_name (i := 3) scPWi.nd rfl (.inl rfl)) pgs_nil)))) (fun _ _ _ _ _ => pts_one (pt_cmpR (op_inK K rfl) (pv 3) (pv 1) (by rfl))) (fun _ _ _ _ _ => (pv 2))) pa_nil)))), ?_⟩
    refine ⟨_, rfl, p, rfl, hP.sq, fun L hL => lc_pl hP (fun i H1 => Same H H1 ∧ H1 L = some (.lst ((inside (P.take i) R).map V.str))) ⟨same_upd hL, upd_same⟩ (fun _ _ h => Tk.of h.1) ?_ ?_⟩
    · rintro k nm r H1 hk ⟨s1, e1⟩
      refine ⟨rfl, _, rfl, _, rfl, t, _, rfl, .inr (sqT_same s1 hR), rfl, flat_vi R, _, rfl, ?_⟩
      rw [if_neg (by decide), inV_vi, inside_snoc hk]
      refine ite2 (fun c => ?_) (fun c => ?_)
      · rw [if_pos (of_decide_eq_true c)]
        refine ⟨_, rfl, _, e1, ?_, same_put s1 hL, ?_⟩
        · rw [List.length_map]
          have h1 := inside_len (P.take k) R
          rw [List.length_take] at h1
          exact small1000 (by omega)
        · rw [upd_same, vs_app]
          rfl
      · rw [if_neg (fun z => c (decide_eq_true z)), List.append_nil]
        exact ⟨s1, e1⟩
    · rintro H1 ⟨s1, e1⟩
      rw [List.take_length] at e1
      exact ⟨L, _, rfl, .inl ⟨SqL.of e1, fun t ht => q _ t (s1.trans (same_upd ht)) upd_same⟩⟩

def spPIn : Sp := fun vs H Q _ => ∃ (p : Addr) (P : List (Str × Int)) (r : Int), vs = [.ref p, .int r] ∧ PlAt H p P ∧ P.length ≤ 100 ∧
  ∀ H' u, Same H H' → H' u = some (.tup ((inside P [r]).map V.str)) → Q (.ref u) H'
abbrev nPIn : List Str := ["placement", "room"]
theorem scPIn : FnScope nPIn ["placement", "room"] (defScope sPIn) := ⟨rfl, rfl, rfl, by decide +kernel, rfl, by decide +kernel, by decide +kernel⟩
theorem ok_pin {f : Addr} {fd : FuncData} {k : Nat} (F : Fun K "people_in" "people_in" sPIn f fd) (T : Nm mg) (Cpeople_within : Cal P w K mg base (k + 1) "people_within" pPWi (spPWi K)) : FnOk P w K mg base CX0 (k + 2) f fd pPIn spPIn := by
  refine F.ok scPIn (fun vs H Q E h => ?_) (fun cdv A outer s H vs Q E hr h => ?_)
  · obtain ⟨p, P, r, rfl, _⟩ := h
    rfl
  · obtain ⟨p, P, r, rfl, hP, hl, q⟩ := h
    refine ⟨_, (pss_one (ps_ret (pe_cal Cpeople_within hr (by rfl) (pa_cons (pv 0) (pa_cons (pe_tup (pa_cons (pv 1) pa_nil)) pa_nil))))), ?_⟩
    refine ⟨_, rfl, _, rfl, by show 1 ≤ sizeLine; decide, fun t ht => ⟨p, t, P, [r], rfl, hP.same (same_upd ht), SqT.of upd_same, hl, fun H' u s1 e1 => q _ u ((same_upd ht).trans s1) e1⟩⟩

def spRoomOf : Sp := fun vs H Q _ => ∃ (p : Addr) (P : List (Str × Int)) (nm : Str) (r : Int), vs = [.ref p, .str nm] ∧ PlAt H p P ∧ (nm, r) ∈ P ∧ (P.map (·.1)).Nodup ∧ Q (.int r) H
abbrev nRoomOf : List Str := ["placement", "name", "person", "room"]
theorem scRoomOf : FnScope nRoomOf ["placement", "name"] (defScope sRoomOf) := ⟨rfl, rfl, rfl, by decide +kernel, rfl, by decide +kernel, by decide +kernel⟩
theorem ok_roomof {f : Addr} {fd : FuncData} {k : Nat} (F : Fun K "room_of" "room_of" sRoomOf f fd) : FnOk P w K mg base CX0 (k + 1) f fd pRoomOf spRoomOf := by
  refine F.ok scRoomOf (fun vs H Q E h => ?_) (fun cdv A outer s H vs Q E hr h => ?_)
  · obtain ⟨p, P, nm, r, rfl, _⟩ := h
    rfl
  · obtain ⟨p, P, nm, r, rfl, hP, hm, nd, q⟩ := h
    refine ⟨_, (pss_cons (ps_for PassesOwn.never rfl (pi_tup (pv 0)) (pg_tup (by rfl) (pgs_cons (pg_name (i := 2) scRoomOf.nd rfl (.inl rfl)) (pgs_cons (pg_name (i := 3) scRoomOf.nd rfl (.inl rfl)) pgs_nil)))
      (pss_one (ps_if (pt_cmpR op_eq (pv 2) (pv 1) (nomark _))
       (pss_one (ps_ret (pv 3)))
       pss_nil)))
      pss_never), ?_⟩
    refine ⟨_, rfl, p, rfl, hP.sq, for_pl hP (fun i σ' H' => ∃ y2 y3, σ' = [some (.ref p), some (.str nm), y2, y3] ∧ H' = H ∧ ∀ x ∈ P.take i, x.1 ≠ nm) ⟨_, _, rfl, rfl, fun x hx => by cases hx⟩ ?_ ?_ ?_⟩
    · rintro k σ' H' ⟨_, _, _, rfl, _⟩
      exact Tk.refl
    · rintro k n' r' σ' H' hk ⟨y2, y3, rfl, rfl, hn⟩
      refine ⟨_, rfl, _, rfl, rfl, _, rfl, ?_⟩
      refine ite2 (fun c => ?_) (fun c => ?_)
      · have c : n' = nm := V.str.inj (of_decide_eq_true c)
        subst c
        have := key_uniq nd (List.mem_of_getElem? hk) hm rfl
        cases this
        exact ⟨_, rfl, q⟩
      · refine ⟨_, _, rfl, rfl, fun x hx => ?_⟩
        rw [take_snoc hk, List.mem_append] at hx
        rcases hx with hx | hx
        · exact hn x hx
        · rw [List.mem_singleton.mp hx]
          exact fun e => c (decide_eq_true (by rw [show n' = nm from e]))
    · rintro σ' H' ⟨y2, y3, rfl, rfl, hn⟩
      rw [List.take_length] at hn
      exact absurd rfl (hn _ hm)
end
end Fw
namespace Fw
open PySem PySem.Spec PyProof.Rows L2
/-! ### a list of pairs (name, room) -/
def LsAt (H : Hp) (l : Addr) (X : List (Str × Int)) : Prop := ∃ ps : List (Addr × Str × Int), H l = some (.lst (ps.map fun q => V.ref q.1)) ∧ X = ps.map (·.2) ∧ ∀ q ∈ ps, H q.1 = some (.tup [.str q.2.1, .int q.2.2])
theorem LsAt.nil {H : Hp} {l : Addr} (h : H l = some (.lst [])) : LsAt H l [] := ⟨[], h, rfl, fun q hq => absurd hq List.not_mem_nil⟩
theorem LsAt.same {H H' : Hp} {l : Addr} {X : List (Str × Int)} (x : LsAt H l X) (e : Same H H') : LsAt H' l X := by
  obtain ⟨ps, h1, h2, h3⟩ := x
  exact ⟨ps, e _ _ h1, h2, fun q hq => e _ _ (h3 q hq)⟩
theorem LsAt.fr {s A B : Addr} {c : Nat} {H H' : Hp} {l : Addr} {X : List (Str × Int)} (x : LsAt H l X) (hS : StreamAt H s A B c) (e : Fr s A H H') (z : s ≠ l ∧ A ≠ l ∧ B ≠ l) : LsAt H' l X := by
  obtain ⟨ps, h1, h2, h3⟩ := x
  exact ⟨ps, e _ _ z.1.symm z.2.1.symm h1, h2, fun q hq => e.tup hS (h3 q hq)⟩
theorem LsAt.snoc {H : Hp} {l t : Addr} {X : List (Str × Int)} {a : Str} {b : Int} (x : LsAt H l X) (ht : H t = some (.tup [.str a, .int b])) : ∃ acc, H l = some (.lst acc) ∧ acc.length = X.length ∧ LsAt (upd H l (.lst (acc ++ [.ref t]))) l (X ++ [(a, b)]) := by
  obtain ⟨ps, h1, h2, h3⟩ := x
  refine ⟨_, h1, by rw [h2, List.length_map, List.length_map], ps ++ [(t, a, b)], ?_, by rw [h2, List.map_append]; rfl, fun q hq => ?_⟩
  · rw [upd_same, List.map_append]
    rfl
  · have : H q.1 = some (.tup [.str q.2.1, .int q.2.2]) := by
      rcases List.mem_append.mp hq with hq | hq
      · exact h3 q hq
      · rw [List.mem_singleton.mp hq]
        exact ht
    rw [upd_ne (ne_of this h1 (by intro z; cases z))]
    exact this
theorem LsAt.tup {H : Hp} {l : Addr} {X : List (Str × Int)} (x : LsAt H l X) : ∃ xs, H l = some (.lst xs) ∧ ∀ (t : Addr) (ob : Obj), H t = none → ob.dict = none → PlD (upd H t (.frz ob (.tup xs))) t X := by
  obtain ⟨ps, h1, h2, h3⟩ := x
  exact ⟨_, h1, fun t ob ht od => ⟨ps, ob, od, upd_same, h2, fun q hq => same_upd ht _ _ (h3 q hq)⟩⟩
/-- the placement after a move -/
def mvd (P : List (Str × Int)) (nm : Str) (r : Int) : List (Str × Int) := P.map fun x => (x.1, if x.1 = nm then r else x.2)
theorem mvd_len (P : List (Str × Int)) (nm : Str) (r : Int) : (mvd P nm r).length = P.length := by unfold mvd; rw [List.length_map]
theorem mvd_names (P : List (Str × Int)) (nm : Str) (r : Int) : (mvd P nm r).map (·.1) = P.map (·.1) := by
  unfold mvd
  rw [List.map_map]
  rfl
theorem mvd_get {P : List (Str × Int)} {nm : Str} {r : Int} {k : Nat} {n' : Str} {r' : Int} (h : P[k]? = some (n', r')) : (mvd P nm r)[k]? = some (n', if n' = nm then r else r') := by
  unfold mvd
  rw [List.getElem?_map, h]
  rfl
theorem Pl.mvd {n : Int} {P : List (Str × Int)} (h : Pl n P) {nm : Str} {r : Int} (h0 : 0 ≤ r) (h1 : r < n) : Pl n (mvd P nm r) := by
  refine ⟨by rw [mvd_names]; exact h.nm, fun x hx => ?_⟩
  obtain ⟨y, hy, rfl⟩ := List.mem_map.mp hx
  show 0 ≤ (if y.1 = nm then r else y.2) ∧ (if y.1 = nm then r else y.2) < n
  split
  · exact ⟨h0, h1⟩
  · exact h.rm y hy
/-- all moves -/
def mvs (n : Int) (D : List (Int × Int)) (P : List (Str × Int)) (X : List (Str × Int)) : List (Str × Int) := X.flatMap fun x => ((nb n D x.2).filter fun t => decide (t ∈ P.map (·.2))).map fun t => (x.1, t)
theorem str_dec (a b : Str) : decide (V.str a = V.str b) = decide (a = b) := by
  rw [Bool.eq_iff_iff, decide_eq_true_eq, decide_eq_true_eq]
  exact ⟨V.str.inj, fun e => by rw [e]⟩
theorem k_ii' : kitB "int" "int" = some true := by decide +kernel
theorem k_ib' : kitB "int" "bool" = some false := by decide +kernel
section
variable {P : Program} {w : World} {K : PySem.W.Frag} {mg : Str → Option Value} {base : Heap}
def spIsIntI : Sp := fun vs H Q _ => ∃ (i : Int), vs = [.int i] ∧ Q (.bl true) H
abbrev nIsInt : List Str := ["value"]
theorem scIsInt : FnScope nIsInt ["value"] (defScope sIsInt) := ⟨rfl, rfl, rfl, by decide +kernel, rfl, by decide +kernel, by decide +kernel⟩
theorem ok_isint {f : Addr} {fd : FuncData} {k : Nat} (F : Fun K "is_integer" "is_integer" sIsInt f fd) (T : Nm mg) : FnOk P w K mg base CX0 (k + 1) f fd pIsInt spIsIntI := by
  refine F.ok scIsInt (fun vs H Q E h => ?_) (fun cdv A outer s H vs Q E hr h => ?_)
  · obtain ⟨i, rfl, _⟩ := h
    rfl
  · obtain ⟨i, rfl, q⟩ := h
    refine ⟨_, (pss_one (ps_ret (pe_and (pe_callB call_isi (by rfl) T.isinstance (by decide +kernel) (pa_cons (pv 0) (pa_cons (pe_bltn (v := .ty "int") (by rfl) T.int (by decide +kernel) rfl) pa_nil))) (pe_one (pe_not (pe_callB call_isi (by rfl) T.isinstance (by decide +kernel) (pa_cons (pv 0) (pa_cons (pe_bltn (v := .ty "bool") (by rfl) T.bool (by decide +kernel) rfl) pa_nil)))))))), ?_⟩
    exact ⟨_, rfl, _, _, _, _, _, rfl, .ty _, .base (.int _), kit_ty k_ii', _, rfl, iteT ⟨_, rfl, _, _, _, _, _, rfl, .ty _, .base (.int _), kit_ty k_ib', _, rfl, q⟩⟩
end
end Fw
namespace Fw
open PySem PySem.Spec PyProof.Rows L2
theorem mvs_snoc {n : Int} {D : List (Int × Int)} {P X : List (Str × Int)} {k : Nat} {nm : Str} {r : Int} (h : X[k]? = some (nm, r)) : mvs n D P (X.take (k + 1)) = mvs n D P (X.take k) ++ ((nb n D r).filter fun t => decide (t ∈ P.map (·.2))).map fun t => (nm, t) := by
  unfold mvs
  rw [take_snoc h, List.flatMap_append]
  congr 1
  show List.flatMap _ [(nm, r)] = _
  rw [List.flatMap_cons, List.flatMap_nil, List.append_nil]
theorem mvs_len (n : Int) (D : List (Int × Int)) (P X : List (Str × Int)) (n1 : n ≤ 8) : (mvs n D P X).length ≤ 8 * X.length := by
  unfold mvs
  induction X with
  | nil => exact Nat.le_refl _
  | cons x X ih =>
    rw [List.flatMap_cons, List.length_append, List.length_map, List.length_cons]
    have h1 := List.length_filter_le (fun t => decide (t ∈ P.map (·.2))) (nb n D x.2)
    have h2 := nb_len n D x.2
    omega
theorem LsAt.app {H : Hp} {l m : Addr} {X Y : List (Str × Int)} (x : LsAt H l X) (y : LsAt H m Y) : ∃ xs ys, H l = some (.lst xs) ∧ H m = some (.lst ys) ∧ xs.length = X.length ∧ ys.length = Y.length ∧ LsAt (upd H l (.lst (xs ++ ys))) l (X ++ Y) := by
  obtain ⟨ps, h1, h2, h3⟩ := x
  obtain ⟨qs, g1, g2, g3⟩ := y
  refine ⟨_, _, h1, g1, by rw [h2, List.length_map, List.length_map], by rw [g2, List.length_map, List.length_map], ps ++ qs, ?_, by rw [h2, g2, List.map_append], fun q hq => ?_⟩
  · rw [upd_same, List.map_append]
  · have : H q.1 = some (.tup [.str q.2.1, .int q.2.2]) := by
      rcases List.mem_append.mp hq with hq | hq
      · exact h3 q hq
      · exact g3 q hq
    rw [upd_ne (ne_of this h1 (by intro z; cases z))]
    exact this
theorem rooms_snoc {P : List (Str × Int)} {k : Nat} {nm : Str} {r : Int} (h : P[k]? = some (nm, r)) : (P.take (k + 1)).map (·.2) = (P.take k).map (·.2) ++ [r] := by
  rw [take_snoc h, List.map_append]
  rfl
theorem mvs_mem {n : Int} {D : List (Int × Int)} {P X : List (Str × Int)} {nm : Str} {t : Int} (h : (nm, t) ∈ mvs n D P X) : ∃ c, (nm, c) ∈ X ∧ t ∈ nb n D c ∧ t ∈ P.map (·.2) := by
  unfold mvs at h
  obtain ⟨x, hx, h⟩ := List.mem_flatMap.mp h
  obtain ⟨t', ht, e⟩ := List.mem_map.mp h
  cases e
  obtain ⟨h1, h2⟩ := List.mem_filter.mp ht
  exact ⟨x.2, hx, h1, of_decide_eq_true h2⟩
/-- a loop over a list of pairs -/
theorem for_ls {K : PySem.W.Frag} {l : Addr} {X : List (Str × Int)} {i j : Nat} {tb : TS} {D : Ends} {σ : L2.St} {H0 H : Hp} (x : LsAt H0 l X) (Pv : Nat → L2.St → Hp → Prop) (h0 : Pv 0 σ H) (hl : ∀ k σ H, Pv k σ H → Same H0 H)
    (hs : ∀ k nm r σ H, X[k]? = some (nm, r) → Pv k σ H → tb { D with nx := Pv (k + 1), ct := Pv (k + 1), bk := D.nx } ((σ.set i (some (.str nm))).set j (some (.int r))) H) (hd : ∀ σ H, Pv X.length σ H → D.nx σ H) :
    ∃ W : Nat → Nat → L2.St → Hp → Prop, (∃ m, W 0 m σ H) ∧ ∀ k m σ H, W k m σ H →
      ((Itl K l).stop k H ∧ D.nx σ H) ∨ ((Itl K l).go k H ∧ ∃ N : L2.St → Hp → Prop, (∀ σ' H', N σ' H' → ∃ m', m' < m ∧ W (k + 1) m' σ' H') ∧ ∀ x H', (Itl K l).yld k H x H' → gTup K 2 (gCons (gName i) (gCons (gName j) gNil)) x σ H' fun σ2 H2 => tb { D with nx := N, ct := N, bk := D.nx } σ2 H2) := by
  obtain ⟨ps, h1, rfl, h3⟩ := x
  refine for_list (K := K) (a := l) (xs := ps.map fun q => V.ref q.1) Pv h0 (fun i σ H _ hp => SqL.of (hl i σ H hp _ _ h1)) (fun k x σ H hx hp => ?_) (fun σ H hp => hd σ H (by rw [List.length_map] at hp ⊢; exact hp))
  obtain ⟨q, hq, rfl⟩ := get_pl hx
  refine ⟨q.1, _, rfl, SqT.of (hl k σ H hp _ _ (h3 q (List.mem_of_getElem? hq))), rfl, _, _, rfl, _, _, rfl, rfl, ?_⟩
  exact hs k q.2.1 q.2.2 σ H (by rw [List.getElem?_map, hq]; rfl) hp
theorem LsAt.sq {K : PySem.W.Frag} {H : Hp} {l : Addr} {X : List (Str × Int)} (x : LsAt H l X) : ∃ xs, SqL K H l xs ∧ xs.length = X.length := by
  obtain ⟨ps, h1, h2, _⟩ := x
  exact ⟨_, SqL.of h1, by rw [h2, List.length_map, List.length_map]⟩
theorem LsAt.at {K : PySem.W.Frag} {H : Hp} {l : Addr} {X : List (Str × Int)} (x : LsAt H l X) {r : Int} (h0 : 0 ≤ r) (h1 : r < (X.length : Nat)) : ∃ xs t nm v, SqL K H l xs ∧ atI xs r = some (.ref t) ∧ H t = some (.tup [.str nm, .int v]) ∧ (nm, v) ∈ X := by
  obtain ⟨ps, e1, e2, e3⟩ := x
  have hj : r.toNat < ps.length := by rw [e2, List.length_map] at h1; omega
  have hm := List.getElem_mem hj
  refine ⟨_, ps[r.toNat].1, ps[r.toNat].2.1, ps[r.toNat].2.2, SqL.of e1, ?_, e3 _ hm, by rw [e2]; exact List.mem_map_of_mem (f := (·.2)) hm⟩
  have := atI_nat (xs := ps.map fun q => V.ref q.1) (j := r.toNat) (v := V.ref ps[r.toNat].1) (by rw [List.getElem?_map, List.getElem?_eq_getElem hj]; rfl)
  rw [show ((r.toNat : Nat) : Int) = r by omega] at this
  exact this
end Fw
namespace Fw
open PySem PySem.Spec PyProof.Rows L2

/-- what a dict of rooms holds at a room -/
def lk (kvs : List (Key × V)) (v : Int) : Option V := valV kvs (Sum.inl v)
theorem lk_put (kvs : List (Key × V)) (k j : Int) (y : V) : lk (putK kvs (Sum.inl k) y) j = if j = k then some y else lk kvs j := by
  unfold lk
  rw [valV_put]
  by_cases e : j = k
  · rw [if_pos e, if_pos (by rw [e])]
  · rw [if_neg e, if_neg (fun z => e (Sum.inl.inj z))]
def isK (kvs : List (Key × V)) (v : Int) : Bool := (lk kvs v).isSome
theorem isK_put (kvs : List (Key × V)) (k j : Int) (y : V) : isK (putK kvs (Sum.inl k) y) j = (decide (j = k) || isK kvs j) := by
  unfold isK
  rw [lk_put]
  by_cases e : j = k
  · rw [if_pos e, decide_eq_true e]; rfl
  · rw [if_neg e, decide_eq_false e]; rfl

/-- the way from a room along the steps -/
inductive Ch (D : List (Int × Int)) (L : Int → Option V) (g : Int) : Int → List Int → Prop
  | goal : L g = some .non → Ch D L g g [g]
  | step {v u : Int} {p : List Int} : L v = some (.int u) → adj D v u → Ch D L g u p → v ∉ p → Ch D L g v (v :: p)
theorem Ch.mono {D : List (Int × Int)} {L L' : Int → Option V} {g v : Int} {p : List Int} (h : Ch D L g v p) (m : ∀ y x, L y = some x → L' y = some x) : Ch D L' g v p := by
  induction h with
  | goal e => exact .goal (m _ _ e)
  | step e a _ n ih => exact .step (m _ _ e) a ih n
theorem Ch.keys {D : List (Int × Int)} {L : Int → Option V} {g v : Int} {p : List Int} (h : Ch D L g v p) : ∀ y ∈ p, (L y).isSome = true := by
  induction h with
  | goal e =>
    intro y hy
    rw [List.mem_singleton.mp hy, e]
    rfl
  | step e _ _ _ ih =>
    intro y hy
    rcases List.mem_cons.mp hy with rfl | hy
    · rw [e]; rfl
    · exact ih y hy
theorem Ch.sp {D : List (Int × Int)} {L : Int → Option V} {g v : Int} {p : List Int} (h : Ch D L g v p) : SP (adj D) v g p := by
  induction h with
  | goal _ => exact .one _
  | step _ a _ n ih => exact .cons a ih n

/-- the dict of steps, at any time -/
structure SInv (n : Int) (D : List (Int × Int)) (R : List Int) (g : Int) (kvs : List (Key × V)) : Prop where
  goal : lk kvs g = some .non
  way : ∀ v x, lk kvs v = some x → ∃ p, Ch D (lk kvs) g v p
  rng : ∀ v, isK kvs v = true → v = g ∨ v ∈ R
  keys : ∃ ks : List Int, kvs.map (·.1) = ks.map Sum.inl ∧ ks.Nodup ∧ ∀ v, v ∈ ks ↔ isK kvs v = true
  len : kvs.length + left n.toNat (isK kvs) ≤ n.toNat + 1
theorem SInv.start {n g : Int} {D : List (Int × Int)} {R : List Int} : SInv n D R g [(Sum.inl g, V.non)] := by
  have e0 : ∀ v, lk [(Sum.inl g, V.non)] v = if v = g then some .non else none := fun v => by
    unfold lk
    by_cases e : v = g
    · rw [if_pos e, e]; exact valV_pos rfl
    · rw [if_neg e, valV_neg (fun z => e (Sum.inl.inj z).symm)]; rfl
  have e1 : lk [(Sum.inl g, V.non)] g = some .non := by rw [e0, if_pos rfl]
  have e2 : ∀ v, isK [(Sum.inl g, V.non)] v = true → v = g := fun v h => by
    unfold isK at h
    rw [e0] at h
    by_cases e : v = g
    · exact e
    · rw [if_neg e] at h; cases h
  refine ⟨e1, fun v x h => ?_, fun v h => .inl (e2 v h), ⟨[g], rfl, by simp, fun v => ⟨fun h => ?_, fun h => ?_⟩⟩, ?_⟩
  · have : isK [(Sum.inl g, V.non)] v = true := by unfold isK; rw [h]; rfl
    rw [e2 v this]
    exact ⟨[g], .goal e1⟩
  · rw [List.mem_singleton.mp h]; unfold isK; rw [e1]; rfl
  · rw [e2 v h]; simp
  · have := left_le n.toNat (isK [(Sum.inl g, V.non)])
    simp only [List.length_cons, List.length_nil]
    omega
theorem SInv.put {n g o v : Int} {D : List (Int × Int)} {R : List Int} {kvs : List (Key × V)} (S : SInv n D R g kvs) (hv : isK kvs v = true) (ho : isK kvs o = false) (a : adj D v o) (hR : o ∈ R) (h0 : 0 ≤ o) (h1 : o < n) :
    SInv n D R g (putK kvs (Sum.inl o) (.int v)) ∧ left n.toNat (isK (putK kvs (Sum.inl o) (.int v))) < left n.toNat (isK kvs) := by
  have eo : lk kvs o = none := by
    unfold isK at ho
    cases e : lk kvs o with
    | none => rfl
    | some x => rw [e] at ho; cases ho
  have m : ∀ y x, lk kvs y = some x → lk (putK kvs (Sum.inl o) (.int v)) y = some x := fun y x h => by
    rw [lk_put, if_neg (fun e => ?_)]
    · exact h
    · rw [e, eo] at h; cases h
  have hl : left n.toNat (isK (putK kvs (Sum.inl o) (.int v))) < left n.toNat (isK kvs) := by
    refine left_lt (o := o) (fun x hx => ?_) h0 (by omega) ho ?_
    · rw [isK_put, hx, Bool.or_true]
    · rw [isK_put, decide_eq_true rfl, Bool.true_or]
  refine ⟨⟨m _ _ S.goal, fun y x h => ?_, fun y h => ?_, ?_, ?_⟩, hl⟩
  · rw [lk_put] at h
    by_cases e : y = o
    · subst e
      cases hx : lk kvs v with
      | none => unfold isK at hv; rw [hx] at hv; cases hv
      | some z =>
        obtain ⟨p, hp⟩ := S.way v z hx
        refine ⟨y :: p, .step (by rw [lk_put, if_pos rfl]) (adj_symm a) (hp.mono m) fun hm => ?_⟩
        have := hp.keys y hm
        rw [eo] at this
        cases this
    · rw [if_neg e] at h
      obtain ⟨p, hp⟩ := S.way y x h
      exact ⟨p, hp.mono m⟩
  · rw [isK_put, Bool.or_eq_true, decide_eq_true_eq] at h
    rcases h with h | h
    · exact .inr (h ▸ hR)
    · exact S.rng y h
  · obtain ⟨ks, e1, e2, e3⟩ := S.keys
    refine ⟨ks ++ [o], ?_, ?_, fun y => ?_⟩
    · rw [putK_new _ eo, List.map_append, e1, List.map_append]; rfl
    · rw [List.nodup_append]
      refine ⟨e2, by simp, fun x hx y hy e => ?_⟩
      rw [List.mem_singleton.mp hy] at e
      rw [e, e3, ho] at hx
      cases hx
    · rw [List.mem_append, List.mem_singleton, e3, isK_put, Bool.or_eq_true, decide_eq_true_eq]
      exact or_comm
  · have := length_putK kvs (Sum.inl o) (V.int v)
    have := S.len
    omega

theorem inV_ints (x : Int) (R : List Int) : inV (.int x) (vi R) = decide (x ∈ R) := by
  unfold inV
  rw [Bool.eq_iff_iff, List.any_eq_true, decide_eq_true_eq]
  constructor
  · rintro ⟨y, hy, e⟩
    obtain ⟨z, hz, rfl⟩ := List.mem_map.mp hy
    have e : (z == x) = true := e
    rw [beq_iff_eq] at e
    exact e ▸ hz
  · intro h
    exact ⟨.int x, List.mem_map_of_mem h, by show (x == x) = true; simp⟩
theorem flat_ints (R : List Int) : (vi R).all flatV = true := by
  rw [List.all_eq_true]
  intro y hy
  obtain ⟨z, hz, rfl⟩ := List.mem_map.mp hy
  rfl
theorem vi_snoc_last {xs : List Int} {x : Int} : (vi (xs ++ [x]))[(vi (xs ++ [x])).length - 1]? = some (.int x) := by
  rw [vi_app, List.length_append]
  show (vi xs ++ [V.int x])[(vi xs).length + 1 - 1]? = _
  rw [Nat.add_sub_cancel, List.getElem?_append_right (Nat.le_refl _), Nat.sub_self]
  rfl
theorem vi_dropLast {xs : List Int} {x : Int} : (vi (xs ++ [x])).dropLast = vi xs := by
  rw [vi_app]
  show (vi xs ++ [V.int x]).dropLast = _
  rw [List.dropLast_concat]
theorem snoc_cases : ∀ (xs : List Int), xs = [] ∨ ∃ ys y, xs = ys ++ [y]
  | [] => .inl rfl
  | x :: xs => by
    rcases snoc_cases xs with rfl | ⟨ys, y, rfl⟩
    · exact .inr ⟨[], x, rfl⟩
    · exact .inr ⟨x :: ys, y, rfl⟩

section
variable {P : Program} {w : World} {K : PySem.W.Frag} {mg : Str → Option Value} {base : Heap}
/-- what the finished steps are -/
structure SDone (n : Int) (D : List (Int × Int)) (R : List Int) (g : Int) (kvs : List (Key × V)) : Prop where
  inv : SInv n D R g kvs
  closed : ∀ v o, isK kvs v = true → adj D v o → o ∈ R → isK kvs o = true
theorem Same.sqT {K : PySem.W.Frag} {H H' : Hp} {a : Addr} {xs : List V} (e : Same H H') (h : SqT K H a xs) : SqT K H' a xs :=
  h.imp (Or.imp (e a _) fun ⟨o, x⟩ => ⟨o, e a _ x⟩) id
def spSteps (K : PySem.W.Frag) : Sp := fun vs H Q _ => ∃ (h rl : Addr) (n : Int) (D : List (Int × Int)) (g : Int) (R : List Int), vs = [.ref h, .int g, .ref rl] ∧ HouseAt H h n D ∧ Forest n D ∧ 0 ≤ n ∧ n ≤ 8 ∧
  (SqL K H rl (vi R) ∨ SqT K H rl (vi R)) ∧ ∀ H' d kvs, Same H H' → H d = none → H' d = some (.dK kvs) → SDone n D R g kvs → Q (.ref d) H'

structure SAt (H : Hp) (d wl : Addr) (n : Int) (D : List (Int × Int)) (R : List Int) (g : Int) (kvs : List (Key × V)) (wt : List Int) (H' : Hp) : Prop where
  sm : Same H H'
  ed : H' d = some (.dK kvs)
  ew : H' wl = some (.lst (vi wt))
  inv : SInv n D R g kvs
  wk : ∀ v ∈ wt, isK kvs v = true
  wlen : wt.length + left n.toNat (isK kvs) ≤ n.toNat + 1
theorem SAt.same {H : Hp} {d wl : Addr} {n : Int} {D : List (Int × Int)} {R : List Int} {g : Int} {kvs : List (Key × V)} {wt : List Int} {H1 H2 : Hp} (S : SAt H d wl n D R g kvs wt H1) (e : Same H1 H2) : SAt H d wl n D R g kvs wt H2 :=
  ⟨S.sm.trans e, e _ _ S.ed, e _ _ S.ew, S.inv, S.wk, S.wlen⟩
abbrev nSteps : List Str := ["house", "goal", "rooms", "steps", "waiting", "room", "other"]
theorem scSteps : FnScope nSteps ["house", "goal", "rooms"] (defScope sSteps) := ⟨rfl, rfl, rfl, by decide +kernel, rfl, by decide +kernel, by decide +kernel⟩
theorem ok_steps {f fN : Addr} {fd fdN : FuncData} (F : Fun K "steps_toward" "steps_toward" sSteps f fd) (T : Nm mg) (DN : Def K mg "neighbors" sNb fN fdN ["house", "room"]) : FnOk P w K mg base CX0 2 f fd ["house", "goal", "rooms"] (spSteps K) := by
  have GN : FnOk P w K mg base CX0 1 fN fdN ["house", "room"] spNb := ok_nb DN.F T
  refine F.ok scSteps (fun vs H Q E h => ?_) (fun cdv A outer s H vs Q E hr h => ?_)
  · obtain ⟨h, rl, n, D, g, R, rfl, _⟩ := h
    rfl
  · obtain ⟨h, rl, n, D, g, R, rfl, hH, hF, hn0, hn1, hR, q⟩ := h
    have hu := hu_of hr
    refine ⟨_, pss_cons (ps_set (i := 3) scSteps.nd rfl (.inl rfl) (pe_disp (pps_cons (pv 1) pe_non pps_nil) (by rfl) (by rfl) (fun z => by cases z) (by decide)))
      (pss_cons (ps_set (i := 4) scSteps.nd rfl (.inl rfl) (pe_lst (pa_cons (pv 1) pa_nil)))
      (pss_cons (ps_while PassesOwn.never (pt_truth (pv 4) (by intro _; rfl))
        (pss_cons (ps_set (i := 5) scSteps.nd rfl (.inl rfl) (pe_bm0 PySem.F.plainAttrs_list PySem.F.slot_list_pop PySem.F.type_list_pop mt_pop (pv 4)))
        (pss_one (ps_for PassesOwn.never rfl (pi_tup (pe_call GN hr (by rfl) DN.g DN.F.kp DN.b .nil pass0 (pa_cons (pv 0) (pa_cons (pv 5) pa_nil)))) (pg_name (i := 6) scSteps.nd rfl (Or.inl rfl))
          (pss_one (ps_if (PW.pt (pw_and (pt_cmpR op_in_seq (pv 6) (pv 2) (by rfl)) (pw_and1 (pt_cmp (pc_dnotin hu (pv 6) (pv 3))))))
            (pss_cons (ps_dput hu (pv 3) (pv 6) (pv 5) rfl)
            (pss_one (ps_expr (pe_bm PySem.F.plainAttrs_list PySem.F.slot_list_append PySem.F.type_list_append mt_append (pv 4) (pa_cons (pv 6) pa_nil)))))
            pss_nil))))))
      (pss_one (ps_ret (pv 3))))), ?_⟩
    refine fun d hd => ⟨_, rfl, upd_same, [(Sum.inl g, .non)], rfl, by show 1 ≤ 15; decide, ?_⟩
    rw [upd_upd]
    refine ⟨_, rfl, by show 1 ≤ sizeLine; decide, fun wl hw => ?_⟩
    have ed0 : (upd H d (.dK (mergeK [] [(Sum.inl g, V.non)]))) d = some (.dK [(Sum.inl g, V.non)]) := upd_same
    have nwd : d ≠ wl := ne_of_none ed0 hw
    have gw : H wl = none := (same_upd hd).free hw
    have clos0 : ∀ v o, isK [(Sum.inl g, V.non)] v = true → v ∉ [g] → adj D v o → o ∈ R → isK [(Sum.inl g, V.non)] o = true := fun v o hv hn _ _ => by
      obtain ⟨ks, e1, _, e3⟩ := (SInv.start (n := n) (D := D) (R := R) (g := g)).keys
      have e4 : ks = [g] := by
        cases ks with
        | nil => cases e1
        | cons k r =>
          cases r with
          | nil =>
            injection e1 with e1 _
            rw [← Sum.inl.inj e1]
          | cons k2 r =>
            injection e1 with _ e1
            cases e1
      rw [e4] at e3
      exact absurd ((e3 v).mpr hv) hn
    refine ⟨fun m σ H' => ∃ (kvs : List (Key × V)) (wt : List Int) (y5 y6 : Option V), σ = [some (.ref h), some (.int g), some (.ref rl), some (.ref d), some (.ref wl), y5, y6] ∧ SAt H d wl n D R g kvs wt H' ∧
        (∀ v o, isK kvs v = true → v ∉ wt → adj D v o → o ∈ R → isK kvs o = true) ∧ m = 2 * left n.toNat (isK kvs) + wt.length, ⟨_, [(Sum.inl g, V.non)], [g], none, none, rfl, ⟨?_, ?_, upd_same, SInv.start, ?_, ?_⟩, clos0, rfl⟩, ?_⟩
    · exact (same_upd hd).trans (same_upd hw)
    · rw [upd_ne nwd]
      exact ed0
    · intro v hv
      rw [List.mem_singleton.mp hv]
      unfold isK
      rw [SInv.start (n := n) (D := D) (R := R) |>.goal]
      rfl
    · have := left_le n.toNat (isK [(Sum.inl g, V.non)])
      simp only [List.length_cons, List.length_nil]
      omega
    clear clos0 ed0
    rintro m σ H1 ⟨kvs, wt, y5, y6, rfl, S1, clos, rfl⟩
    refine ⟨_, rfl, _, .inl ⟨_, SqL.of S1.ew, rfl⟩, ?_⟩
    rcases snoc_cases wt with rfl | ⟨ys, v, rfl⟩
    · refine iteF ?_
      exact ⟨_, rfl, q _ d kvs S1.sm hd S1.ed ⟨S1.inv, fun v o h1 h2 h3 => clos v o h1 (by simp) h2 h3⟩⟩
    · have ne : (!(vi (ys ++ [v])).isEmpty) = true := by
        cases ys <;> rfl
      rw [ne]
      refine iteT ⟨_, fun _ _ hh => hh, ?_⟩
      have hv : isK kvs v = true := S1.wk v (by simp)
      refine ⟨_, rfl, .inl ⟨rfl, _, SqL.of S1.ew⟩, wl, _, _, rfl, rfl, S1.ew, vi_snoc_last, ?_⟩
      rw [vi_dropLast]
      have l1 := S1.wlen
      rw [List.length_append, List.length_singleton] at l1
      have S2 : SAt H d wl n D R g kvs ys (upd H1 wl (.lst (vi ys))) := ⟨same_put S1.sm gw, (upd_ne nwd).trans S1.ed, upd_same, S1.inv, fun x hx => S1.wk x (List.mem_append_left _ hx), by omega⟩
      refine ⟨_, rfl, _, rfl, h, n, D, v, rfl, hH.same S2.sm, hF, fun H3 t s3 et => ?_⟩
      have S3 := S2.same s3
      refine ⟨t, rfl, ⟨_, SqT.of et⟩, for_tup (K := K) (a := t) (xs := vi (nb n D v)) (fun i σ H' => ∃ (kvs' : List (Key × V)) (wt : List Int) (y6 : Option V), σ = [some (.ref h), some (.int g), some (.ref rl), some (.ref d), some (.ref wl), some (.int v), y6] ∧
          SAt H d wl n D R g kvs' wt H' ∧ H' t = some (.tup (vi (nb n D v))) ∧ isK kvs' v = true ∧ (∀ x o, isK kvs' x = true → x ∉ wt → x ≠ v → adj D x o → o ∈ R → isK kvs' o = true) ∧
          (∀ o ∈ (nb n D v).take i, o ∈ R → isK kvs' o = true) ∧ 2 * left n.toNat (isK kvs') + wt.length < 2 * left n.toNat (isK kvs) + (ys ++ [v]).length) ⟨kvs, ys, y6, rfl, S3, et, hv, ?_, ?_, ?_⟩ ?_ ?_ ?_⟩
      · intro x o h1 h2 h3 h4 h5
        exact clos x o h1 (by simp [h2, h3]) h4 h5
      · intro o ho
        simp at ho
      · rw [List.length_append, List.length_singleton]
        omega
      · rintro i σ H' _ ⟨kvs', wt, y6, rfl, _, et', _⟩
        exact SqT.of et'
      · rintro i x σ H4 hx ⟨kvs', wt, y6, rfl, S4, et4, hv4, cl4, pre4, lt4⟩
        obtain ⟨o, eo, rfl⟩ := get_vi hx
        have mo := List.mem_of_getElem? eo
        have ao : adj D v o := hF.mem_nb.mp mo
        have ro := hF.adj ao
        have pre5 : ∀ kvs2 : List (Key × V), (∀ y, isK kvs' y = true → isK kvs2 y = true) → (o ∈ R → isK kvs2 o = true) → ∀ z ∈ (nb n D v).take (i + 1), z ∈ R → isK kvs2 z = true := fun kvs2 hm ho z hz hzR => by
          rw [List.take_add_one, eo, List.mem_append] at hz
          rcases hz with hz | hz
          · exact hm _ (pre4 z hz hzR)
          · have : z = o := by simpa using hz
            rw [this] at hzR ⊢
            exact ho hzR
        dsimp only [gName]
        refine if_by (fun b H5 => H5 = H4 ∧ (b = true → o ∈ R ∧ isK kvs' o = false) ∧ (b = false → o ∈ R → isK kvs' o = true)) ?_ ?_ ?_
        · rintro H5 ⟨rfl, hb, _⟩
          obtain ⟨oR, ok⟩ := hb rfl
          obtain ⟨I5, lt5⟩ := S4.inv.put hv4 ok ao oR ro.2.2.1 ro.2.2.2
          have lk4 := S4.inv.len
          have lw4 := S4.wlen
          refine ⟨_, rfl, _, rfl, _, rfl, d, _, rfl, DPut.k (k := Sum.inl o) S4.ed (small1000 (by omega)), ?_⟩
          have ew5 : (upd H5 d (.dK (putK kvs' (Sum.inl o) (V.int v)))) wl = some (.lst (vi wt)) := (upd_ne nwd.symm).trans S4.ew
          refine ⟨_, rfl, .inl ⟨rfl, _, SqL.of ew5⟩, _, rfl, wl, _, _, rfl, rfl, ew5, by rw [List.length_map]; exact small1000 (by omega), ?_⟩
          refine ⟨putK kvs' (Sum.inl o) (V.int v), wt ++ [o], _, rfl, ⟨same_put (same_put S4.sm hd) gw, (upd_ne nwd).trans upd_same, ?_, I5, ?_, ?_⟩, ?_, ?_, ?_, ?_, ?_⟩
          · rw [upd_same, vi_app]
            rfl
          · intro y hy
            rw [isK_put]
            rcases List.mem_append.mp hy with hy | hy
            · rw [S4.wk y hy, Bool.or_true]
            · rw [List.mem_singleton.mp hy, decide_eq_true rfl, Bool.true_or]
          · rw [List.length_append, List.length_singleton]
            omega
          · rw [upd_ne (ne_of et4 S4.ew (by intro z; cases z)), upd_ne (ne_of et4 S4.ed (by intro z; cases z))]
            exact et4
          · rw [isK_put, hv4, Bool.or_true]
          · intro y z h1 h2 h3 h4 h5
            rw [isK_put, Bool.or_eq_true, decide_eq_true_eq] at h1
            rw [List.mem_append, not_or, List.mem_singleton] at h2
            rcases h1 with h1 | h1
            · exact absurd h1 h2.2
            · rw [isK_put, cl4 y z h1 h2.1 h3 h4 h5, Bool.or_true]
          · refine pre5 _ (fun y hy => by rw [isK_put, hy, Bool.or_true]) fun _ => ?_
            rw [isK_put, decide_eq_true rfl, Bool.true_or]
          · rw [List.length_append, List.length_singleton]
            omega
        · rintro H5 ⟨rfl, _, hb⟩
          exact ⟨kvs', wt, _, rfl, S4, et4, hv4, cl4, pre5 kvs' (fun _ hh => hh) (hb rfl), lt4⟩
        · intro QQ hQ
          have hR4 : SqL K H4 rl (vi R) ∨ SqT K H4 rl (vi R) := hR.imp (fun z => S4.sm.seq z) (fun z => Same.sqT S4.sm z)
          refine ⟨_, rfl, _, rfl, rl, _, rfl, hR4, rfl, flat_ints R, _, rfl, ?_⟩
          show if (inV (.int o) (vi R)) = true then _ else _
          rw [inV_ints]
          refine ite2 (fun c => ?_) (fun c => ?_)
          · have c : o ∈ R := of_decide_eq_true c
            refine ⟨_, rfl, _, rfl, d, _, rfl, DGet.k (k := Sum.inl o) S4.ed, _, rfl, ?_⟩
            refine hQ _ _ ⟨rfl, fun e => ⟨c, ?_⟩, fun e _ => ?_⟩
            · show isK kvs' o = false
              unfold isK lk
              simpa using e
            · show isK kvs' o = true
              unfold isK lk
              simpa using e
          · exact hQ _ _ ⟨rfl, fun e => (by cases e), fun _ e => absurd (decide_eq_true e) c⟩
      · rintro σ H4 ⟨kvs', wt, y6, rfl, S4, et4, hv4, cl4, pre4, lt4⟩
        rw [List.length_map, List.take_length] at pre4
        refine ⟨_, lt4, kvs', wt, _, _, rfl, S4, fun x o h1 h2 h3 h4 => ?_, rfl⟩
        by_cases e : x = v
        · subst e
          exact pre4 o (hF.mem_nb.mpr h3) h4
        · exact cl4 x o h1 h2 e h3 h4
end
end Fw
namespace Fw
open PySem PySem.Spec PyProof.Rows L2
theorem HouseAt.top {H : Hp} {h : Addr} {n : Int} {D : List (Int × Int)} (x : HouseAt H h n D) : ∃ q, H h = some (.tup [.int n, .ref q]) := by
  obtain ⟨q, ps, h1, _⟩ := x
  exact ⟨q, h1⟩

/-- a nodup list of rooms below n is no longer than n -/
theorem short {n : Nat} : ∀ {p : List Int}, p.Nodup → (∀ x ∈ p, 0 ≤ x ∧ x < n) → p.length ≤ n := by
  induction n with
  | zero =>
    intro p _ h
    cases p with
    | nil => exact Nat.le_refl _
    | cons x r => have := h x (List.mem_cons_self ..); omega
  | succ n ih =>
    intro p nd h
    have h2 : (p.erase (n : Int)).length ≤ n := by
      refine ih (nd.erase _) fun x hx => ?_
      have hm := List.mem_of_mem_erase hx
      have hne : x ≠ (n : Int) := fun e => by
        subst e
        exact (List.Nodup.not_mem_erase nd) hx
      have := h x hm
      omega
    have h3 : p.length - 1 ≤ (p.erase (n : Int)).length := List.le_length_erase
    omega
theorem SP.all {R : Int → Int → Prop} {S : Int → Prop} (hs : ∀ x y, R x y → S y) {a b : Int} {p : List Int} (h : SP R a b p) (e : S a) : ∀ x ∈ p, S x := by
  induction h with
  | one a =>
    intro x hx
    rw [List.mem_singleton.mp hx]
    exact e
  | cons r _ _ ih =>
    intro x hx
    rcases List.mem_cons.mp hx with rfl | hx
    · exact e
    · exact ih (hs _ _ r) x hx
theorem Forest.short {n a b : Int} {D : List (Int × Int)} (f : Forest n D) (h8 : n ≤ 8) (h0 : 0 ≤ a) (h1 : a < n) {p : List Int} (h : SP (Fw.adj D) a b p) : p.length ≤ 8 := by
  have h2 : p.length ≤ n.toNat := Fw.short h.nodup fun x hx => by
    have := h.all (S := fun x => 0 ≤ x ∧ x < n) (fun x y r => ⟨(f.adj r).2.2.1, (f.adj r).2.2.2⟩) ⟨h0, h1⟩ x hx
    omega
  omega

end Fw
namespace Fw
open PySem PySem.Spec PyProof.Rows L2

section
variable {P : Program} {w : World} {K : PySem.W.Frag} {mg : Str → Option Value} {base : Heap}
def spPath : Sp := fun vs H Q _ => ∃ (h : Addr) (n : Int) (D : List (Int × Int)) (a b : Int), vs = [.ref h, .int a, .int b] ∧ HouseAt H h n D ∧ Forest n D ∧ n ≤ 8 ∧ 0 ≤ a ∧ a < n ∧ 0 ≤ b ∧ b < n ∧
  (∀ H', Same H H' → (∀ p, ¬ SP (adj D) a b p) → Q .non H') ∧ (∀ H' t p, Same H H' → SP (adj D) a b p → p.length ≤ 8 → H' t = some (.tup (vi p)) → Q (.ref t) H')

abbrev nPath : List Str := ["house", "a", "b", "steps", "path"]
theorem scPath : FnScope nPath ["house", "a", "b"] (defScope sPath) := ⟨rfl, rfl, rfl, by decide +kernel, rfl, by decide +kernel, by decide +kernel⟩
theorem ok_path {f fN fS : Addr} {fd fdN fdS : FuncData} (F : Fun K "path_between" "path_between" sPath f fd) (T : Nm mg) (DN : Def K mg "neighbors" sNb fN fdN ["house", "room"]) (DS : Def K mg "steps_toward" sSteps fS fdS ["house", "goal", "rooms"]) : FnOk P w K mg base CX0 3 f fd ["house", "a", "b"] spPath := by
  have GS : FnOk P w K mg base CX0 2 fS fdS ["house", "goal", "rooms"] (spSteps K) := ok_steps DS.F T DN
  refine F.ok scPath (fun vs H Q E h => ?_) (fun cdv A outer s H vs Q E hr h => ?_)
  · obtain ⟨h, n, D, a, b, rfl, _⟩ := h
    rfl
  · obtain ⟨h, n, D, a, b, rfl, hH, hF, hn, a0, a1, b0, b1, q1, q2⟩ := h
    have hu := hu_of hr
    obtain ⟨hq, eh⟩ := hH.top
    refine ⟨_, pss_cons (ps_set (i := 3) scPath.nd rfl (.inl rfl) (pe_call GS hr (by rfl) DS.g DS.F.kp DS.b .nil pass0 (pa_cons (pv 0) (pa_cons (pv 2) (pa_cons (pe_listRg (by rfl) (by rfl) T.list (prg_1 (by rfl) T.range (pe_ix ix_tup (pv 0) pe_int (fun _ _ => rfl)))) pa_nil)))))
      (pss_cons (ps_if (pt_cmp (pc_dnotin hu (pv 1) (pv 3))) (pss_one (ps_ret pe_non)) pss_nil)
      (pss_cons (ps_set (i := 4) scPath.nd rfl (.inl rfl) (pe_lst (pa_cons (pv 1) pa_nil)))
      (pss_cons (ps_while PassesOwn.never (pt_cmpR op_ne (pe_ix ix_list (pv 4) (pe_un un_neg pe_int) (fun _ _ => rfl)) (pv 2) (nomark _))
        (pss_one (ps_expr (pe_bm PySem.F.plainAttrs_list PySem.F.slot_list_append PySem.F.type_list_append mt_append (pv 4) (pa_cons (pe_dget hu (pv 3) (pe_ix ix_list (pv 4) (pe_un un_neg pe_int) (fun _ _ => rfl)) (fun _ _ => rfl)) pa_nil)))))
      (pss_one (ps_ret (pe_callTy call_tuple_of (by rfl) T.tuple (by decide +kernel) (pa_cons (pv 4) pa_nil))))))), ?_⟩
    refine ⟨_, rfl, _, rfl, _, rfl, h, _, _, _, rfl, rfl, SqT.of eh, atI0, n, rfl, RgOk.of_le (by omega) (by omega) (by omega) (by omega), fun rl hrl => ?_⟩
    rw [rg_vi, show ((List.range n.toNat).map fun (i : Nat) => (i : Int)) = rg n from rfl]
    have s1 : Same H (upd H rl (.lst (vi (rg n)))) := same_upd hrl
    refine ⟨h, rl, n, D, b, rg n, rfl, hH.same s1, hF, by omega, hn, .inl (SqL.of upd_same), fun H1 d kvs s2 hd ed S => ?_⟩
    have s2' := s1.trans s2
    have cl : ∀ v o, isK kvs v = true → adj D v o → isK kvs o = true := fun v o h1 h2 => S.closed v o h1 h2 (mem_rg.mpr ⟨(hF.adj h2).2.2.1, (hF.adj h2).2.2.2⟩)
    refine ⟨_, rfl, _, rfl, d, _, rfl, DGet.k (k := Sum.inl a) ed, _, rfl, ?_⟩
    cases ea : valV kvs (Sum.inl a) with
    | none =>
      refine iteT ?_
      refine q1 _ s2' fun p hp => ?_
      have hb : isK kvs b = true := by
        unfold isK
        rw [S.inv.goal]
        rfl
      have ha : isK kvs a = true := hp.back (S := fun x => isK kvs x = true) (fun x y r hy => cl y x hy (adj_symm r)) hb
      unfold isK lk at ha
      rw [ea] at ha
      cases ha
    | some x =>
      refine iteF ?_
      obtain ⟨p, hp⟩ := S.inv.way a x ea
      have hlen := hF.short hn a0 a1 hp.sp
      refine ⟨_, rfl, by show 1 ≤ sizeLine; decide, fun pl hpl => ?_⟩
      have gpl : H pl = none := s2'.free hpl
      have npd : d ≠ pl := ne_of_none ed hpl
      have p0 : ∃ r0, p = a :: r0 := by
        cases hp with
        | goal _ => exact ⟨[], rfl⟩
        | step _ _ _ _ => exact ⟨_, rfl⟩
      obtain ⟨r0, rfl⟩ := p0
      refine ⟨fun m σ H' => ∃ (don : List Int) (v : Int) (rest : List Int), σ = [some (.ref h), some (.int a), some (.int b), some (.ref d), some (.ref pl)] ∧ Same H H' ∧ H' d = some (.dK kvs) ∧ H' pl = some (.lst (vi (don ++ [v]))) ∧
          Ch D (lk kvs) b v (v :: rest) ∧ don ++ v :: rest = a :: r0 ∧ m = rest.length, ⟨_, [], a, r0, rfl, same_put s2' gpl, (upd_ne npd).trans ed, upd_same, hp, rfl, rfl⟩, ?_⟩
      rintro m σ H2 ⟨don, v, rest, rfl, s3, ed3, ep3, hv, eq3, rfl⟩
      have hat : atI (vi (don ++ [v])) (-1) = some (.int v) := by
        rw [vi_app]
        exact atI_last _ _
      refine ⟨_, rfl, _, rfl, pl, _, _, _, rfl, rfl, SqL.of ep3, hat, _, rfl, rfl, _, rfl, ?_⟩
      by_cases e : v = b
      · subst e
        have er : rest = [] := by
          have := hv.sp.loop
          injection this
        subst er
        refine iteNS rfl ?_
        refine ⟨_, rfl, pl, _, rfl, .inl ⟨SqL.of ep3, fun t ht => ?_⟩⟩
        refine q2 _ t (a :: r0) (s3.trans (same_upd ht)) hp.sp hlen ?_
        rw [upd_same, ← eq3]
      · have ne : (!decide (V.int v = V.int b)) = true := by
          rw [decide_eq_false (fun z => e (V.int.inj z))]
          rfl
        rw [ne]
        refine iteT ⟨_, fun _ _ hh => hh, ?_⟩
        cases hv with
        | goal _ => exact absurd rfl e
        | step ev _ hu2 _ =>
          rename_i u _ _
          have r0' : ∃ r1, rest = u :: r1 := by
            cases hu2 with
            | goal _ => exact ⟨[], rfl⟩
            | step _ _ _ _ => exact ⟨_, rfl⟩
          obtain ⟨r1, rfl⟩ := r0'
          have len3 : (don ++ v :: u :: r1).length ≤ 8 := by rw [eq3]; exact hlen
          have len4 : (vi (don ++ [v])).length < sizeLine := by
            rw [List.length_map, List.length_append, List.length_singleton]
            rw [List.length_append, List.length_cons] at len3
            exact small1000 (by omega)
          have hdg : DGet H2 d (V.int v) (some (V.int u)) := by
            have := DGet.k (k := Sum.inl v) ed3
            unfold lk at ev
            rw [ev] at this
            exact this
          refine ⟨_, rfl, .inl ⟨rfl, _, SqL.of ep3⟩, _, rfl, _, rfl, _, rfl, pl, _, _, _, rfl, rfl, SqL.of ep3, hat, d, V.int u, rfl, hdg, pl, _, _, rfl, rfl, ep3, len4, ?_⟩
          · refine ⟨r1.length, by simp, don ++ [v], u, r1, rfl, same_put s3 gpl, (upd_ne npd).trans ed3, ?_, hu2, by rw [List.append_assoc]; exact eq3, rfl⟩
            rw [upd_same, vi_app (don ++ [v])]
            rfl
end
end Fw
namespace Fw
open PySem PySem.Spec PyProof.Rows L2 SrtO

section
variable {P : Program} {w : World} {A : Around} {E : Value → Shared → Prop} {s : Shared}
/-- sorted of anything that can be collected, by an order -/
theorem sorted_any {a : Addr} {ltv : Value → Value → Bool} {Q : Value → Shared → Prop} (O : Swo ltv) (good : List Value → Shared → Prop) (col : wpAny (model P w) A.in1 (collect (.ref a)) good E s) (hz : ∀ vs z, good vs z → vs.length ≤ sizeLine)
    (hS : ∀ vs z, good vs z → 2 ≤ vs.length → SortableO P w A.in1.in1 { z with heap := z.heap.push (seqObj "list" vs.toArray 0) } z.heap.objs.size vs ltv)
    (fin : ∀ vs z out, good vs z → Srtd ltv out → Stb ltv out vs → Q (.ref z.heap.objs.size) { z with heap := sortedHeap (z.heap.push (seqObj "list" vs.toArray 0)) z.heap.objs.size vs out.toArray }) :
    wpAny (model P w) A (call (.builtin "sorted") [.ref a]) Q E s := by
  refine Calls.call_function_entry kind_sorted plain_sorted entry_sorted (args_sorted1 _) ?_
  show wpAny (model P w) A.in1 (Builtin.«sorted» _) _ _ _
  unfold Builtin.«sorted»
  refine wpAny_bind (m := checkCount "sorted" 1 1 _) (wpAny_pure (wpAny_bind (wpAny_mono col (fun vs z g => ?_) fun _ _ e => e)))
  refine wpAny_bind (wpAny_newList ?_ (hz vs z g))
  have at0 : (z.heap.push (seqObj "list" vs.toArray 0)).get? z.heap.objs.size = some (seqObj "list" vs.toArray 0) := Heap.get?_push_size _ rfl
  refine wpAny_bind (wpAny_holding (wpAny_call_entry slot_list_sort ⟨_, at0, rfl⟩ entry_list_sort (list_sort_ord O at0 (hz vs z g) (hS vs z g) fun out h1 h2 => ?_) (args_list_sort _)))
  exact ⟨_, rfl, wpAny_pure ⟨_, rfl, fin vs z out g h1 h2⟩⟩
end

/-- sorted(d), the keys of d ints -/
def rSortedDI : List V → Hp → VK → Prop := fun xs H Q => ∃ (a : Addr) (kvs : List (Key × V)) (ks : List Int), xs = [.ref a] ∧ H a = some (.dK kvs) ∧ kvs.map (·.1) = ks.map Sum.inl ∧
  ∀ (ys : List Int) (p : Addr), ys.Perm ks → ys.Pairwise (· ≤ ·) → H p = none → Q (.ref p) (upd H p (.lst (vi ys)))
theorem cr_sortedDI {X : Cx} (hc : X.calm = true) : CallR X (.builtin "sorted") rSortedDI := by
  intro pins s σ H xs us Q I r h
  obtain ⟨a, kvs, ks, rfl, ha, hk, q⟩ := h
  rw [Vals.ref1 r]
  obtain ⟨len, lo, vs, rel, dd⟩ := dk_of I.hok ha
  obtain ⟨ep, hat⟩ := dd.dictAt
  have ek : vs.map (·.1) = ks.map Sum.inl := rel.keys.symm.trans hk
  have el : vs.length = ks.length := by simpa using congrArg List.length ek
  have ez : ks.length ≤ sizeLine := by
    have := congrArg List.length hk
    rw [List.length_map, List.length_map] at this
    omega
  refine sorted_any swo_int (fun us z => IntsAre us ks ∧ Inv X pins σ H z ∧ z = { s with heap := z.heap, toks := z.toks }) ?_ ?_ ?_ ?_
  · refine PySem.W.kdu_collect (PySem.W.kdl_dict (knd := mixKind X.prog X.w) (kvs := vs) (ep := ep) lo) (I.ok.hd hc) hat (by omega) fun h' tk acc keep items => ⟨?_, I.kept keep, rfl⟩
    have lena : acc.toList.length = vs.length := by
      rw [Array.length_toList]
      exact items.1
    have rv := keys_at (us := acc.toList) (vs := vs) lena fun j v e => by
      obtain ⟨k, x, e1, e2⟩ := items.2 j v (by rw [← Array.getElem?_toList]; exact e)
      exact ⟨k, x, e1, e2⟩
    have e3 : (vs.map fun p => kV p.1) = ks.map V.int := by
      have := congrArg (List.map kV) ek
      rw [List.map_map, List.map_map] at this
      exact this
    rw [e3] at rv
    exact rv.ints
  · intro us z g
    rw [g.1.length]
    exact ez
  · intro us z g h2
    exact ints_sortable g.1 h2
  · rintro us z out ⟨hi, J, ez'⟩ h1 h2
    obtain ⟨k1, k2, k3⟩ := ints_out hi h1 h2
    have at0 : (z.heap.push (seqObj "list" us.toArray 0)).get? z.heap.objs.size = some (seqObj "list" us.toArray 0) := Heap.get?_push_size _ rfl
    obtain ⟨e', he'⟩ := sortedHeap_at (vs := us) (out := out.toArray) at0
    refine ⟨.ref z.heap.objs.size, upd H z.heap.objs.size (.lst (vi (out.map iv))), J.laid (t' := z.toks) (fun b u e => ?_) (Nat.le_refl _) ⟨?_, out, e', vals_of_ints k1, he'⟩, rfl, q _ _ k2 k3 (J.hok.fresh (Nat.le_refl _))⟩
    · have lt := Heap.lt_size e
      rw [sortedHeap_old (Nat.ne_of_lt lt) (by rw [size_push']; exact Nat.lt_succ_of_lt lt)]
      exact Heap.get?_push_of_some _ e
    · rw [List.length_map, k2.length_eq]
      exact ez
end Fw
namespace Fw
open PySem PySem.Spec PyProof.Rows L2 SrtO

/-! ### lists of ints in the order of tuples -/
def lexI : List Int → List Int → Bool
  | [], [] => false
  | [], _ :: _ => true
  | _ :: _, [] => false
  | x :: xs, y :: ys => if x = y then lexI xs ys else decide (x < y)
theorem lexI_asym : ∀ {xs ys : List Int}, lexI xs ys = true → lexI ys xs = false
  | [], [], h => by cases h
  | [], _ :: _, _ => rfl
  | _ :: _, [], h => by cases h
  | x :: xs, y :: ys, h => by
    unfold lexI at h ⊢
    by_cases e : x = y
    · rw [if_pos e] at h
      rw [if_pos e.symm]
      exact lexI_asym h
    · rw [if_neg e, decide_eq_true_eq] at h
      rw [if_neg (fun z => e z.symm)]
      exact decide_eq_false (by omega)
theorem lexI_tr : ∀ {xs ys zs : List Int}, lexI ys xs = false → lexI zs ys = false → lexI zs xs = false
  | [], [], [], _, _ => rfl
  | [], [], _ :: _, _, _ => rfl
  | [], _ :: _, [], _, h => by cases h
  | [], _ :: _, _ :: _, _, _ => rfl
  | _ :: _, [], _, h, _ => by cases h
  | _ :: _, _ :: _, [], _, h => by cases h
  | x :: xs, y :: ys, z :: zs, h1, h2 => by
    unfold lexI at h1 h2 ⊢
    by_cases e1 : y = x
    · rw [if_pos e1] at h1
      by_cases e2 : z = y
      · rw [if_pos e2] at h2
        rw [if_pos (e2.trans e1)]
        exact lexI_tr h1 h2
      · rw [if_neg e2, decide_eq_false_iff_not] at h2
        rw [if_neg (fun q => e2 (q.trans e1.symm))]
        exact decide_eq_false (by omega)
    · rw [if_neg e1, decide_eq_false_iff_not] at h1
      by_cases e2 : z = y
      · rw [if_neg (fun q => e1 (e2.symm.trans q))]
        exact decide_eq_false (by omega)
      · rw [if_neg e2, decide_eq_false_iff_not] at h2
        rw [if_neg (by omega)]
        exact decide_eq_false (by omega)
theorem lexI_total : ∀ {xs ys : List Int}, lexI xs ys = false → xs ≠ ys → lexI ys xs = true
  | [], [], _, h => absurd rfl h
  | [], _ :: _, h, _ => by cases h
  | _ :: _, [], _, _ => rfl
  | x :: xs, y :: ys, h, n => by
    unfold lexI at h ⊢
    by_cases e : x = y
    · rw [if_pos e] at h
      rw [if_pos e.symm]
      exact lexI_total h fun z => n (by rw [e, z])
    · rw [if_neg e, decide_eq_false_iff_not] at h
      rw [if_neg (fun z => e z.symm)]
      exact decide_eq_true (by omega)
theorem lexI_head {x y : Int} {xs ys : List Int} (h : x < y) : lexI (x :: xs) (y :: ys) = true := by
  unfold lexI
  rw [if_neg (by omega)]
  exact decide_eq_true h
/-- two lists that rise strictly, with the same members, are one -/
theorem rise_ext {α : Type} {lt : α → α → Prop} (as : ∀ a b, lt a b → ¬ lt b a) : ∀ {xs ys : List α}, xs.Pairwise lt → ys.Pairwise lt → (∀ x, x ∈ xs ↔ x ∈ ys) → xs = ys
  | [], [], _, _, _ => rfl
  | [], y :: ys, _, _, h => absurd ((h y).mpr (List.mem_cons_self ..)) (by simp)
  | x :: xs, [], _, _, h => absurd ((h x).mp (List.mem_cons_self ..)) (by simp)
  | x :: xs, y :: ys, hx, hy, h => by
    obtain ⟨hx1, hx2⟩ := List.pairwise_cons.mp hx
    obtain ⟨hy1, hy2⟩ := List.pairwise_cons.mp hy
    have e : x = y := by
      rcases List.mem_cons.mp ((h x).mp (List.mem_cons_self ..)) with h1 | h1
      · exact h1
      · rcases List.mem_cons.mp ((h y).mpr (List.mem_cons_self ..)) with h2 | h2
        · exact h2.symm
        · exact absurd (hy1 _ h1) (as _ _ (hx1 _ h2))
    subst e
    rw [rise_ext as hx2 hy2 fun z => ?_]
    constructor
    · intro m
      rcases List.mem_cons.mp ((h z).mp (List.mem_cons_of_mem _ m)) with e | e
      · subst e; exact absurd (hx1 _ m) (as _ _ (hx1 _ m))
      · exact e
    · intro m
      rcases List.mem_cons.mp ((h z).mpr (List.mem_cons_of_mem _ m)) with e | e
      · subst e; exact absurd (hy1 _ m) (as _ _ (hy1 _ m))
      · exact e

/-! ### the machine's comparison of two tuples of ints -/
def lexF (fin : Bool) : List Int → List Int → Bool
  | x :: xs, y :: ys => if x = y then lexF fin xs ys else decide (x < y)
  | _, _ => fin
theorem lexF_eq : ∀ (xs ys : List Int), lexF (decide (xs.length < ys.length)) xs ys = lexI xs ys
  | [], [] => rfl
  | [], _ :: _ => by unfold lexF lexI; simp
  | _ :: _, [] => by unfold lexF lexI; simp
  | x :: xs, y :: ys => by
    unfold lexF lexI
    have e : decide ((x :: xs).length < (y :: ys).length) = decide (xs.length < ys.length) := by simp
    rw [e, lexF_eq xs ys]
section
variable {P : Program} {w : World} {A : Around} {s : Shared}
theorem kat_ints {fin : Bool} : ∀ {xs ys : List Value} {ns ms : List Int} (i : Nat), IntsAre xs ns → IntsAre ys ms → PySem.W.KatLex P w A true fin (fun r s' => s' = s ∧ r = lexF fin ns ms) (xs.zip ys) i s := by
  intro xs ys ns ms i hx
  induction hx generalizing ys ms i with
  | nil => intro _; exact PySem.W.kat_nil ⟨rfl, by cases ms <;> rfl⟩
  | cons x t hx ih =>
    intro hy
    cases hy with
    | nil => exact PySem.W.kat_nil ⟨rfl, rfl⟩
    | cons y u hy =>
      refine PySem.W.kat_cons (SeqAt.EqAt.int_int x t y u P w _ _ (PySem.W.kat_go (fun e => ?_) fun e => ?_))
      · have e : x = y := by simpa using e
        subst e
        unfold lexF
        rw [if_pos rfl]
        exact PySem.W.kat_yes (ih (i + 1) hy)
      · have e : ¬ x = y := by simpa using e
        unfold lexF
        rw [if_neg e]
        refine PySem.W.kat_no ?_
        cases hb : (true && i == 0) with
        | true => exact oneLt_int ⟨rfl, rfl⟩
        | false => exact PySem.W.kat_one _ _ (PyProof.Rows.lt_int (show s = s ∧ decide (x < y) = decide (x < y) from ⟨rfl, rfl⟩))
theorem swo_lexI (k : Value → List Int) : Swo fun v u => lexI (k v) (k u) := ⟨fun _ _ h => lexI_asym h, fun _ _ _ h1 h2 => lexI_tr h1 h2⟩
/-- tuples of ints, none empty, sort by their order -/
theorem tups_sortable {a : Addr} {vs : List Value} {k : Value → List Int} (h0 : 0 < vs.length) (hp : ∀ v ∈ vs, TS.TupInts s.heap v (k v) ∧ k v ≠ []) (ha : ∀ o, s.heap.get? a = some o → o.cls ≠ .type "tuple") : SortableO P w A s a vs fun v u => lexI (k v) (k u) := by
  intro h' keep
  have hp' : ∀ v ∈ vs, TS.TupInts h' v (k v) := fun v hv => (hp v hv).1.keeps fun b o e c => keep b o (fun z => ha o (z ▸ e) c) e
  have firsts : ∀ us : List Value, (∀ v ∈ us, v ∈ vs) → ∃ fs : List Value, PySem.W.KatTups h' us fs ∧ fs.length = us.length ∧ ∀ f ∈ fs, ∃ x t, f = Value.int x t := by
    intro us
    induction us with
    | nil => exact fun _ => ⟨[], PySem.W.KatTups.nil, rfl, fun _ hm => nomatch hm⟩
    | cons v us ih =>
      intro hu
      obtain ⟨fs, g1, g2, g3⟩ := ih fun z hz => hu z (List.mem_cons_of_mem _ hz)
      have hv := hu v (List.mem_cons_self ..)
      obtain ⟨b, xs, rfl, ⟨o, ho, hc, n, hd⟩, hi⟩ := hp' v hv
      have ne := (hp _ hv).2
      generalize k (.ref b) = kb at hi ne
      obtain ⟨l⟩ := xs
      cases l with
      | nil =>
        have hi : IntsAre [] kb := hi
        cases hi
        exact absurd rfl ne
      | cons f l =>
        have hf : ∃ x t, f = Value.int x t := by
          have hi : IntsAre (f :: l) kb := hi
          cases hi
          exact ⟨_, _, rfl⟩
        refine ⟨f :: fs, PySem.W.KatTups.cons ho hc hd rfl g1, by rw [List.length_cons, List.length_cons, g2], fun z hz => ?_⟩
        rcases List.mem_cons.mp hz with rfl | hz
        · exact hf
        · exact g3 z hz
  obtain ⟨fs, g1, g2, g3⟩ := firsts vs fun _ h => h
  refine ⟨tuples' true, fun Q E hq => ?_, fun p q hm hm' => ?_⟩
  · refine PySem.W.kat_kind (T := .type "int") g1 (by omega) (fun f hf => ?_) (by rfl) ?_
    · obtain ⟨x, t, rfl⟩ := g3 f hf
      exact PySem.W.Looks.now
    · rw [show (Value.type "int" != Value.type "tuple") = true by decide +kernel]
      exact hq
  · obtain ⟨b, xs, e1, ⟨o, ho, hc, n, hd⟩, hi⟩ := hp' p.1 hm
    obtain ⟨b2, xs2, e2, ⟨o2, ho2, hc2, n2, hd2⟩, hi2⟩ := hp' q.1 hm'
    have fe : (lt2 fun v u => lexI (k v) (k u)) p q = lexI (k p.1) (k q.1) := rfl
    rw [fe, ← lexF_eq]
    have l1 : (k p.1).length = xs.size := by rw [← hi.length]; simp
    have l2 : (k q.1).length = xs2.size := by rw [← hi2.length]; simp
    rw [l1, l2]
    generalize k p.1 = ns at hi
    generalize k q.1 = ms at hi2
    rw [e1, e2]
    exact PySem.W.kat_lt ho hd ho2 hd2 (kat_ints 0 hi hi2)
end

/-- sorted(set), the members tuples of ints, none empty -/
def rSortedTV (K : PySem.W.Frag) (P : Program) (w : World) : List V → Hp → VK → Prop := fun vs H Q => ∃ (a : Addr) (L : List (Addr × List Int)), vs = [V.ref a] ∧ H a = some (SetTO P w a L) ∧ (∀ p ∈ L, SqT K H p.1 (vi p.2) ∧ p.2 ≠ []) ∧
  ∀ (L' : List (Addr × List Int)) (p : Addr), (∀ q, q ∈ L' ↔ q ∈ L) → (L'.map (·.2)).Pairwise (fun x y => lexI x y = true) → H p = none → Q (.ref p) (upd H p (.lst (L'.map fun q => V.ref q.1)))
theorem cr_sortedTV {X : Cx} (hc : X.calm = true) : CallR X (.builtin "sorted") (rSortedTV X.K X.prog X.w) := by
  intro pins s σ H vs us Q I r h
  obtain ⟨a, L, rfl, ha, hk, q⟩ := h
  rw [Vals.ref1 r]
  have R0 : SetT0 X.prog X.w s.heap a L := (I.hok a _ ha).1
  obtain ⟨es, ep, t, R⟩ := R0.full fun p hp => I.isT (hk p hp).1
  have few := R.few
  have rows : es.toList.map (·.2) = L.map fun q => Value.ref q.1 := by
    rw [R.rows]
    unfold rowsOf
    rw [List.map_map]
    rfl
  have one : ∀ q ∈ L, ∀ r ∈ L, q.1 = r.1 → q = r := fun q hq r hr e => by
    have a1 := R.tup q hq
    rw [e] at a1
    exact Prod.ext e (a1.inj (R.tup r hr))
  have tup : ∀ (h' : Heap), (∀ b o, s.heap.get? b = some o → h'.get? b = some o) → ∀ q ∈ L, TS.TupInts h' (.ref q.1) q.2 := fun h' kk q hq => tupInts_of (P := X.prog) (w := X.w) (isT_keep (R.tup q hq) kk)
  obtain ⟨o, ho, hex, hd⟩ := R.ob
  have hsz := R.size
  refine sorted_any (swo_lexI (TS.intsOf s.heap)) (fun us z => (∀ b o, s.heap.get? b = some o → z.heap.get? b = some o) ∧ s.heap.objs.size ≤ z.heap.objs.size ∧ z.gens = s.gens ∧ z.os = s.os ∧ us.Perm (L.map fun q => Value.ref q.1))
    (collect_set (A := X.A.in1) (I.ok.hd hc) ⟨o, ho, hex.1, hd⟩ R.fits (by unfold scanBound; omega) R.tab.ris R.led fun z out k1 k2 k3 k4 k5 => ⟨k1, k2, k3, k4, by rw [← rows]; exact k5⟩) ?_ ?_ ?_
  · rintro us z ⟨_, _, _, _, pm⟩
    rw [pm.length_eq, List.length_map, sizeLine_eq]
    omega
  · rintro us z ⟨k1, _, _, _, pm⟩ h2
    refine tups_sortable (by omega) (fun v hv => ?_) fun o' e => ?_
    · obtain ⟨p, hp, rfl⟩ := List.mem_map.mp (pm.mem_iff.mp hv)
      have e0 : TS.intsOf s.heap (.ref p.1) = p.2 := (tup s.heap (fun _ _ e => e) p hp).ints
      rw [e0]
      exact ⟨tup _ (fun b o e => Heap.get?_push_of_some _ (k1 b o e)) p hp, (hk p hp).2⟩
    · have e' : some o' = some (seqObj "list" us.toArray 0) := e.symm.trans (Heap.get?_push_size _ rfl)
      cases e'
      intro c
      exact absurd (Value.type.inj c) (by decide)
  · rintro us z out ⟨k1, k2, k3, k4, pm⟩ h1 h2
    have pm2 := h2.perm.trans pm
    obtain ⟨L', pL, eL⟩ := perm_map_inv pm2 rfl
    have at0 : (z.heap.push (seqObj "list" us.toArray 0)).get? z.heap.objs.size = some (seqObj "list" us.toArray 0) := Heap.get?_push_size _ rfl
    obtain ⟨e', he'⟩ := sortedHeap_at (vs := us) (out := out.toArray) at0
    have hn : H z.heap.objs.size = none := I.hok.fresh k2
    have kk : ∀ b o, s.heap.get? b = some o → (sortedHeap (z.heap.push (seqObj "list" us.toArray 0)) z.heap.objs.size us out.toArray).get? b = some o := fun b o e => by
      have lt := Heap.lt_size (k1 b o e)
      rw [sortedHeap_old (Nat.ne_of_lt lt) (by rw [size_push']; exact Nat.lt_succ_of_lt lt)]
      exact Heap.get?_push_of_some _ (k1 b o e)
    have rise : (L'.map (·.2)).Pairwise (fun x y => lexI x y = true) := by
      rw [eL] at h1
      have p1 := List.pairwise_map.mp h1
      have nd : (L'.map (·.2)).Nodup := (pL.map _).nodup_iff.mpr R.nd
      refine List.pairwise_map.mpr (List.Pairwise.imp_of_mem ?_ (p1.and (List.pairwise_map.mp nd)))
      rintro q r hq hr ⟨g1, g2⟩
      have f1 : TS.intsOf s.heap (.ref q.1) = q.2 := (tup s.heap (fun _ _ e => e) q (pL.mem_iff.mp hq)).ints
      have f2 : TS.intsOf s.heap (.ref r.1) = r.2 := (tup s.heap (fun _ _ e => e) r (pL.mem_iff.mp hr)).ints
      have g1 : lexI (TS.intsOf s.heap (.ref r.1)) (TS.intsOf s.heap (.ref q.1)) = false := g1
      rw [f1, f2] at g1
      exact lexI_total g1 fun e => g2 e.symm
    have J : Inv X pins σ (upd H z.heap.objs.size (.lst (L'.map fun q => V.ref q.1))) { s with heap := sortedHeap (z.heap.push (seqObj "list" us.toArray 0)) z.heap.objs.size us out.toArray, gens := z.gens, drawn := z.drawn, toks := z.toks } :=
      I.call (ch := []) (Un.laid kk k2 hn) (I.hok.laid kk k2 ⟨by rw [List.length_map, pL.length_eq, sizeLine_eq]; omega, out, e', by rw [eL]; exact vals_of_refs L', he'⟩) (by rw [k3]; exact I.bare) (fun _ z => nomatch z)
    have ez : ({ z with heap := sortedHeap (z.heap.push (seqObj "list" us.toArray 0)) z.heap.objs.size us out.toArray } : Shared) = { s with heap := sortedHeap (z.heap.push (seqObj "list" us.toArray 0)) z.heap.objs.size us out.toArray, gens := z.gens, drawn := z.drawn, toks := z.toks } := by
      cases z
      cases k4
      rfl
    rw [ez]
    exact ⟨.ref z.heap.objs.size, _, J, rfl, q L' _ (fun x => pL.mem_iff) rise hn⟩
end Fw
namespace Fw
open PySem PySem.Spec PyProof.Rows L2

/-- what can be reached from g over rooms of R -/
inductive Wk (D : List (Int × Int)) (R : List Int) (g : Int) : Int → Prop
  | base : Wk D R g g
  | step {v o : Int} : Wk D R g v → adj D v o → o ∈ R → Wk D R g o
section
variable {D : List (Int × Int)} {R : List Int} {g : Int}
theorem Wk.mem {v : Int} (h : Wk D R g v) : v = g ∨ v ∈ R := by
  cases h with
  | base => exact .inl rfl
  | step _ _ m => exact .inr m
theorem Wk.trans {a b c : Int} (h : Wk D R a b) (k : Wk D R b c) : Wk D R a c := by
  induction k with
  | base => exact h
  | step _ r m ih => exact .step ih r m
theorem Wk.symm {v : Int} (hg : g ∈ R) (h : Wk D R g v) : Wk D R v g := by
  induction h with
  | base => exact .base
  | @step v o k r m ih =>
    have mv : v ∈ R := by
      rcases k.mem with e | e
      · rw [e]; exact hg
      · exact e
    exact (Wk.step .base (adj_symm r) mv).trans ih
theorem SDone.wk {n : Int} {kvs : List (Key × V)} (S : SDone n D R g kvs) (v : Int) : isK kvs v = true ↔ Wk D R g v := by
  constructor
  · intro h
    unfold isK at h
    cases e : lk kvs v with
    | none => rw [e] at h; cases h
    | some x =>
      obtain ⟨p, c⟩ := S.inv.way v x e
      clear e h
      induction c with
      | goal _ => exact .base
      | @step v u p e a _ _ ih =>
        rcases S.inv.rng v (by unfold isK; rw [e]; rfl) with e2 | m
        · rw [e2]; exact .base
        · exact .step ih (adj_symm a) m
  · intro h
    induction h with
    | base => unfold isK; rw [S.inv.goal]; rfl
    | step _ r m ih => exact S.closed _ _ ih r m
/-- the component of g, ascending -/
structure IsC (D : List (Int × Int)) (R : List Int) (g : Int) (l : List Int) : Prop where
  up : l.Pairwise (· < ·)
  mem : ∀ v, v ∈ l ↔ Wk D R g v
theorem IsC.one {l l' : List Int} (a : IsC D R g l) (b : IsC D R g l') : l = l' := up_ext a.up b.up fun v => (a.mem v).trans (b.mem v).symm
theorem IsC.of {l ks : List Int} (p : l.Perm ks) (s : l.Pairwise (· ≤ ·)) (n : ks.Nodup) (m : ∀ v, v ∈ ks ↔ Wk D R g v) : IsC D R g l := ⟨up_of s (p.nodup_iff.mpr n), fun v => by rw [p.mem_iff]; exact m v⟩
end
theorem rg_filter_len {n : Int} {p : Int → Bool} : ((rg n).filter p).length ≤ n.toNat := by
  refine Nat.le_trans (List.length_filter_le _ _) ?_
  rw [rg_len]
  exact Nat.le_refl _

end Fw
namespace Fw
open PySem PySem.Spec PyProof.Rows L2
/-- the components of the first i rooms -/
structure CInv (D : List (Int × Int)) (R : List Int) (i : Nat) (Cs : List (Addr × List Int)) : Prop where
  a : ∀ c ∈ Cs, ∃ r ∈ R.take i, IsC D R r c.2
  b : ∀ r ∈ R.take i, ∃ c ∈ Cs, r ∈ c.2
  up : (Cs.map (·.2)).Pairwise (fun x y => lexI x y = true)
  n : Cs.length ≤ i
section
variable {D : List (Int × Int)} {R : List Int}
theorem IsC.has {g : Int} {l : List Int} (h : IsC D R g l) : g ∈ l := (h.mem g).mpr .base
theorem take_succ_mem {R : List Int} {i : Nat} {r x : Int} (e : R[i]? = some r) : x ∈ R.take (i + 1) ↔ x ∈ R.take i ∨ x = r := by
  rw [List.take_add_one, e, List.mem_append]
  simp
theorem CInv.skip {i : Nat} {Cs : List (Addr × List Int)} (C : CInv D R i Cs) {r : Int} (e : R[i]? = some r) (h : ∃ c ∈ Cs, r ∈ c.2) : CInv D R (i + 1) Cs := by
  refine ⟨fun c hc => ?_, fun x hx => ?_, C.up, Nat.le_succ_of_le C.n⟩
  · obtain ⟨r', h1, h2⟩ := C.a c hc
    exact ⟨r', (take_succ_mem e).mpr (.inl h1), h2⟩
  · rcases (take_succ_mem e).mp hx with hx | hx
    · exact C.b x hx
    · rw [hx]; exact h
theorem CInv.add {i : Nat} {Cs : List (Addr × List Int)} (C : CInv D R i Cs) {r : Int} (e : R[i]? = some r) (upR : R.Pairwise (· < ·)) (no : ∀ c ∈ Cs, r ∉ c.2) {t : Addr} {l : List Int} (hl : IsC D R r l) : CInv D R (i + 1) (Cs ++ [(t, l)]) := by
  have hi : i < R.length := (List.getElem?_eq_some_iff.mp e).1
  have er : R[i] = r := (List.getElem?_eq_some_iff.mp e).2
  have mr : r ∈ R := List.mem_of_getElem? e
  have low : ∀ v ∈ R, v < r → v ∈ R.take i := fun v hv hlt => by
    obtain ⟨j, hj, ej⟩ := List.mem_iff_getElem.mp hv
    refine List.mem_take_iff_getElem.mpr ⟨j, ?_, ej⟩
    have : ¬ i ≤ j := fun hij => by
      rcases Nat.lt_or_eq_of_le hij with h | h
      · have := (List.pairwise_iff_getElem.mp upR) i j hi hj h
        omega
      · subst h; omega
    omega
  have least : ∀ v ∈ l, r ≤ v := fun v hv => by
    by_cases hlt : v < r
    · have wv := (hl.mem v).mp hv
      have mv : v ∈ R := by
        rcases wv.mem with z | z
        · omega
        · exact z
      obtain ⟨c, hc, hvc⟩ := C.b v (low v mv hlt)
      obtain ⟨r', h1, h2⟩ := C.a c hc
      have w2 : Wk D R r' r := ((h2.mem v).mp hvc).trans (wv.symm mr)
      exact absurd ((h2.mem r).mpr w2) (no c hc)
    · omega
  refine ⟨fun c hc => ?_, fun x hx => ?_, ?_, ?_⟩
  · rcases List.mem_append.mp hc with hc | hc
    · obtain ⟨r', h1, h2⟩ := C.a c hc
      exact ⟨r', (take_succ_mem e).mpr (.inl h1), h2⟩
    · rw [List.mem_singleton.mp hc]
      exact ⟨r, (take_succ_mem e).mpr (.inr rfl), hl⟩
  · rcases (take_succ_mem e).mp hx with hx | hx
    · obtain ⟨c, hc, h⟩ := C.b x hx
      exact ⟨c, List.mem_append_left _ hc, h⟩
    · exact ⟨(t, l), List.mem_append_right _ (List.mem_singleton.mpr rfl), by rw [hx]; exact hl.has⟩
  · rw [List.map_append, List.pairwise_append]
    refine ⟨C.up, List.pairwise_singleton _ _, fun x hx y hy => ?_⟩
    have ey : y = l := List.mem_singleton.mp hy
    obtain ⟨c, hc, ec⟩ := List.mem_map.mp hx
    obtain ⟨r', h1, h2⟩ := C.a c hc
    have rr : r' < r := by
      obtain ⟨j, hj, ej⟩ := List.mem_take_iff_getElem.mp h1
      have := (List.pairwise_iff_getElem.mp upR) j i (by omega) hi (by omega)
      omega
    subst ey
    subst ec
    have hr' := h2.has
    have u2 := h2.up
    have hr := hl.has
    revert hr' u2 hr least
    cases c.2 with
    | nil => intro _ h; cases h
    | cons a as =>
      cases y with
      | nil => intro _ _ _ h; cases h
      | cons b bs =>
        intro ls hr' u2 _
        refine lexI_head ?_
        have h1 : r ≤ b := ls b (List.mem_cons_self ..)
        have h2 : a ≤ r' := by
          rcases List.mem_cons.mp hr' with z | z
          · omega
          · exact Int.le_of_lt ((List.pairwise_cons.mp u2).1 r' z)
        omega
  · rw [List.length_append, List.length_singleton]
    exact Nat.succ_le_succ C.n
theorem CInv.done {Cs : List (Addr × List Int)} (C : CInv D R R.length Cs) (l : List Int) : l ∈ Cs.map (·.2) ↔ ∃ r ∈ R, IsC D R r l := by
  have ha := C.a
  have hb := C.b
  rw [List.take_length] at ha hb
  constructor
  · intro h
    obtain ⟨c, hc, e⟩ := List.mem_map.mp h
    subst e
    exact ha c hc
  · rintro ⟨r, hr, h⟩
    obtain ⟨c, hc, hrc⟩ := hb r hr
    obtain ⟨r', h1, h2⟩ := ha c hc
    have w := (h2.mem r).mp hrc
    have : c.2 = l := up_ext h2.up h.up fun v => by
      rw [h2.mem, h.mem]
      exact ⟨fun k => (w.symm h1).trans k, fun k => w.trans k⟩
    exact this ▸ List.mem_map_of_mem hc
end

section
variable {P : Program} {w : World} {K : PySem.W.Frag} {mg : Str → Option Value} {base : Heap}
def refs (Cs : List (Addr × List Int)) : List V := Cs.map fun c => V.ref c.1
def TupsAt (H : Hp) (Cs : List (Addr × List Int)) : Prop := ∀ c ∈ Cs, H c.1 = some (.tup (vi c.2)) ∧ c.2.length ≤ 20
theorem TupsAt.same {H H' : Hp} {Cs : List (Addr × List Int)} (h : TupsAt H Cs) (e : Same H H') : TupsAt H' Cs := fun c hc => ⟨e _ _ (h c hc).1, (h c hc).2⟩
theorem get_refs {Cs : List (Addr × List Int)} {i : Nat} {x : V} (h : (refs Cs)[i]? = some x) : ∃ c, Cs[i]? = some c ∧ x = .ref c.1 := by
  unfold refs at h
  rw [List.getElem?_map] at h
  cases e : Cs[i]? with
  | none => rw [e] at h; cases h
  | some v => rw [e] at h; exact ⟨v, rfl, (Option.some.inj h).symm⟩
def spComp (K : PySem.W.Frag) : Sp := fun vs H Q _ => ∃ (h rl : Addr) (n : Int) (D : List (Int × Int)) (R : List Int), vs = [.ref h, .ref rl] ∧ HouseAt H h n D ∧ Forest n D ∧ 0 ≤ n ∧ n ≤ 8 ∧ H rl = some (.tup (vi R)) ∧ R.Pairwise (· < ·) ∧ R.length ≤ 8 ∧
  ∀ H' t Cs, Same H H' → H' t = some (.tup (refs Cs)) → TupsAt H' Cs → (Cs.map (·.2)).Pairwise (fun x y => lexI x y = true) → (∀ l, l ∈ Cs.map (·.2) ↔ ∃ r ∈ R, IsC D R r l) → Cs.length ≤ 8 → Q (.ref t) H'
abbrev nComp : List Str := ["house", "rooms", "found", "room", "component"]
theorem scComp : FnScope nComp ["house", "rooms"] (defScope sComp) := ⟨rfl, rfl, rfl, by decide +kernel, rfl, by decide +kernel, by decide +kernel⟩
theorem ok_comp {f fN fS : Addr} {fd fdN fdS : FuncData} (F : Fun K "components" "components" sComp f fd) (T : Nm mg) (Tany : mg "any" = none) (DN : Def K mg "neighbors" sNb fN fdN ["house", "room"]) (DS : Def K mg "steps_toward" sSteps fS fdS ["house", "goal", "rooms"]) : FnOk P w K mg base CX0 3 f fd ["house", "rooms"] (spComp K) := by
  have GS : FnOk P w K mg base CX0 2 fS fdS ["house", "goal", "rooms"] (spSteps K) := ok_steps DS.F T DN
  refine F.ok scComp (fun vs H Q E h => ?_) (fun cdv A outer s H vs Q E hr h => ?_)
  · obtain ⟨h, rl, n, D, R, rfl, _⟩ := h
    rfl
  · obtain ⟨h, rl, n, D, R, rfl, hH, hF, n0, n1, eR, upR, lR, q⟩ := h
    refine ⟨_, pss_cons (ps_set (i := 2) scComp.nd rfl (.inl rfl) (pe_lst pa_nil))
      (pss_cons (ps_for PassesOwn.never rfl (pi_tup (pv 1)) (pg_name (i := 3) scComp.nd rfl (Or.inr rfl))
        (pss_one (ps_if (pt_not (pt_val (pe_callB (cr_any rfl) (by rfl) Tany (by decide +kernel) (pa_cons
            (pe_lc (own := [("component", 4)]) (g := gName 4) (tt := tYes) (te := tOp (rIn K false) (tVar 3) (tVar 4)) (by rfl) scComp.nd (pi_list (pv 2)) (blkOk_by (own := [("component", 4)]) (N := nComp) (sc := defScope sComp) (by decide +kernel))
              (fun _ _ _ _ _ => pg_name (i := 4) scComp.nd rfl (Or.inl rfl)) (fun _ _ _ _ _ => pts_nil) (fun _ _ _ _ _ => pe_cmpR op_in_seq (pv 3) (pv 4) (by rfl))) pa_nil))))
          (pss_one (ps_expr (pe_bm PySem.F.plainAttrs_list PySem.F.slot_list_append PySem.F.type_list_append mt_append (pv 2) (pa_cons (pe_callTy call_tuple_of (by rfl) T.tuple (by decide +kernel) (pa_cons
            (pe_callB (cr_sortedDI rfl) (by rfl) T.sorted (by decide +kernel) (pa_cons (pe_call GS hr (by rfl) DS.g DS.F.kp DS.b .nil pass0 (pa_cons (pv 0) (pa_cons (pv 3) (pa_cons (pv 1) pa_nil)))) pa_nil)) pa_nil)) pa_nil))))
          pss_nil)))
      (pss_one (ps_ret (pe_callTy call_tuple_of (by rfl) T.tuple (by decide +kernel) (pa_cons (pv 2) pa_nil))))), ?_⟩
    refine ⟨Nat.zero_le _, fun fl hfl => ?_⟩
    have t0 : TupsAt (upd H fl (.lst [])) [] := fun c hc => by cases hc
    have c0 : CInv D R 0 [] := ⟨fun c hc => (by cases hc), fun r hr => (by simp at hr), List.Pairwise.nil, Nat.le_refl _⟩
    refine ⟨_, rfl, rl, rfl, ⟨_, SqT.of (same_upd hfl _ _ eR)⟩, for_tup (K := K) (a := rl) (xs := vi R) (fun i σ H' => ∃ (Cs : List (Addr × List Int)) (y3 y4 : Option V), σ = [some (.ref h), some (.ref rl), some (.ref fl), y3, y4] ∧ Same H H' ∧ H' fl = some (.lst (refs Cs)) ∧ TupsAt H' Cs ∧ CInv D R i Cs)
      ⟨[], none, none, rfl, same_upd hfl, upd_same, t0, c0⟩ (fun i σ H' _ ⟨_, _, _, _, sm, _⟩ => SqT.of (sm _ _ eR)) ?_ ?_⟩
    · rintro i x σ H1 hx ⟨Cs, y3, y4, rfl, s1, ef, hT, C⟩
      obtain ⟨r, er, rfl⟩ := get_vi hx
      have hi : i < R.length := (List.getElem?_eq_some_iff.mp er).1
      have Cn := C.n
      dsimp only [gName]
      refine if_by (fun b H2 => Same H1 H2 ∧ (b = true → ∀ c ∈ Cs, r ∉ c.2) ∧ (b = false → ∃ c ∈ Cs, r ∈ c.2)) ?_ ?_ ?_
      · rintro H2 ⟨s2, no, _⟩
        have no := no rfl
        have ef2 := s2 _ _ ef
        refine ⟨_, rfl, .inl ⟨rfl, _, SqL.of ef2⟩, _, rfl, _, rfl, _, rfl, h, rl, n, D, r, R, rfl, hH.same (s1.trans s2), hF, n0, n1, .inr (SqT.of (s2 _ _ (s1 _ _ eR))), fun H3 d kvs s3 hd ed S => ?_⟩
        obtain ⟨ks, k1, k2, k3⟩ := S.inv.keys
        have sl := S.inv.len
        have kl : ks.length = kvs.length := by simpa using (congrArg List.length k1).symm
        refine ⟨d, kvs, ks, rfl, ed, k1, fun ys p pm up hp => ⟨p, _, rfl, .inl ⟨SqL.of upd_same, fun t ht => ?_⟩⟩⟩
        have sA : Same H2 (upd (upd H3 p (.lst (vi ys))) t (.tup (vi ys))) := s3.trans ((same_upd hp).trans (same_upd ht))
        have ef4 := sA _ _ ef2
        have hl : IsC D R r ys := IsC.of pm up k2 fun v => (k3 v).trans (S.wk v)
        refine ⟨fl, _, _, rfl, rfl, ef4, by unfold refs; rw [List.length_map]; exact small1000 (by omega), ?_⟩
        refine ⟨Cs ++ [(t, ys)], _, _, rfl, same_put (s1.trans (s2.trans sA)) hfl, ?_, fun c hc => ?_, C.add er upR no hl⟩
        · rw [upd_same]
          unfold refs
          rw [List.map_append]
          rfl
        · rcases List.mem_append.mp hc with hc | hc
          · have h1 := hT.same (s2.trans sA) c hc
            exact ⟨(upd_ne (ne_of h1.1 ef4 (by intro z; cases z))).trans h1.1, h1.2⟩
          · rw [List.mem_singleton.mp hc]
            have h1 : (upd (upd H3 p (.lst (vi ys))) t (.tup (vi ys))) t = some (.tup (vi ys)) := upd_same
            exact ⟨(upd_ne (ne_of h1 ef4 (by intro z; cases z))).trans h1, by show ys.length ≤ 20; rw [pm.length_eq]; omega⟩
      · rintro H2 ⟨s2, _, yes⟩
        exact ⟨Cs, _, _, rfl, s1.trans s2, s2 _ _ ef, hT.same s2, C.skip er (yes rfl)⟩
      · intro QQ hQ
        refine ⟨_, rfl, fl, rfl, ⟨_, SqL.of ef⟩, fun L hL => lc_list (K := K) (a := fl) (xs := refs Cs) (fun j H2 => Same H1 H2 ∧ H2 L = some (.lst ((Cs.take j).map fun c => V.bl (decide (r ∈ c.2))))) ⟨same_upd hL, upd_same⟩ (fun j H2 _ hh => SqL.of (hh.1 _ _ ef)) ?_ ?_⟩
        · rintro j x H2 hx ⟨s2, e2⟩
          obtain ⟨c, ec, rfl⟩ := get_refs hx
          have hc := hT.same s2 c (List.mem_of_getElem? ec)
          have hj : j < Cs.length := (List.getElem?_eq_some_iff.mp ec).1
          refine ⟨rfl, ?_⟩
          unfold tYes
          refine iteT ?_
          refine ⟨_, rfl, _, rfl, c.1, _, rfl, .inr (SqT.of hc.1), rfl, flat_ints c.2, _, e2, ?_, same_put s2 hL, ?_⟩
          · rw [List.length_map, List.length_take]
            exact small1000 (by omega)
          · rw [upd_same, List.take_add_one, ec, List.map_append]
            show some (HO.lst (_ ++ [V.bl (inV (.int r) (vi c.2))])) = _
            rw [inV_ints]
            rfl
        · rintro H2 ⟨s2, e2⟩
          have el : (refs Cs).length = Cs.length := by unfold refs; rw [List.length_map]
          rw [el, List.take_length] at e2
          refine ⟨L, Cs.map fun c => decide (r ∈ c.2), rfl, SqL.of (by rw [List.map_map]; exact e2), _, rfl, hQ _ _ ⟨s2, fun e c hc m => ?_, fun e => ?_⟩⟩
          · have : ((Cs.map fun c => decide (r ∈ c.2)).any id) = true := List.any_eq_true.mpr ⟨true, List.mem_map.mpr ⟨c, hc, decide_eq_true m⟩, rfl⟩
            rw [this] at e
            cases e
          · have e : ((Cs.map fun c => decide (r ∈ c.2)).any id) = true := by simpa using e
            obtain ⟨b, hb, hb2⟩ := List.any_eq_true.mp e
            obtain ⟨c, hc, e3⟩ := List.mem_map.mp hb
            have hb2 : b = true := hb2
            rw [hb2] at e3
            exact ⟨c, hc, of_decide_eq_true e3⟩
    · rintro σ H1 ⟨Cs, y3, y4, rfl, s1, ef, hT, C⟩
      rw [List.length_map] at C
      have Cn := C.n
      refine ⟨_, rfl, fl, _, rfl, .inl ⟨SqL.of ef, fun t ht => ?_⟩⟩
      exact q _ t Cs (s1.trans (same_upd ht)) upd_same (hT.same (same_upd ht)) C.up C.done (by omega)
end
end Fw
namespace Fw
open PySem PySem.Spec PyProof.Rows L2

/-- the rooms with people; the rooms without -/
def occ (n : Int) (P : List (Str × Int)) : List Int := (rg n).filter fun r => decide (r ∈ P.map (·.2))
def emp (n : Int) (P : List (Str × Int)) : List Int := (rg n).filter fun r => !decide (r ∈ P.map (·.2))
theorem rg_snoc (i : Nat) : (List.range (i + 1)).map (fun (j : Nat) => 0 + (j : Int)) = (List.range i).map (fun (j : Nat) => 0 + (j : Int)) ++ [0 + (i : Int)] := by
  rw [List.range_succ, List.map_append]
  rfl
theorem rg0 (n : Int) : (List.range n.toNat).map (fun (j : Nat) => 0 + (j : Int)) = rg n := List.map_congr_left fun i _ => by omega
theorem mem_occ {n : Int} {P : List (Str × Int)} {r : Int} : r ∈ occ n P ↔ (0 ≤ r ∧ r < n) ∧ r ∈ P.map (·.2) := by
  unfold occ
  rw [List.mem_filter, mem_rg, decide_eq_true_eq]
theorem mem_emp {n : Int} {P : List (Str × Int)} {r : Int} : r ∈ emp n P ↔ (0 ≤ r ∧ r < n) ∧ r ∉ P.map (·.2) := by
  unfold emp
  rw [List.mem_filter, mem_rg, Bool.not_eq_true', decide_eq_false_iff_not]
theorem Pl.mem_occ {n : Int} {P : List (Str × Int)} (h : Pl n P) {r : Int} : r ∈ occ n P ↔ r ∈ P.map (·.2) := by
  rw [Fw.mem_occ]
  refine ⟨fun x => x.2, fun x => ⟨?_, x⟩⟩
  obtain ⟨y, hy, e⟩ := List.mem_map.mp x
  rw [← e]
  exact h.rm y hy
theorem rg_up (n : Int) : (rg n).Pairwise (· < ·) := range_up n.toNat
theorem occ_up (n : Int) (P : List (Str × Int)) : (occ n P).Pairwise (· < ·) := (rg_up n).filter _
theorem emp_up (n : Int) (P : List (Str × Int)) : (emp n P).Pairwise (· < ·) := (rg_up n).filter _
theorem occ_len (n : Int) (P : List (Str × Int)) : (occ n P).length ≤ n.toNat := rg_filter_len
theorem emp_len (n : Int) (P : List (Str × Int)) : (emp n P).length ≤ n.toNat := rg_filter_len
theorem in_empty (P : List (Str × Int)) (r : Int) : ((inside P [r]).map V.str).isEmpty = !decide (r ∈ P.map (·.2)) := by
  rw [Bool.eq_iff_iff, List.isEmpty_iff, List.map_eq_nil_iff, inside_nil, Bool.not_eq_true', decide_eq_false_iff_not]
  constructor
  · intro h m
    obtain ⟨y, hy, e⟩ := List.mem_map.mp m
    exact h y hy (List.mem_singleton.mpr e)
  · intro h x hx m
    rw [List.mem_singleton] at m
    exact h (m ▸ List.mem_map_of_mem (f := (·.2)) hx)
/-- the regions of the rooms R -/
structure Regs (D : List (Int × Int)) (R : List Int) (Ls : List (List Int)) : Prop where
  up : Ls.Pairwise (fun x y => lexI x y = true)
  mem : ∀ l, l ∈ Ls ↔ ∃ r ∈ R, IsC D R r l
def RegsAt (H : Hp) (t : Addr) (D : List (Int × Int)) (R : List Int) (Cs : List (Addr × List Int)) : Prop := H t = some (.tup (refs Cs)) ∧ TupsAt H Cs ∧ Cs.length ≤ 8 ∧ Regs D R (Cs.map (·.2))
theorem RegsAt.same {H H' : Hp} {t : Addr} {D : List (Int × Int)} {R : List Int} {Cs : List (Addr × List Int)} (x : RegsAt H t D R Cs) (e : Same H H') : RegsAt H' t D R Cs := ⟨e _ _ x.1, x.2.1.same e, x.2.2⟩
theorem RegsAt.tk {H H' : Hp} {t : Addr} {D : List (Int × Int)} {R : List Int} {Cs : List (Addr × List Int)} (x : RegsAt H t D R Cs) (e : Tk H H') : RegsAt H' t D R Cs := ⟨e.t x.1, fun c hc => ⟨e.t (x.2.1 c hc).1, (x.2.1 c hc).2⟩, x.2.2⟩
theorem Wk.mono {D : List (Int × Int)} {R R' : List Int} {g v : Int} (h : Wk D R g v) (m : ∀ x ∈ R, x ∈ R') : Wk D R' g v := by
  induction h with
  | base => exact .base
  | step _ a o ih => exact .step ih a (m _ o)
theorem Wk.congr {D : List (Int × Int)} {R R' : List Int} (h : ∀ x, x ∈ R ↔ x ∈ R') {g v : Int} : Wk D R g v ↔ Wk D R' g v := ⟨fun w => w.mono fun x hx => (h x).mp hx, fun w => w.mono fun x hx => (h x).mpr hx⟩
theorem IsC.congr {D : List (Int × Int)} {R R' : List Int} (h : ∀ x, x ∈ R ↔ x ∈ R') {g : Int} {l : List Int} (i : IsC D R g l) : IsC D R' g l := ⟨i.up, fun v => (i.mem v).trans (Wk.congr h)⟩
theorem IsC.re {D : List (Int × Int)} {R : List Int} {g r : Int} {l : List Int} (h : IsC D R g l) (hg : g ∈ R) (hr : r ∈ l) : IsC D R r l := by
  refine ⟨h.up, fun v => ?_⟩
  have w := (h.mem r).mp hr
  rw [h.mem]
  exact ⟨fun k => (w.symm hg).trans k, fun k => w.trans k⟩
theorem IsC.sub {D : List (Int × Int)} {R : List Int} {g : Int} {l : List Int} (h : IsC D R g l) (hg : g ∈ R) : ∀ x ∈ l, x ∈ R := fun x hx => by
  rcases ((h.mem x).mp hx).mem with e | e
  · rw [e]; exact hg
  · exact e
section
variable {D : List (Int × Int)} {R : List Int} {Ls : List (List Int)}
theorem Regs.has (h : Regs D R Ls) {l : List Int} (hl : l ∈ Ls) {r : Int} (hr : r ∈ l) : r ∈ R ∧ IsC D R r l := by
  obtain ⟨g, hg, hc⟩ := (h.mem l).mp hl
  exact ⟨hc.sub hg r hr, hc.re hg hr⟩
theorem Regs.one (h : Regs D R Ls) {l m : List Int} (hl : l ∈ Ls) (hm : m ∈ Ls) {r : Int} (h1 : r ∈ l) (h2 : r ∈ m) : l = m := (h.has hl h1).2.one (h.has hm h2).2
/-- the list of the component of a room: by what can be reached -/
theorem isC_ex (D : List (Int × Int)) {R : List Int} (upR : R.Pairwise (· < ·)) {r : Int} (hr : r ∈ R) : ∃ l, IsC D R r l := by
  classical
  refine ⟨R.filter fun v => decide (Wk D R r v), upR.filter _, fun v => ?_⟩
  rw [List.mem_filter, decide_eq_true_eq]
  refine ⟨fun h => h.2, fun h => ⟨?_, h⟩⟩
  rcases h.mem with e | e
  · rw [e]; exact hr
  · exact e
theorem Regs.ex (h : Regs D R Ls) (upR : R.Pairwise (· < ·)) {r : Int} (hr : r ∈ R) : ∃ l ∈ Ls, r ∈ l := by
  obtain ⟨l, hl⟩ := isC_ex D upR hr
  exact ⟨l, (h.mem l).mpr ⟨r, hr, hl⟩, hl.has⟩
end
theorem IsC.len {D : List (Int × Int)} {n : Int} {P : List (Str × Int)} {r : Int} {l : List Int} (h : IsC D (occ n P) r l) (hr : r ∈ occ n P) (n1 : n ≤ 8) : l.length ≤ 8 := by
  have h1 : l.length ≤ n.toNat := short (h.up.imp fun {a b} z => by omega) fun x hx => by
    have := (Fw.mem_occ.mp (h.sub hr x hx)).1
    omega
  omega
section
variable {P : Program} {w : World} {K : PySem.W.Frag} {mg : Str → Option Value} {base : Heap}

end
end Fw
namespace Fw
open PySem PySem.Spec PyProof.Rows L2
theorem upS_ext : ∀ {xs ys : List Str}, xs.Pairwise ltS → ys.Pairwise ltS → (∀ x, x ∈ xs ↔ x ∈ ys) → xs = ys
  | [], [], _, _, _ => rfl
  | [], y :: ys, _, _, h => absurd ((h y).mpr (List.mem_cons_self ..)) List.not_mem_nil
  | x :: xs, [], _, _, h => absurd ((h x).mp (List.mem_cons_self ..)) List.not_mem_nil
  | x :: xs, y :: ys, hx, hy, h => by
    obtain ⟨hx1, hx2⟩ := List.pairwise_cons.mp hx
    obtain ⟨hy1, hy2⟩ := List.pairwise_cons.mp hy
    have e : x = y := by
      rcases List.mem_cons.mp ((h x).mp (List.mem_cons_self ..)) with e | m
      · exact e
      · rcases List.mem_cons.mp ((h y).mpr (List.mem_cons_self ..)) with e | m'
        · exact e.symm
        · exact absurd (ltS_trans (hy1 x m) (hx1 y m')) (ltS_irr y)
    subst e
    rw [upS_ext hx2 hy2 fun z => ?_]
    constructor
    · intro m
      rcases List.mem_cons.mp ((h z).mp (List.mem_cons_of_mem _ m)) with e | m'
      · rw [e] at m
        exact absurd (hx1 x m) (ltS_irr x)
      · exact m'
    · intro m
      rcases List.mem_cons.mp ((h z).mpr (List.mem_cons_of_mem _ m)) with e | m'
      · rw [e] at m
        exact absurd (hy1 x m) (ltS_irr x)
      · exact m'
theorem sorted_same {ns ys : List Str} (h : Names ns) (p : ys.Perm ns) (s : sortedS ys = true) : ys = ns :=
  upS_ext (sorted_names p s h.nodup h.nam).up h.up fun x => p.mem_iff
theorem subset_len {α : Type} [DecidableEq α] : ∀ {xs ys : List α}, xs.Nodup → (∀ x ∈ xs, x ∈ ys) → xs.length ≤ ys.length
  | [], _, _, _ => Nat.zero_le _
  | x :: xs, ys, nd, h => by
    obtain ⟨h1, h2⟩ := List.nodup_cons.mp nd
    have hx := h x (List.mem_cons_self ..)
    have := subset_len (ys := ys.erase x) h2 fun z hz => (List.mem_erase_of_ne (show z ≠ x from fun e => h1 (e ▸ hz))).mpr (h z (List.mem_cons_of_mem _ hz))
    rw [List.length_erase_of_mem hx] at this
    have := List.length_pos_of_mem hx
    simp only [List.length_cons]
    omega
theorem split_len {α : Type} (p : α → Bool) : ∀ xs : List α, (xs.filter p).length + (xs.filter fun x => !p x).length = xs.length
  | [] => rfl
  | x :: xs => by
    have := split_len p xs
    cases h : p x with
    | true =>
      rw [List.filter_cons_of_pos h, List.filter_cons_of_neg (by simp [h])]
      simp only [List.length_cons]
      omega
    | false =>
      rw [List.filter_cons_of_neg (by simp [h]), List.filter_cons_of_pos (by simp [h])]
      simp only [List.length_cons]
      omega
theorem occ_emp (n : Int) (P : List (Str × Int)) : (occ n P).length + (emp n P).length = n.toNat := by
  have := split_len (fun r => decide (r ∈ P.map (·.2))) (rg n)
  rw [rg_len] at this
  exact this
section
variable {D : List (Int × Int)} {R : List Int} {Ls : List (List Int)}
theorem up_nodup {l : List Int} (h : l.Pairwise (· < ·)) : l.Nodup := List.nodup_iff_pairwise_ne.mpr (h.imp fun {a b} z => by omega)
theorem lex_irr : ∀ l : List Int, lexI l l = false
  | [] => rfl
  | x :: l => by
    rw [lexI, if_pos rfl]
    exact lex_irr l
theorem Regs.flat_nodup (h : Regs D R Ls) : Ls.flatten.Nodup := by
  rw [List.nodup_iff_pairwise_ne, List.pairwise_flatten]
  refine ⟨fun l hl => ?_, ?_⟩
  · obtain ⟨g, _, hc⟩ := (h.mem l).mp hl
    exact List.nodup_iff_pairwise_ne.mp (up_nodup hc.up)
  · refine h.up.imp_of_mem fun {a b} ha hb lt x hx y hy e => ?_
    subst e
    have := h.one ha hb hx hy
    subst this
    rw [lex_irr] at lt
    cases lt
theorem Regs.flat_mem (h : Regs D R Ls) (upR : R.Pairwise (· < ·)) (x : Int) : x ∈ Ls.flatten ↔ x ∈ R := by
  rw [List.mem_flatten]
  constructor
  · rintro ⟨l, hl, hx⟩
    exact (h.has hl hx).1
  · intro hx
    exact h.ex upR hx
theorem Regs.total (h : Regs D R Ls) (upR : R.Pairwise (· < ·)) : (Ls.map List.length).sum = R.length := by
  rw [← List.length_flatten]
  have h1 := subset_len h.flat_nodup fun x hx => (h.flat_mem upR x).mp hx
  have h2 := subset_len (up_nodup upR) fun x hx => (h.flat_mem upR x).mpr hx
  omega
theorem lex_ext : ∀ {xs ys : List (List Int)}, xs.Pairwise (fun a b => lexI a b = true) → ys.Pairwise (fun a b => lexI a b = true) → (∀ x, x ∈ xs ↔ x ∈ ys) → xs = ys
  | [], [], _, _, _ => rfl
  | [], y :: ys, _, _, h => absurd ((h y).mpr (List.mem_cons_self ..)) List.not_mem_nil
  | x :: xs, [], _, _, h => absurd ((h x).mp (List.mem_cons_self ..)) List.not_mem_nil
  | x :: xs, y :: ys, hx, hy, h => by
    obtain ⟨hx1, hx2⟩ := List.pairwise_cons.mp hx
    obtain ⟨hy1, hy2⟩ := List.pairwise_cons.mp hy
    have e : x = y := by
      rcases List.mem_cons.mp ((h x).mp (List.mem_cons_self ..)) with e | m
      · exact e
      · rcases List.mem_cons.mp ((h y).mpr (List.mem_cons_self ..)) with e | m'
        · exact e.symm
        · have a := lexI_asym (hy1 x m)
          rw [hx1 y m'] at a
          cases a
    subst e
    rw [lex_ext hx2 hy2 fun z => ?_]
    constructor
    · intro m
      rcases List.mem_cons.mp ((h z).mp (List.mem_cons_of_mem _ m)) with e | m'
      · rw [e] at m
        have a := hx1 x m
        rw [lex_irr] at a
        cases a
      · exact m'
    · intro m
      rcases List.mem_cons.mp ((h z).mpr (List.mem_cons_of_mem _ m)) with e | m'
      · rw [e] at m
        have a := hy1 x m
        rw [lex_irr] at a
        cases a
      · exact m'
theorem Regs.uniq {Ls' : List (List Int)} (h : Regs D R Ls) (k : Regs D R Ls') : Ls = Ls' := lex_ext h.up k.up fun l => (h.mem l).trans (k.mem l).symm
end
/-- a move takes nobody to an empty room -/
theorem mvd_rooms {P : List (Str × Int)} {nm : Str} {t r : Int} (ht : t ∈ P.map (·.2)) (h : r ∈ (mvd P nm t).map (·.2)) : r ∈ P.map (·.2) := by
  obtain ⟨x, hx, e⟩ := List.mem_map.mp h
  obtain ⟨y, hy, rfl⟩ := List.mem_map.mp hx
  have e : (if y.1 = nm then t else y.2) = r := e
  by_cases c : y.1 = nm
  · rw [if_pos c] at e
    rw [← e]
    exact ht
  · rw [if_neg c] at e
    rw [← e]
    exact List.mem_map_of_mem (f := (·.2)) hy
theorem nil_ne {K : PySem.W.Frag} {σ : L2.St} {L : Addr} {H : Hp} {Q : Bool → Hp → Prop} (e : H L = some (.lst [])) (h : ∀ H', Same H H' → Q false H') : tLst tNil σ H fun y H2 => rNeD K (.ref L) y H2 fun x H3 => ∃ k, x = .bl k ∧ Q k H3 :=
  ⟨Nat.zero_le _, fun p hp => ⟨.list [], .list [], .lst (SqL.of (same_upd hp _ _ e)) .nil, .lst (SqL.of upd_same) .nil, shaped_list [], shaped_list [], false, rfl, h _ (same_upd hp)⟩⟩
theorem nil_eq {K : PySem.W.Frag} {σ : L2.St} {L : Addr} {H : Hp} {Q : Bool → Hp → Prop} (e : H L = some (.lst [])) (h : ∀ H', Same H H' → Q true H') : tLst tNil σ H fun y H2 => rEqD K (.ref L) y H2 fun x H3 => ∃ k, x = .bl k ∧ Q k H3 :=
  ⟨Nat.zero_le _, fun p hp => ⟨.list [], .list [], .lst (SqL.of (same_upd hp _ _ e)) .nil, .lst (SqL.of upd_same) .nil, shaped_list [], shaped_list [], true, rfl, h _ (same_upd hp)⟩⟩
/-- texts as data -/
theorem dp_strs {K : PySem.W.Frag} {H : Hp} : ∀ ns : List Str, DpAll K H (ns.map V.str) (ns.map PyData.str)
  | [] => .nil
  | n :: ns => .cons (.str n) (dp_strs ns)
theorem strs_lay {ns : List Str} (h : ∀ x ∈ ns, PyData.strOk x = true) : PyData.canLayAll0 (ns.map PyData.str) = true := by
  rw [canLayAll_strs', List.all_eq_true]
  exact h
theorem strs_deep : ∀ ns : List Str, PyData.depthAll (ns.map PyData.str) = 0
  | [] => by simp [PyData.depthAll]
  | n :: ns => by
    rw [List.map_cons, PyData.depthAll, strs_deep ns, PyData.depth]
    rfl
theorem strs_shaped {ns : List Str} (h : ∀ x ∈ ns, PyData.strOk x = true) : SeqAt.shaped (.list (ns.map PyData.str)) = true := by
  unfold SeqAt.shaped
  rw [PyData.canLay0, strs_lay h, PyData.depth, strs_deep]
  decide
/-- tuples of ints as data -/
theorem dpR {K : PySem.W.Frag} {H : Hp} : ∀ {Cs : List (Addr × List Int)}, (∀ c ∈ Cs, H c.1 = some (.tup (vi c.2))) → DpAll K H (refs Cs) (Cs.map fun c => PyData.tuple (c.2.map PyData.int))
  | [], _ => .nil
  | c :: Cs, h => .cons (.tup (SqT.of (h c (List.mem_cons_self ..))) (dp_ints _)) (dpR fun q hq => h q (List.mem_cons_of_mem _ hq))
theorem layR : ∀ Cs : List (Addr × List Int), PyData.canLayAll0 (Cs.map fun c => PyData.tuple (c.2.map PyData.int)) = true ∧ PyData.depthAll (Cs.map fun c => PyData.tuple (c.2.map PyData.int)) ≤ 1
  | [] => by simp [PyData.canLayAll0, PyData.depthAll]
  | c :: Cs => by
    obtain ⟨h1, h2⟩ := layR Cs
    rw [List.map_cons, PyData.canLayAll0, PyData.depthAll, h1, PyData.canLay0, lay_ints, PyData.depth, deep_ints]
    exact ⟨rfl, by omega⟩
theorem shapedR (Cs : List (Addr × List Int)) : SeqAt.shaped (.tuple (Cs.map fun c => PyData.tuple (c.2.map PyData.int))) = true := by
  obtain ⟨h1, h2⟩ := layR Cs
  unfold SeqAt.shaped
  rw [PyData.canLay0, h1, PyData.depth]
  simp
  omega
theorem shapedRL (Cs : List (Addr × List Int)) : SeqAt.shaped (.list (Cs.map fun c => PyData.tuple (c.2.map PyData.int))) = true := by
  obtain ⟨h1, h2⟩ := layR Cs
  unfold SeqAt.shaped
  rw [PyData.canLay0, h1, PyData.depth]
  simp
  omega
end Fw
namespace Fw
open PySem PySem.Spec PyProof.Rows L2
section
variable {P : Program} {w : World} {K : PySem.W.Frag} {mg : Str → Option Value} {base : Heap}
def spConn (K : PySem.W.Frag) : Sp := fun vs H Q _ => ∃ (h rl : Addr) (n : Int) (D : List (Int × Int)) (R : List Int) (g : Int), vs = [.ref h, .ref rl, .int g] ∧ HouseAt H h n D ∧ Forest n D ∧ n ≤ 8 ∧ (SqL K H rl (vi R) ∨ SqT K H rl (vi R)) ∧ 0 ≤ g ∧ g < n ∧
  ∀ H' t l, Same H H' → H' t = some (.tup (vi l)) → IsC D R g l → l.length ≤ 20 → Q (.ref t) H'
def newp (R fnd : List Int) : Int → Bool := fun o => decide (o ∈ R) && !decide (o ∈ fnd)
theorem filter_take_succ {p : Int → Bool} {xs : List Int} {j : Nat} {x : Int} (e : xs[j]? = some x) : (xs.take (j + 1)).filter p = (xs.take j).filter p ++ if p x = true then [x] else [] := by
  rw [List.take_add_one, e, List.filter_append]
  congr 1
  by_cases c : p x = true
  · rw [if_pos c]
    show List.filter p [x] = _
    rw [List.filter_cons_of_pos c]
    rfl
  · rw [if_neg c]
    show List.filter p [x] = _
    rw [List.filter_cons_of_neg c]
    rfl
/-- what the search keeps -/
structure CAt (D : List (Int × Int)) (R : List Int) (n g : Int) (fnd : List Int) (sp : Nat) : Prop where
  nd : fnd.Nodup
  ok : ∀ v ∈ fnd, Wk D R g v ∧ 0 ≤ v ∧ v < n
  one : g ∈ fnd
  cl : ∀ v ∈ fnd.take sp, ∀ o, adj D v o → o ∈ R → o ∈ fnd
  le : sp ≤ fnd.length
theorem CAt.len {D : List (Int × Int)} {R : List Int} {n g : Int} {fnd : List Int} {sp : Nat} (C : CAt D R n g fnd sp) (h : n ≤ 8) : fnd.length ≤ 8 := by
  have : fnd.length ≤ n.toNat := short C.nd fun x hx => by have := (C.ok x hx).2; omega
  omega
theorem CAt.next {D : List (Int × Int)} {R : List Int} {n g : Int} {fnd : List Int} {sp : Nat} {v : Int} (C : CAt D R n g fnd sp) (hF : Forest n D) (e : fnd[sp]? = some v) : CAt D R n g (fnd ++ (nb n D v).filter (newp R fnd)) (sp + 1) := by
  have hs : sp < fnd.length := (List.getElem?_eq_some_iff.mp e).1
  have mv := List.mem_of_getElem? e
  have mem : ∀ o, o ∈ (nb n D v).filter (newp R fnd) ↔ adj D v o ∧ o ∈ R ∧ o ∉ fnd := fun o => by
    rw [List.mem_filter, hF.mem_nb]
    unfold newp
    simp
  refine ⟨?_, fun x hx => ?_, List.mem_append_left _ C.one, fun x hx o r m => ?_, ?_⟩
  · rw [List.nodup_append]
    refine ⟨C.nd, ((nb_up n D v).imp fun h => by omega).filter _, fun x hx y hy z => ?_⟩
    rw [z] at hx
    exact ((mem y).mp hy).2.2 hx
  · rcases List.mem_append.mp hx with hx | hx
    · exact C.ok x hx
    · obtain ⟨h1, h2, _⟩ := (mem x).mp hx
      exact ⟨.step (C.ok v mv).1 h1 h2, (hF.adj h1).2.2.1, (hF.adj h1).2.2.2⟩
  · rw [List.take_append_of_le_length (by omega)] at hx
    rcases (take_succ_mem e).mp hx with hx | hx
    · exact List.mem_append_left _ (C.cl x hx o r m)
    · rw [hx] at r
      by_cases c : o ∈ fnd
      · exact List.mem_append_left _ c
      · exact List.mem_append_right _ ((mem o).mpr ⟨r, m, c⟩)
  · rw [List.length_append]
    omega
theorem CAt.done {D : List (Int × Int)} {R : List Int} {n g : Int} {fnd : List Int} {sp : Nat} (C : CAt D R n g fnd sp) (h : ¬ sp < fnd.length) (v : Int) : v ∈ fnd ↔ Wk D R g v := by
  have cl := C.cl
  rw [List.take_of_length_le (by omega)] at cl
  refine ⟨fun m => (C.ok v m).1, fun k => ?_⟩
  induction k with
  | base => exact C.one
  | step _ r m ih => exact cl _ ih _ r m

abbrev nConn : List Str := ["_law_house", "_law_rooms", "_law_room", "_law_found", "_law_spot", "_law_there"]
theorem scConn : FnScope nConn ["_law_house", "_law_rooms", "_law_room"] (defScope sConn) := ⟨rfl, rfl, rfl, by decide +kernel, rfl, by decide +kernel, by decide +kernel⟩
theorem ok_conn {f fN : Addr} {fd fdN : FuncData} (F : Fun K "_law_connected" "_law_connected" sConn f fd) (T : Nm mg) (DN : Def K mg "_law_neighbors" sLNb fN fdN ["_law_house", "_law_room"]) : FnOk P w K mg base CX0 2 f fd ["_law_house", "_law_rooms", "_law_room"] (spConn K) := by
  have GN : FnOk P w K mg base CX0 1 fN fdN ["_law_house", "_law_room"] spLNb := ok_lnb DN.F T
  refine F.ok scConn (fun vs H Q E h => ?_) (fun cdv A outer s H vs Q E hr h => ?_)
  · obtain ⟨h, rl, n, D, R, g, rfl, _⟩ := h
    rfl
  · obtain ⟨h, rl, n, D, R, g, rfl, hH, hF, hn, hR, g0, g1, q⟩ := h
    refine ⟨_, pss_cons (ps_asg (pe_tup (pa_cons (pe_lst (pa_cons (pv 2) pa_nil)) (pa_cons pe_int pa_nil))) (pg_tup (by rfl) (pgs_cons (pg_name (i := 3) scConn.nd rfl (.inr rfl)) (pgs_cons (pg_name (i := 4) scConn.nd rfl (.inl rfl)) pgs_nil))))
      (pss_cons (ps_while PassesOwn.never (pt_cmpR op_lt (pv 4) (pe_callB call_len_seq (by rfl) T.len PySem.boot_len (pa_cons (pv 3) pa_nil)) (nomark _))
        (pss_cons (ps_expr (pe_bm PySem.F.plainAttrs_list PySem.F.slot_list_extend PySem.F.type_list_extend mt_extend (pv 3) (pa_cons
          (pe_lc (own := [("_law_there", 5)]) (g := gName 5) (tt := tAnd (tTest (tOp (rIn K false) (tVar 5) (tVar 1))) (tTest (tOp (rIn K true) (tVar 5) (tVar 3)))) (by rfl) scConn.nd
            (pi_list (pe_call GN hr (by rfl) DN.g DN.F.kp DN.b .nil pass0 (pa_cons (pv 0) (pa_cons (pe_ix ix_list (pv 3) (pv 4) (fun _ _ => rfl)) pa_nil))))
            (blkOk_by (own := [("_law_there", 5)]) (N := nConn) (sc := defScope sConn) (by decide +kernel)) (fun _ _ _ _ _ => pg_name (i := 5) scConn.nd rfl (Or.inl rfl))
            (fun _ _ _ _ _ => pts_one (PW.pt (pw_and (pt_cmpR op_in_seq (pv 5) (pv 1) (by rfl)) (pw_and1 (pt_cmpR op_notIn_seq (pv 5) (pv 3) (by rfl)))))) (fun _ _ _ _ _ => pv 5)) pa_nil)))
        (pss_one (ps_set (i := 4) scConn.nd rfl (.inl rfl) (pe_op op_add (pv 4) pe_int)))))
      (pss_one (ps_ret (pe_callTy call_tuple_of (by rfl) T.tuple (by decide +kernel) (pa_cons (pe_callB cr_sortedI (by rfl) T.sorted (by decide +kernel) (pa_cons (pv 3) pa_nil)) pa_nil))))), ?_⟩
    refine ⟨_, rfl, by show 1 ≤ sizeLine; decide, fun fl hfl => ⟨by show 2 ≤ sizeLine; decide, fun tp htp => ?_⟩⟩
    refine ⟨tp, _, rfl, SqT.of upd_same, rfl, _, _, rfl, _, _, rfl, rfl, ?_⟩
    have C0 : CAt D R n g [g] 0 := ⟨by simp, fun v hv => by rw [List.mem_singleton.mp hv]; exact ⟨.base, g0, g1⟩, by simp, fun v hv => (by simp at hv), Nat.zero_le _⟩
    refine ⟨fun m σ H' => ∃ (fnd : List Int) (sp : Nat) (y5 : Option V), σ = [some (.ref h), some (.ref rl), some (.int g), some (.ref fl), some (.int (sp : Int)), y5] ∧ Same H H' ∧ H' fl = some (.lst (vi fnd)) ∧ CAt D R n g fnd sp ∧ m = 9 - sp,
      ⟨_, [g], 0, none, rfl, (same_upd hfl).trans (same_upd htp), same_upd htp _ _ upd_same, C0, rfl⟩, ?_⟩
    rintro m σ H1 ⟨fnd, sp, y5, rfl, s1, ef, C, rfl⟩
    have hlen := C.len hn
    refine ⟨_, rfl, _, rfl, fl, _, rfl, .inl (SqL.of ef), _, _, rfl, rfl, _, rfl, ?_⟩
    refine ite2 (fun c => ?_) (fun c => ?_)
    · have c : sp < fnd.length := by
        have := of_decide_eq_true c
        rw [List.length_map] at this
        omega
      refine ⟨_, fun _ _ hh => hh, ?_⟩
      have ev : fnd[sp]? = some fnd[sp] := List.getElem?_eq_getElem c
      have hat : atI (vi fnd) (sp : Int) = some (V.int fnd[sp]) := atI_nat (by rw [List.getElem?_map, ev]; rfl)
      generalize fnd[sp] = v at ev hat
      refine ⟨_, rfl, .inl ⟨rfl, _, SqL.of ef⟩, _, rfl, _, rfl, _, rfl, fl, _, _, _, rfl, rfl, SqL.of ef, hat, h, n, D, v, rfl, hH.same s1, hF, fun H2 l s2 hl el => ?_⟩
      have ef2 := s2 _ _ ef
      have hR2 : SqL K H2 rl (vi R) ∨ SqT K H2 rl (vi R) := hR.imp (fun z => (s1.trans s2).seq z) (fun z => Same.sqT (s1.trans s2) z)
      refine ⟨l, rfl, ⟨_, SqL.of el⟩, fun L hL => lc_list (K := K) (a := l) (xs := vi (nb n D v)) (fun j H3 => Same H2 H3 ∧ H3 L = some (.lst (vi (((nb n D v).take j).filter (newp R fnd))))) ⟨same_upd hL, upd_same⟩ (fun j H3 _ hh => SqL.of (hh.1 _ _ el)) ?_ ?_⟩
      · rintro j x H3 hx ⟨s3, e3⟩
        obtain ⟨o, eo, rfl⟩ := get_vi hx
        refine ⟨rfl, ?_⟩
        refine tt_by (fun b H4 => H4 = H3 ∧ b = newp R fnd o) ?_ ?_
        · intro QQ hQ
          have hR3 : SqL K H3 rl (vi R) ∨ SqT K H3 rl (vi R) := hR2.imp (fun z => s3.seq z) (fun z => Same.sqT s3 z)
          refine ⟨_, rfl, _, rfl, rl, _, rfl, hR3, rfl, flat_ints R, _, rfl, ?_⟩
          show if (inV (.int o) (vi R)) = true then _ else _
          rw [inV_ints]
          refine ite2 (fun c1 => ?_) (fun c1 => ?_)
          · refine ⟨_, rfl, _, rfl, fl, _, rfl, .inl (SqL.of (s3 _ _ ef2)), rfl, flat_ints fnd, _, rfl, hQ _ _ ⟨rfl, ?_⟩⟩
            show (!inV (.int o) (vi fnd)) = _
            rw [inV_ints]
            unfold newp
            rw [c1, Bool.true_and]
          · refine hQ _ _ ⟨rfl, ?_⟩
            unfold newp
            rw [Bool.eq_false_iff.mpr c1, Bool.false_and]
        · rintro b H4 ⟨rfl, rfl⟩
          have jl : j < (nb n D v).length := (List.getElem?_eq_some_iff.mp eo).1
          have nl := nb_len n D v
          refine ite2 (fun c1 => ?_) (fun c1 => ?_)
          · refine ⟨_, rfl, _, e3, ?_, same_put s3 hL, ?_⟩
            · rw [List.length_map]
              refine small1000 (Nat.le_trans (List.length_filter_le _ _) ?_)
              rw [List.length_take]
              omega
            · rw [upd_same, filter_take_succ eo, if_pos c1, vi_app]
              rfl
          · refine ⟨s3, ?_⟩
            rw [filter_take_succ eo, if_neg c1, List.append_nil]
            exact e3
      · rintro H3 ⟨s3, e3⟩
        rw [List.length_map, List.take_length] at e3
        have ef3 := s3 _ _ ef2
        have C2 := C.next hF ev
        have len2 := C2.len hn
        refine ⟨fl, L, _, _, rfl, rfl, ef3, e3, ?_, ?_⟩
        · rw [List.length_append] at len2
          rw [List.length_map, List.length_map]
          exact Nat.le_of_lt (small1000 (by omega))
        refine ⟨_, rfl, _, _, rfl, rfl, ?_⟩
        refine ⟨9 - (sp + 1), by omega, fnd ++ (nb n D v).filter (newp R fnd), sp + 1, _, rfl, same_put (s1.trans (s2.trans s3)) hfl, ?_, C2, rfl⟩
        rw [upd_same, vi_app]
    · have c : ¬ sp < fnd.length := fun z => c (decide_eq_true (by rw [List.length_map]; omega))
      refine ⟨_, rfl, fl, _, rfl, SqL.of ef, fun ys p pm up hp => ⟨p, _, rfl, .inl ⟨SqL.of upd_same, fun t ht => ?_⟩⟩⟩
      exact q _ t ys (s1.trans ((same_upd hp).trans (same_upd ht))) upd_same (IsC.of pm up C.nd (C.done c)) (by rw [pm.length_eq]; omega)
end
end Fw
namespace Fw
open PySem PySem.Spec PyProof.Rows L2
open RZ
/-- the same value, to a depth -/
inductive Eqs (H : Hp) : Nat → V → V → Prop
  | non (k : Nat) : Eqs H k .non .non
  | int (k : Nat) (i : Int) : Eqs H k (.int i) (.int i)
  | bl (k : Nat) (b : Bool) : Eqs H k (.bl b) (.bl b)
  | str (k : Nat) (z : Str) : Eqs H k (.str z) (.str z)
  | tup {k : Nat} {a b : Addr} {xs ys : List V} : TpAt H a xs → TpAt H b ys → xs.length = ys.length → xs.length ≤ 500 → (∀ (i : Nat) x y, xs[i]? = some x → ys[i]? = some y → Eqs H k x y) → Eqs H (k + 1) (.ref a) (.ref b)
theorem Eqs.same {H H' : Hp} {k : Nat} {x y : V} (h : Eqs H k x y) (e : Same H H') : Eqs H' k x y := by
  induction h with
  | non k => exact .non k
  | int k i => exact .int k i
  | bl k i => exact .bl k i
  | str k i => exact .str k i
  | tup h1 h2 h3 h4 _ ih => exact .tup (h1.same e) (h2.same e) h3 h4 ih
theorem Eqs.ints {H : Hp} {k : Nat} {a b : Addr} {ns : List Int} (h1 : H a = some (.tup (vi ns))) (h2 : H b = some (.tup (vi ns))) (hl : ns.length ≤ 500) : Eqs H (k + 1) (.ref a) (.ref b) :=
  .tup (.inl h1) (.inl h2) rfl (by rw [List.length_map]; exact hl) fun i x y hx hy => by
    obtain ⟨v, _, rfl⟩ := get_vi hx
    rw [hx] at hy
    cases hy
    exact .int _ v
theorem Eqs.strs {H : Hp} {k : Nat} {a b : Addr} {ns : List Str} (h1 : H a = some (.tup (ns.map V.str))) (h2 : H b = some (.tup (ns.map V.str))) (hl : ns.length ≤ 500) : Eqs H (k + 1) (.ref a) (.ref b) :=
  .tup (.inl h1) (.inl h2) rfl (by rw [List.length_map]; exact hl) fun i x y hx hy => by
    obtain ⟨v, _, rfl⟩ := get_vs hx
    rw [hx] at hy
    cases hy
    exact .str _ v
theorem Eqs.pl {H : Hp} {k : Nat} {a b : Addr} {P : List (Str × Int)} (h1 : PlAt H a P) (h2 : PlAt H b P) (hl : P.length ≤ 500) : Eqs H (k + 2) (.ref a) (.ref b) := by
  obtain ⟨ps, e1, e2, e3⟩ := h1
  obtain ⟨qs, f1, f2, f3⟩ := h2
  have el : ps.length = qs.length := by
    have := congrArg List.length (e2.symm.trans f2)
    rw [List.length_map, List.length_map] at this
    exact this
  refine .tup e1 f1 (by rw [List.length_map, List.length_map, el]) (by rw [List.length_map]; rw [e2, List.length_map] at hl; exact hl) fun i x y hx hy => ?_
  rw [List.getElem?_map] at hx hy
  cases u : ps[i]? with
  | none => rw [u] at hx; cases hx
  | some p =>
    cases v : qs[i]? with
    | none => rw [v] at hy; cases hy
    | some q =>
      rw [u] at hx
      rw [v] at hy
      cases hx
      cases hy
      have e : p.2 = q.2 := by
        have h1 : P[i]? = some p.2 := by rw [e2, List.getElem?_map, u]; rfl
        have h2 : P[i]? = some q.2 := by rw [f2, List.getElem?_map, v]; rfl
        rw [h1] at h2
        exact Option.some.inj h2
      have g1 := e3 p (List.mem_of_getElem? u)
      have g2 := f3 q (List.mem_of_getElem? v)
      rw [← e] at g2
      refine .tup (.inl g1) (.inl g2) rfl (by show 2 ≤ 500; decide) fun j x y hx hy => ?_
      rw [hx] at hy
      cases hy
      match j, hx with
      | 0, hx => cases hx; exact .str _ _
      | 1, hx => cases hx; exact .int _ _
/-- how a zip of two tuples of one length walks -/
theorem both_walk {K : PySem.W.Frag} {a b : Addr} {xs ys : List V} (same : ys.length = xs.length) : Walk (ItzT K a b) xs.length (fun H => SqT K H a xs ∧ SqT K H b ys) (YPair (fun i => xs[i]?) fun i => ys[i]?) where
  goes i H lt q := ⟨_, _, _, _, q.1, q.2, List.getElem?_eq_getElem lt, List.getElem?_eq_getElem (same ▸ lt)⟩
  stops H q := ⟨_, _, q.1, q.2, .inl (Nat.le_refl _)⟩
  yields i H v H' _ q y := by
    obtain ⟨t, x, z, e1, e2, e3, e4, e5⟩ := y
    exact ⟨t, x, z, e1, e2, e3, e4 _ q.1, e5 _ q.2⟩

section
variable {P : Program} {w : World} {K : PySem.W.Frag} {mg : Str → Option Value} {base : Heap}
def spSame (k : Nat) : Sp := fun vs H Q _ => ∃ x y, vs = [x, y] ∧ Eqs H k x y ∧ ∀ H', Same H H' → Q (.bl true) H'
abbrev nSame : List Str := ["_law_found", "_law_expected", "_law_one", "_law_other"]
theorem scSame : FnScope nSame ["_law_found", "_law_expected"] (defScope sSame) := ⟨rfl, rfl, rfl, by decide +kernel, rfl, by decide +kernel, by decide +kernel⟩
theorem tp_tyS {K : PySem.W.Frag} {H : Hp} {p : Addr} {xs : List V} (h : TpAt H p xs) : TyX K H (.ref p) (.type "tuple") := h.elim (fun h => .base (.tup h)) fun ⟨_, _, h⟩ => .fTuple h
theorem k_it : kitB "int" "tuple" = some false := by decide +kernel
theorem k_ib : kitB "int" "bool" = some false := by decide +kernel
theorem k_ii : kitB "int" "int" = some true := by decide +kernel
theorem k_nt : kitB "NoneType" "tuple" = some false := by decide +kernel
theorem k_tt : kitB "tuple" "tuple" = some true := by decide +kernel
theorem k_bt : kitB "bool" "tuple" = some false := by decide +kernel
theorem k_bb : kitB "bool" "bool" = some true := by decide +kernel
theorem k_st : kitB "str" "tuple" = some false := by decide +kernel
theorem k_sb : kitB "str" "bool" = some false := by decide +kernel
theorem k_si : kitB "str" "int" = some false := by decide +kernel
theorem k_ss2 : kitB "str" "str" = some true := by decide +kernel
theorem ok_same0 {f : Addr} {fd : FuncData} (F : Fun K "_law_same" "_law_same" sSame f fd) (T : Nm mg) : FnOk P w K mg base CX0 1 f fd pSame (spSame 0) := by
  refine F.ok scSame (fun vs H Q E h => ?_) (fun cdv A outer s H vs Q E hr h => ?_)
  · obtain ⟨x, y, rfl, _⟩ := h
    rfl
  · obtain ⟨x, y, rfl, he, q⟩ := h
    refine ⟨_, (pss_cons (ps_if (pt_val (pe_callB call_isi (by rfl) T.isinstance (by decide +kernel) (pa_cons (pv 1) (pa_cons (pe_bltn (v := .ty "tuple") (by rfl) T.tuple (by decide +kernel) rfl) pa_nil))))
      pss_never
      pss_nil)
      (pss_cons (ps_if (PW.pt (pw_or (pt_cmp (pc_isN (pv 1))) (pw_or1 (pt_cmp (pc_isN (pv 0))))))
      (pss_one (ps_ret (pe_and (pe_cmp (pc_isN (pv 1)) rfl) (pe_one (pe_cmp (pc_isN (pv 0)) rfl)))))
      pss_nil)
      (pss_cons (ps_if (PW.pt (pw_or (pt_val (pe_callB call_isi (by rfl) T.isinstance (by decide +kernel) (pa_cons (pv 1) (pa_cons (pe_bltn (v := .ty "bool") (by rfl) T.bool (by decide +kernel) rfl) pa_nil)))) (pw_or1 (pt_val (pe_callB call_isi (by rfl) T.isinstance (by decide +kernel) (pa_cons (pv 0) (pa_cons (pe_bltn (v := .ty "bool") (by rfl) T.bool (by decide +kernel) rfl) pa_nil)))))))
      (pss_one (ps_ret (pe_and (pe_callB call_isi (by rfl) T.isinstance (by decide +kernel) (pa_cons (pv 1) (pa_cons (pe_bltn (v := .ty "bool") (by rfl) T.bool (by decide +kernel) rfl) pa_nil))) (pe_and (pe_callB call_isi (by rfl) T.isinstance (by decide +kernel) (pa_cons (pv 0) (pa_cons (pe_bltn (v := .ty "bool") (by rfl) T.bool (by decide +kernel) rfl) pa_nil))) (pe_one (pe_cmpR op_eq (pv 0) (pv 1) (nomark _)))))))
      pss_nil)
      (pss_cons (ps_if (pt_val (pe_callB call_isi (by rfl) T.isinstance (by decide +kernel) (pa_cons (pv 1) (pa_cons (pe_bltn (v := .ty "int") (by rfl) T.int (by decide +kernel) rfl) pa_nil))))
      (pss_one (ps_ret (pe_and (pe_callB call_isi (by rfl) T.isinstance (by decide +kernel) (pa_cons (pv 0) (pa_cons (pe_bltn (v := .ty "int") (by rfl) T.int (by decide +kernel) rfl) pa_nil))) (pe_one (pe_cmpR op_eq (pv 0) (pv 1) (nomark _))))))
      pss_nil)
      (pss_cons (ps_if (PW.pt (pw_or (pt_val (pe_callB call_isi (by rfl) T.isinstance (by decide +kernel) (pa_cons (pv 1) (pa_cons (pe_bltn (v := .ty "str") (by rfl) T.str (by decide +kernel) rfl) pa_nil)))) (pw_or1 (pt_val (pe_callB call_isi (by rfl) T.isinstance (by decide +kernel) (pa_cons (pv 0) (pa_cons (pe_bltn (v := .ty "str") (by rfl) T.str (by decide +kernel) rfl) pa_nil)))))))
      (pss_one (ps_ret (pe_and (pe_callB call_isi (by rfl) T.isinstance (by decide +kernel) (pa_cons (pv 1) (pa_cons (pe_bltn (v := .ty "str") (by rfl) T.str (by decide +kernel) rfl) pa_nil))) (pe_and (pe_callB call_isi (by rfl) T.isinstance (by decide +kernel) (pa_cons (pv 0) (pa_cons (pe_bltn (v := .ty "str") (by rfl) T.str (by decide +kernel) rfl) pa_nil))) (pe_one (pe_cmpR op_eq (pv 0) (pv 1) (nomark _)))))))
      pss_nil)
      pss_never))))), ?_⟩
    cases he with
    | non =>
      refine ⟨_, rfl, _, _, _, _, _, rfl, .ty _, .base .non, kit_ty k_nt, _, rfl, iteF ?_⟩
      refine ⟨_, rfl, _, rfl, iteT (iteT ?_)⟩
      exact ⟨_, rfl, _, rfl, iteT ⟨_, rfl, q _ (Same.refl _)⟩⟩
    | int _ i =>
      refine ⟨_, rfl, _, _, _, _, _, rfl, .ty _, .base (.int _), kit_ty k_it, _, rfl, iteF ?_⟩
      refine ⟨_, rfl, _, rfl, iteF ⟨_, rfl, _, rfl, iteF ?_⟩⟩
      refine ⟨_, rfl, _, _, _, _, _, rfl, .ty _, .base (.int _), kit_ty k_ib, _, rfl, iteF ⟨_, rfl, _, _, _, _, _, rfl, .ty _, .base (.int _), kit_ty k_ib, _, rfl, iteF ?_⟩⟩
      refine ⟨_, rfl, _, _, _, _, _, rfl, .ty _, .base (.int _), kit_ty k_ii, _, rfl, iteT ?_⟩
      refine ⟨_, rfl, _, _, _, _, _, rfl, .ty _, .base (.int _), kit_ty k_ii, _, rfl, iteT ⟨_, rfl, _, rfl, rfl, ?_⟩⟩
      rw [decide_eq_true rfl]
      exact q _ (Same.refl _)
    | bl _ b =>
      refine ⟨_, rfl, _, _, _, _, _, rfl, .ty _, .base (.bl _), kit_ty k_bt, _, rfl, iteF ?_⟩
      refine ⟨_, rfl, _, rfl, iteF ⟨_, rfl, _, rfl, iteF ?_⟩⟩
      refine ⟨_, rfl, _, _, _, _, _, rfl, .ty _, .base (.bl _), kit_ty k_bb, _, rfl, iteT (iteT ?_)⟩
      refine ⟨_, rfl, _, _, _, _, _, rfl, .ty _, .base (.bl _), kit_ty k_bb, _, rfl, iteT ⟨_, rfl, _, _, _, _, _, rfl, .ty _, .base (.bl _), kit_ty k_bb, _, rfl, iteT ⟨_, rfl, _, rfl, rfl, ?_⟩⟩⟩
      rw [decide_eq_true rfl]
      exact q _ (Same.refl _)
    | str _ z =>
      refine ⟨_, rfl, _, _, _, _, _, rfl, .ty _, .base (.str _), kit_ty k_st, _, rfl, iteF ?_⟩
      refine ⟨_, rfl, _, rfl, iteF ⟨_, rfl, _, rfl, iteF ?_⟩⟩
      refine ⟨_, rfl, _, _, _, _, _, rfl, .ty _, .base (.str _), kit_ty k_sb, _, rfl, iteF ⟨_, rfl, _, _, _, _, _, rfl, .ty _, .base (.str _), kit_ty k_sb, _, rfl, iteF ?_⟩⟩
      refine ⟨_, rfl, _, _, _, _, _, rfl, .ty _, .base (.str _), kit_ty k_si, _, rfl, iteF ?_⟩
      refine ⟨_, rfl, _, _, _, _, _, rfl, .ty _, .base (.str _), kit_ty k_ss2, _, rfl, iteT (iteT ?_)⟩
      refine ⟨_, rfl, _, _, _, _, _, rfl, .ty _, .base (.str _), kit_ty k_ss2, _, rfl, iteT ⟨_, rfl, _, _, _, _, _, rfl, .ty _, .base (.str _), kit_ty k_ss2, _, rfl, iteT ⟨_, rfl, _, rfl, rfl, ?_⟩⟩⟩
      rw [decide_eq_true rfl]
      exact q _ (Same.refl _)

/-- one level more -/
theorem ok_sameS {f : Addr} {fd : FuncData} {k : Nat} (F : Fun K "_law_same" "_law_same" sSame f fd) (T : Nm mg) (C_law_same : Cal P w K mg base (k + 1) "_law_same" pSame (spSame k)) : FnOk P w K mg base CX0 (k + 2) f fd pSame (spSame (k + 1)) := by
  refine F.ok scSame (fun vs H Q E h => ?_) (fun cdv A outer s H vs Q E hr h => ?_)
  · obtain ⟨x, y, rfl, _⟩ := h
    rfl
  · obtain ⟨x, y, rfl, he, q⟩ := h
    refine ⟨_, (pss_cons (ps_if (pt_val (pe_callB call_isi (by rfl) T.isinstance (by decide +kernel) (pa_cons (pv 1) (pa_cons (pe_bltn (v := .ty "tuple") (by rfl) T.tuple (by decide +kernel) rfl) pa_nil))))
      (pss_cons (ps_if (PW.pt (pw_or (pt_not (pt_val (pe_callB call_isi (by rfl) T.isinstance (by decide +kernel) (pa_cons (pv 0) (pa_cons (pe_bltn (v := .ty "tuple") (by rfl) T.tuple (by decide +kernel) rfl) pa_nil))))) (pw_or1 (pt_cmpR op_ne (pe_callB (call_lenK K rfl) (by rfl) T.len (by decide +kernel) (pa_cons (pv 0) pa_nil)) (pe_callB (call_lenK K rfl) (by rfl) T.len (by decide +kernel) (pa_cons (pv 1) pa_nil)) (nomark _)))))
       pss_never
       pss_nil)
       (pss_one (ps_ret (pe_callB (cr_all rfl) (by rfl) T.all (by decide +kernel) (pa_cons (pe_lc (own := [("_law_one", 2), ("_law_other", 3)]) (g := gTup K 2 (gCons (gName 2) (gCons (gName 3) gNil))) (by rfl) scSame.nd (pi_zipA (by rfl) T.zip (pa_cons (pv 0) (pa_cons (pv 1) pa_nil)))
 (blkOk_by (own := [("_law_one", 2), ("_law_other", 3)]) (N := nSame) (sc := defScope sSame) (by decide +kernel))
 (fun _ _ _ _ _ => (pg_tup (by rfl) (pgs_cons (pg_name (i := 2) scSame.nd rfl (.inl rfl)) (pgs_cons (pg_name (i := 3) scSame.nd rfl (.inl rfl)) pgs_nil)))) (fun _ _ _ _ _ => pts_nil) (fun _ _ _ _ _ => (pe_cal C_law_same hr (by rfl) (pa_cons (pv 2) (pa_cons (pv 3) pa_nil))))) pa_nil)))))
      pss_nil)
      (pss_cons (ps_if (PW.pt (pw_or (pt_cmp (pc_isN (pv 1))) (pw_or1 (pt_cmp (pc_isN (pv 0))))))
      (pss_one (ps_ret (pe_and (pe_cmp (pc_isN (pv 1)) rfl) (pe_one (pe_cmp (pc_isN (pv 0)) rfl)))))
      pss_nil)
      (pss_cons (ps_if (PW.pt (pw_or (pt_val (pe_callB call_isi (by rfl) T.isinstance (by decide +kernel) (pa_cons (pv 1) (pa_cons (pe_bltn (v := .ty "bool") (by rfl) T.bool (by decide +kernel) rfl) pa_nil)))) (pw_or1 (pt_val (pe_callB call_isi (by rfl) T.isinstance (by decide +kernel) (pa_cons (pv 0) (pa_cons (pe_bltn (v := .ty "bool") (by rfl) T.bool (by decide +kernel) rfl) pa_nil)))))))
      (pss_one (ps_ret (pe_and (pe_callB call_isi (by rfl) T.isinstance (by decide +kernel) (pa_cons (pv 1) (pa_cons (pe_bltn (v := .ty "bool") (by rfl) T.bool (by decide +kernel) rfl) pa_nil))) (pe_and (pe_callB call_isi (by rfl) T.isinstance (by decide +kernel) (pa_cons (pv 0) (pa_cons (pe_bltn (v := .ty "bool") (by rfl) T.bool (by decide +kernel) rfl) pa_nil))) (pe_one (pe_cmpR op_eq (pv 0) (pv 1) (nomark _)))))))
      pss_nil)
      (pss_cons (ps_if (pt_val (pe_callB call_isi (by rfl) T.isinstance (by decide +kernel) (pa_cons (pv 1) (pa_cons (pe_bltn (v := .ty "int") (by rfl) T.int (by decide +kernel) rfl) pa_nil))))
      (pss_one (ps_ret (pe_and (pe_callB call_isi (by rfl) T.isinstance (by decide +kernel) (pa_cons (pv 0) (pa_cons (pe_bltn (v := .ty "int") (by rfl) T.int (by decide +kernel) rfl) pa_nil))) (pe_one (pe_cmpR op_eq (pv 0) (pv 1) (nomark _))))))
      pss_nil)
      (pss_cons (ps_if (PW.pt (pw_or (pt_val (pe_callB call_isi (by rfl) T.isinstance (by decide +kernel) (pa_cons (pv 1) (pa_cons (pe_bltn (v := .ty "str") (by rfl) T.str (by decide +kernel) rfl) pa_nil)))) (pw_or1 (pt_val (pe_callB call_isi (by rfl) T.isinstance (by decide +kernel) (pa_cons (pv 0) (pa_cons (pe_bltn (v := .ty "str") (by rfl) T.str (by decide +kernel) rfl) pa_nil)))))))
      (pss_one (ps_ret (pe_and (pe_callB call_isi (by rfl) T.isinstance (by decide +kernel) (pa_cons (pv 1) (pa_cons (pe_bltn (v := .ty "str") (by rfl) T.str (by decide +kernel) rfl) pa_nil))) (pe_and (pe_callB call_isi (by rfl) T.isinstance (by decide +kernel) (pa_cons (pv 0) (pa_cons (pe_bltn (v := .ty "str") (by rfl) T.str (by decide +kernel) rfl) pa_nil))) (pe_one (pe_cmpR op_eq (pv 0) (pv 1) (nomark _)))))))
      pss_nil)
      pss_never))))), ?_⟩
    cases he with
    | non =>
      refine ⟨_, rfl, _, _, _, _, _, rfl, .ty _, .base .non, kit_ty k_nt, _, rfl, iteF ?_⟩
      refine ⟨_, rfl, _, rfl, iteT (iteT ?_)⟩
      exact ⟨_, rfl, _, rfl, iteT ⟨_, rfl, q _ (Same.refl _)⟩⟩
    | int _ i =>
      refine ⟨_, rfl, _, _, _, _, _, rfl, .ty _, .base (.int _), kit_ty k_it, _, rfl, iteF ?_⟩
      refine ⟨_, rfl, _, rfl, iteF ⟨_, rfl, _, rfl, iteF ?_⟩⟩
      refine ⟨_, rfl, _, _, _, _, _, rfl, .ty _, .base (.int _), kit_ty k_ib, _, rfl, iteF ⟨_, rfl, _, _, _, _, _, rfl, .ty _, .base (.int _), kit_ty k_ib, _, rfl, iteF ?_⟩⟩
      refine ⟨_, rfl, _, _, _, _, _, rfl, .ty _, .base (.int _), kit_ty k_ii, _, rfl, iteT ?_⟩
      refine ⟨_, rfl, _, _, _, _, _, rfl, .ty _, .base (.int _), kit_ty k_ii, _, rfl, iteT ⟨_, rfl, _, rfl, rfl, ?_⟩⟩
      rw [decide_eq_true rfl]
      exact q _ (Same.refl _)
    | bl _ b =>
      refine ⟨_, rfl, _, _, _, _, _, rfl, .ty _, .base (.bl _), kit_ty k_bt, _, rfl, iteF ?_⟩
      refine ⟨_, rfl, _, rfl, iteF ⟨_, rfl, _, rfl, iteF ?_⟩⟩
      refine ⟨_, rfl, _, _, _, _, _, rfl, .ty _, .base (.bl _), kit_ty k_bb, _, rfl, iteT (iteT ?_)⟩
      refine ⟨_, rfl, _, _, _, _, _, rfl, .ty _, .base (.bl _), kit_ty k_bb, _, rfl, iteT ⟨_, rfl, _, _, _, _, _, rfl, .ty _, .base (.bl _), kit_ty k_bb, _, rfl, iteT ⟨_, rfl, _, rfl, rfl, ?_⟩⟩⟩
      rw [decide_eq_true rfl]
      exact q _ (Same.refl _)
    | str _ z =>
      refine ⟨_, rfl, _, _, _, _, _, rfl, .ty _, .base (.str _), kit_ty k_st, _, rfl, iteF ?_⟩
      refine ⟨_, rfl, _, rfl, iteF ⟨_, rfl, _, rfl, iteF ?_⟩⟩
      refine ⟨_, rfl, _, _, _, _, _, rfl, .ty _, .base (.str _), kit_ty k_sb, _, rfl, iteF ⟨_, rfl, _, _, _, _, _, rfl, .ty _, .base (.str _), kit_ty k_sb, _, rfl, iteF ?_⟩⟩
      refine ⟨_, rfl, _, _, _, _, _, rfl, .ty _, .base (.str _), kit_ty k_si, _, rfl, iteF ?_⟩
      refine ⟨_, rfl, _, _, _, _, _, rfl, .ty _, .base (.str _), kit_ty k_ss2, _, rfl, iteT (iteT ?_)⟩
      refine ⟨_, rfl, _, _, _, _, _, rfl, .ty _, .base (.str _), kit_ty k_ss2, _, rfl, iteT ⟨_, rfl, _, _, _, _, _, rfl, .ty _, .base (.str _), kit_ty k_ss2, _, rfl, iteT ⟨_, rfl, _, rfl, rfl, ?_⟩⟩⟩
      rw [decide_eq_true rfl]
      exact q _ (Same.refl _)
    | @tup _ a b xs ys h1 h2 h3 h4 h5 =>
      refine ⟨_, rfl, _, _, _, _, _, rfl, .ty _, tp_tyS h2, kit_ty k_tt, _, rfl, iteT ?_⟩
      refine ⟨_, rfl, _, _, _, _, _, rfl, .ty _, tp_tyS h1, kit_ty k_tt, _, rfl, iteF ⟨_, rfl, a, _, rfl, .inr h1.sq, _, rfl, b, _, rfl, .inr h2.sq, rfl, _, rfl, iteNS (by rw [h3]) ?_⟩⟩
      refine ⟨_, rfl, _, rfl, a, b, xs, ys, rfl, .inr ⟨h1.sq, h2.sq, fun L hL => lc_it (both_walk (K := K) (a := a) (b := b) (xs := xs) (ys := ys) h3.symm) (fun i H1 => Same H H1 ∧ H1 L = some (.lst ((List.replicate i true).map V.bl)))
        ⟨same_upd hL, upd_same⟩ (fun i H1 _ hh => ⟨(h1.same hh.1).sq, (h2.same hh.1).sq⟩) ?_ ?_⟩⟩
      · rintro i _ H1 _ hlt ⟨s1, e1⟩ ⟨t, x, y, rfl, ht, rfl, hx, hy⟩
        refine ⟨t, _, rfl, SqT.of upd_same, rfl, _, _, rfl, _, _, rfl, rfl, rfl, ?_⟩
        unfold tYes
        refine iteT ?_
        refine ⟨_, rfl, _, rfl, x, y, rfl, (h5 i x y hx hy).same (s1.trans (same_upd ht)), fun H2 s2 => ⟨_, s2 _ _ (same_upd ht _ _ e1), ?_, same_put (s1.trans ((same_upd ht).trans s2)) hL, ?_⟩⟩
        · rw [List.length_map, List.length_replicate]
          exact small1000 (by omega)
        · rw [upd_same, List.replicate_succ', List.map_append]
          rfl
      · rintro H1 ⟨s1, e1⟩
        refine ⟨L, List.replicate xs.length true, rfl, SqL.of e1, ?_⟩
        rw [show (List.replicate xs.length true).all id = true by simp]
        exact q _ s1
theorem cal_same (D : DefE K mg "_law_same" sSame pSame) (T : Nm mg) : ∀ k : Nat, Cal P w K mg base (k + 1) "_law_same" pSame (spSame k)
  | 0 => D.cal fun _ _ d => ok_same0 d.F T
  | k + 1 => D.cal fun _ _ d => ok_sameS d.F T (cal_same D T k)
end
end Fw
namespace Fw
open PySem PySem.Spec PyProof.Rows L2
/-- data that can be shown -/
structure Sw (b : Nat) (d : PyData) : Prop where
  s : d.showable = true
  n : d.hasDict = false
  p : d.depth ≤ 10
  l : d.leavesShort 13 = true
  k : d.bulk ≤ b
theorem Sw.shows {b : Nat} {d : PyData} (h : Sw b d) (hb : b ≤ 2 ^ 20) : Shows d := ⟨h.s, h.n, Nat.le_trans h.p (by decide), PyData.shown_fits_bulk (B := 13) (by decide) (by decide) h.l (Nat.le_trans h.k hb)⟩
def pp (x : Str × Int) : PyData := .tuple [.str x.1, .int x.2]
def pld (P : List (Str × Int)) : PyData := .tuple (P.map pp)
theorem pps_all {P : List (Str × Int)} (h : ∀ x ∈ P, Nam x.1 ∧ 0 ≤ x.2 ∧ x.2 ≤ 100) : PyData.showableAll (P.map pp) = true ∧ PyData.hasDictAll (P.map pp) = false ∧ PyData.depthAll (P.map pp) ≤ 1 ∧ PyData.leavesShortAll 13 (P.map pp) = true ∧ PyData.bulkAll (P.map pp) ≤ 20 * P.length := by
  induction P with
  | nil => simp [PyData.showableAll, PyData.hasDictAll, PyData.depthAll, PyData.leavesShortAll, PyData.bulkAll]
  | cons x P ih =>
    obtain ⟨i1, i2, i3, i4, i5⟩ := ih fun y hy => h y (List.mem_cons_of_mem _ hy)
    obtain ⟨hn, a0, a1⟩ := h x (List.mem_cons_self ..)
    have s1 := PyData.shown_int_le2 (i := x.2) (by omega) (by omega)
    have sz : x.1.cps.size ≤ 8 := hn.2.1
    have al : (x.1.cps.toList.all fun c => decide (c < 16 ^ 8)) = true := by
      rw [List.all_eq_true]
      intro c hc
      have := hn.2.2 c hc
      exact decide_eq_true (by omega)
    rw [List.map_cons]
    refine ⟨?_, ?_, ?_, ?_, ?_⟩
    · simp only [pp, PyData.showableAll, PyData.showable, i1, Bool.and_true]
      rw [decide_eq_true (log_small a0 a1)]
      rfl
    · simp only [pp, PyData.hasDictAll, PyData.hasDict, i2, Bool.or_false]
    · simp only [pp, PyData.depthAll, PyData.depth]
      omega
    · simp only [pp, PyData.leavesShortAll, PyData.leavesShort, i4, Bool.and_true]
      rw [decide_eq_true s1, al]
      rfl
    · simp only [pp, PyData.bulkAll, PyData.bulk, List.length_cons]
      omega
theorem pld_sw {P : List (Str × Int)} (h : ∀ x ∈ P, Nam x.1 ∧ 0 ≤ x.2 ∧ x.2 ≤ 100) : Sw (20 * P.length) (pld P) := by
  obtain ⟨i1, i2, i3, i4, i5⟩ := pps_all h
  exact ⟨by simp only [pld, PyData.showable, i1], by simp only [pld, PyData.hasDict, i2], by simp only [pld, PyData.depth]; omega, by simp only [pld, PyData.leavesShort, i4], by simp only [pld, PyData.bulk]; exact i5⟩
theorem Pl.sw {n : Int} {P : List (Str × Int)} (h : Pl n P) (hn : n ≤ 8) (lP : P.length ≤ 100) : Sw 2000 (pld P) := by
  have := pld_sw (P := P) fun x hx => ⟨h.nm.nam _ (List.mem_map_of_mem (f := (·.1)) hx), (h.rm x hx).1, by have := (h.rm x hx).2; omega⟩
  exact ⟨this.s, this.n, this.p, this.l, Nat.le_trans this.k (by omega)⟩
theorem hd_sw {n : Int} {D : List (Int × Int)} (f : Forest n D) (n0 : 0 ≤ n) (n1 : n ≤ 8) : Sw 100 (hd n D) := by
  have h : ∀ d ∈ D, 0 ≤ d.1 ∧ d.1 ≤ 100 ∧ 0 ≤ d.2 ∧ d.2 ≤ 100 := fun d hd => by
    have := f.ends (a := d.1) (b := d.2) hd
    omega
  have hl : D.length ≤ 8 := f.len
  obtain ⟨i1, i2⟩ := pds_show h
  have s1 := PyData.shown_int_le2 (i := n) (by omega) (by omega)
  have dp := pd_deep D
  refine ⟨?_, ?_, ?_, ?_, ?_⟩
  · simp only [hd, PyData.showable, PyData.showableAll, Bool.and_true, i1]
    rw [decide_eq_true (log_small n0 (by omega))]
  · simp only [hd, PyData.hasDict, PyData.hasDictAll, Bool.or_false, Bool.false_or]
    exact pds_nodict D
  · simp only [hd, PyData.depth, PyData.depthAll]
    omega
  · simp only [hd, PyData.leavesShort, PyData.leavesShortAll, Bool.and_true, i2]
    rw [decide_eq_true s1]
  · simp only [hd, PyData.bulk, PyData.bulkAll, pds_bulk]
    omega
theorem sw2 {b c : Nat} {d e : PyData} (x : Sw b d) (y : Sw c e) (h1 : d.depth ≤ 8) (h2 : e.depth ≤ 8) : Sw (b + c + 2) (.list [d, e]) := by
  refine ⟨?_, ?_, ?_, ?_, ?_⟩
  · simp only [PyData.showable, PyData.showableAll, x.s, y.s, Bool.and_true]
  · simp only [PyData.hasDict, PyData.hasDictAll, x.n, y.n, Bool.or_false]
  · simp only [PyData.depth, PyData.depthAll]
    omega
  · simp only [PyData.leavesShort, PyData.leavesShortAll, x.l, y.l, Bool.and_true]
  · simp only [PyData.bulk, PyData.bulkAll]
    have := x.k
    have := y.k
    omega
theorem sw3 {a b c : Nat} {d e f : PyData} (x : Sw a d) (y : Sw b e) (z : Sw c f) (h1 : d.depth ≤ 8) (h2 : e.depth ≤ 8) (h3 : f.depth ≤ 8) : Sw (a + b + c + 3) (.list [d, e, f]) := by
  refine ⟨?_, ?_, ?_, ?_, ?_⟩
  · simp only [PyData.showable, PyData.showableAll, x.s, y.s, z.s, Bool.and_true]
  · simp only [PyData.hasDict, PyData.hasDictAll, x.n, y.n, z.n, Bool.or_false]
  · simp only [PyData.depth, PyData.depthAll]
    omega
  · simp only [PyData.leavesShort, PyData.leavesShortAll, x.l, y.l, z.l, Bool.and_true]
  · simp only [PyData.bulk, PyData.bulkAll]
    have := x.k
    have := y.k
    have := z.k
    omega
theorem hd_deep (n : Int) (D : List (Int × Int)) : (hd n D).depth ≤ 8 := by
  have dp := pd_deep D
  simp only [hd, PyData.depth, PyData.depthAll]
  omega
theorem pps_deep (P : List (Str × Int)) : PyData.depthAll (P.map pp) ≤ 1 := by
  induction P with
  | nil => simp [PyData.depthAll]
  | cons x P ih =>
    rw [List.map_cons]
    simp only [pp, PyData.depthAll, PyData.depth]
    omega
theorem pld_deep (P : List (Str × Int)) : (pld P).depth ≤ 8 := by
  have := pps_deep P
  simp only [pld, PyData.depth]
  omega
theorem dp_pps {K : PySem.W.Frag} {H : Hp} : ∀ {ps : List (Addr × Str × Int)}, (∀ p ∈ ps, H p.1 = some (.tup [.str p.2.1, .int p.2.2])) → DpAll K H (ps.map fun p => V.ref p.1) ((ps.map (·.2)).map pp)
  | [], _ => .nil
  | p :: ps, h => .cons (.tup (SqT.of (h p (List.mem_cons_self ..))) (.cons (.str _) (.cons (.int _) .nil))) (dp_pps fun q hq => h q (List.mem_cons_of_mem _ hq))
theorem PlAt.dp {K : PySem.W.Frag} {H : Hp} {p : Addr} {P : List (Str × Int)} (x : PlAt H p P) : Dp K H (.ref p) (pld P) := by
  obtain ⟨ps, h1, h2, h3⟩ := x
  rw [h2]
  exact .tup h1.sq (dp_pps h3)
theorem sw2T {b c : Nat} {d e : PyData} (x : Sw b d) (y : Sw c e) (h1 : d.depth ≤ 8) (h2 : e.depth ≤ 8) : Sw (b + c + 2) (.tuple [d, e]) := by
  refine ⟨?_, ?_, ?_, ?_, ?_⟩
  · simp only [PyData.showable, PyData.showableAll, x.s, y.s, Bool.and_true]
  · simp only [PyData.hasDict, PyData.hasDictAll, x.n, y.n, Bool.or_false]
  · simp only [PyData.depth, PyData.depthAll]
    omega
  · simp only [PyData.leavesShort, PyData.leavesShortAll, x.l, y.l, Bool.and_true]
  · simp only [PyData.bulk, PyData.bulkAll]
    have := x.k
    have := y.k
    omega
/-- (house, placement) -/
def hpT (n : Int) (D : List (Int × Int)) (P : List (Str × Int)) : PyData := .tuple [hd n D, pld P]
theorem hpT_shows {n : Int} {D : List (Int × Int)} {P : List (Str × Int)} (f : Forest n D) (n0 : 0 ≤ n) (n1 : n ≤ 8) (h : Pl n P) (lP : P.length ≤ 100) : Shows (hpT n D P) :=
  (sw2T (hd_sw f n0 n1) (h.sw n1 lP) (hd_deep _ _) (pld_deep _)).shows (by decide)
theorem hpT_dp {K : PySem.W.Frag} {H : Hp} {l h p : Addr} {n : Int} {D : List (Int × Int)} {P : List (Str × Int)} (e : H l = some (.tup [.ref h, .ref p])) (x : HouseAt H h n D) (y : PlAt H p P) : Dp K H (.ref l) (hpT n D P) :=
  .tup (SqT.of e) (.cons x.dp (.cons y.dp .nil))
/-- [house, placement] -/
def hpd (n : Int) (D : List (Int × Int)) (P : List (Str × Int)) : PyData := .list [hd n D, pld P]
theorem hp_shows {n : Int} {D : List (Int × Int)} {P : List (Str × Int)} (f : Forest n D) (n0 : 0 ≤ n) (n1 : n ≤ 8) (h : Pl n P) (lP : P.length ≤ 100) : Shows (hpd n D P) :=
  (sw2 (hd_sw f n0 n1) (h.sw n1 lP) (hd_deep _ _) (pld_deep _)).shows (by decide)
theorem hp_dp {K : PySem.W.Frag} {H : Hp} {l h p : Addr} {n : Int} {D : List (Int × Int)} {P : List (Str × Int)} (e : H l = some (.lst [.ref h, .ref p])) (x : HouseAt H h n D) (y : PlAt H p P) : Dp K H (.ref l) (hpd n D P) :=
  .lst (SqL.of e) (.cons x.dp (.cons y.dp .nil))
theorem pps_lay : ∀ {X : List (Str × Int)}, (∀ x ∈ X, Nam x.1) → PyData.canLayAll0 (X.map pp) = true
  | [], _ => by simp [PyData.canLayAll0]
  | x :: X, h => by
    rw [List.map_cons, PyData.canLayAll0, pps_lay fun y hy => h y (List.mem_cons_of_mem _ hy)]
    simp [pp, PyData.canLay0, PyData.canLayAll0, nam_ok (h x (List.mem_cons_self ..))]
theorem pps_shapedL {X : List (Str × Int)} (h : ∀ x ∈ X, Nam x.1) : SeqAt.shaped (.list (X.map pp)) = true := by
  unfold SeqAt.shaped
  rw [PyData.canLay0, pps_lay h, PyData.depth]
  have := pps_deep X
  simp
  omega
theorem pld_shaped {X : List (Str × Int)} (h : ∀ x ∈ X, Nam x.1) : SeqAt.shaped (pld X) = true := by
  unfold SeqAt.shaped pld
  rw [PyData.canLay0, pps_lay h, PyData.depth]
  have := pps_deep X
  simp
  omega
theorem Pl.nams {n : Int} {P : List (Str × Int)} (h : Pl n P) : ∀ x ∈ P, Nam x.1 := fun x hx => h.nm.nam _ (List.mem_map_of_mem (f := (·.1)) hx)
theorem eqv_nilP (X : List (Str × Int)) : PyData.eqv (.list (X.map pp)) (.list []) = X.isEmpty := by
  rw [PyData.eqv]
  cases X with
  | nil => rw [List.map_nil, PyData.eqvAll]; rfl
  | cons n ns => rw [List.map_cons, PyData.eqvAll]; rfl
/-- [house, placement, target] -/
def hptd (n : Int) (D : List (Int × Int)) (P G : List (Str × Int)) : PyData := .list [hd n D, pld P, pld G]
theorem hpt_shows {n : Int} {D : List (Int × Int)} {P G : List (Str × Int)} (f : Forest n D) (n0 : 0 ≤ n) (n1 : n ≤ 8) (h : Pl n P) (lP : P.length ≤ 100) (k : Pl n G) (lG : G.length ≤ 100) : Shows (hptd n D P G) :=
  (sw3 (hd_sw f n0 n1) (h.sw n1 lP) (k.sw n1 lG) (hd_deep _ _) (pld_deep _) (pld_deep _)).shows (by decide)
theorem hpt_dp {K : PySem.W.Frag} {H : Hp} {l h p g : Addr} {n : Int} {D : List (Int × Int)} {P G : List (Str × Int)} (e : H l = some (.lst [.ref h, .ref p, .ref g])) (x : HouseAt H h n D) (y : PlAt H p P) (z : PlAt H g G) : Dp K H (.ref l) (hptd n D P G) :=
  .lst (SqL.of e) (.cons x.dp (.cons y.dp (.cons z.dp .nil)))
end Fw
namespace Fw
open PySem PySem.Spec PyProof.Rows L2
/-! ### dicts by names -/
def dk (F : List (Str × V)) : List (Key × V) := F.map fun x => (Sum.inr x.1, x.2)
theorem valV_none {F : List (Str × V)} {nm : Str} (h : nm ∉ F.map (·.1)) : valV (dk F) (Sum.inr nm) = none := by
  induction F with
  | nil => rfl
  | cons x F ih =>
    rw [List.map_cons, List.mem_cons, not_or] at h
    show valV ((Sum.inr x.1, x.2) :: dk F) _ = none
    rw [valV_neg (fun e => h.1 (Sum.inr.inj e).symm)]
    exact ih h.2
theorem valV_dk {F : List (Str × V)} (nd : (F.map (·.1)).Nodup) {nm : Str} {v : V} (h : (nm, v) ∈ F) : valV (dk F) (Sum.inr nm) = some v := by
  induction F with
  | nil => cases h
  | cons x F ih =>
    rw [List.map_cons, List.nodup_cons] at nd
    rcases List.mem_cons.mp h with e | m
    · subst e
      exact valV_pos rfl
    · show valV ((Sum.inr x.1, x.2) :: dk F) _ = _
      rw [valV_neg (fun e => nd.1 (by rw [Sum.inr.inj e]; exact List.mem_map_of_mem (f := (·.1)) m))]
      exact ih nd.2 m
theorem merge_app : ∀ {F G : List (Str × V)}, ((F ++ G).map (·.1)).Nodup → mergeK (dk F) (dk G) = dk (F ++ G)
  | F, [], _ => by rw [List.append_nil]; rfl
  | F, x :: G, nd => by
    have n1 : x.1 ∉ F.map (·.1) := fun m => by
      rw [List.map_append, List.map_cons, List.nodup_append] at nd
      exact nd.2.2 x.1 m x.1 (List.mem_cons_self ..) rfl
    show mergeK (putK (dk F) (Sum.inr x.1) x.2) (dk G) = _
    rw [putK_new _ (valV_none n1)]
    have e : dk F ++ [(Sum.inr x.1, x.2)] = dk (F ++ [x]) := by unfold dk; rw [List.map_append]; rfl
    rw [e, merge_app (by rw [List.append_assoc]; exact nd), List.append_assoc]
    rfl
theorem merge_dk {F : List (Str × V)} (nd : (F.map (·.1)).Nodup) : mergeK [] (dk F) = dk F := merge_app (F := []) nd
theorem dk_keys (F : List (Str × V)) : (dk F).map (·.1) = (F.map (·.1)).map Sum.inr := by
  unfold dk
  rw [List.map_map, List.map_map]
  rfl
theorem dk_len (F : List (Str × V)) : (dk F).length = F.length := by unfold dk; rw [List.length_map]
/-- dict(list of pairs) -/
theorem call_dictK {X : Cx} (K : PySem.W.Frag) (h : X.K = K) (hc : X.calm = true) : CallR X (.type "dict") (fun xs H Q => ∃ (a : Addr) (ps : List Addr) (kvs : List (Key × V)), xs = [.ref a] ∧ SqL K H a (ps.map V.ref) ∧ Paired (fun p kv => SqT K H p [kV kv.1, kv.2]) ps kvs ∧
    ∀ p, H p = none → Q (.ref p) (upd H p (.dK (mergeK [] kvs)))) := by subst h; exact call_dictP hc
theorem paired_of {K : PySem.W.Frag} {H : Hp} : ∀ {ps : List (Addr × Str × V)}, (∀ q ∈ ps, H q.1 = some (.tup [.str q.2.1, q.2.2])) → Paired (fun p kv => SqT K H p [kV kv.1, kv.2]) (ps.map (·.1)) (dk (ps.map (·.2)))
  | [], _ => .nil
  | p :: ps, h => .cons (SqT.of (h p (List.mem_cons_self ..))) (paired_of fun q hq => h q (List.mem_cons_of_mem _ hq))
theorem eqv_nilT (X : List (Str × Int)) : PyData.eqv (pld X) (.tuple []) = X.isEmpty := by
  unfold pld
  rw [PyData.eqv]
  cases X with
  | nil => rw [List.map_nil, PyData.eqvAll]; rfl
  | cons n ns => rw [List.map_cons, PyData.eqvAll]; rfl
theorem PlAt.at {K : PySem.W.Frag} {H : Hp} {l : Addr} {X : List (Str × Int)} (x : PlAt H l X) {r : Int} (h0 : 0 ≤ r) (h1 : r < (X.length : Nat)) : ∃ xs t nm v, SqT K H l xs ∧ atI xs r = some (.ref t) ∧ H t = some (.tup [.str nm, .int v]) ∧ (nm, v) ∈ X := by
  obtain ⟨ps, e1, e2, e3⟩ := x
  have hj : r.toNat < ps.length := by rw [e2, List.length_map] at h1; omega
  have hm := List.getElem_mem hj
  refine ⟨_, ps[r.toNat].1, ps[r.toNat].2.1, ps[r.toNat].2.2, e1.sq, ?_, e3 _ hm, by rw [e2]; exact List.mem_map_of_mem (f := (·.2)) hm⟩
  have := atI_nat (xs := ps.map fun q => V.ref q.1) (j := r.toNat) (v := V.ref ps[r.toNat].1) (by rw [List.getElem?_map, List.getElem?_eq_getElem hj]; rfl)
  rw [show ((r.toNat : Nat) : Int) = r by omega] at this
  exact this
theorem PlAt.sq' {K : PySem.W.Frag} {H : Hp} {l : Addr} {X : List (Str × Int)} (x : PlAt H l X) : ∃ xs, SqT K H l xs ∧ xs.length = X.length := by
  obtain ⟨ps, h1, h2, _⟩ := x
  exact ⟨_, h1.sq, by rw [h2, List.length_map, List.length_map]⟩
/-! ### dict(placement) -/
def dkI (P : List (Str × Int)) : List (Key × V) := dk (P.map fun x => (x.1, V.int x.2))
theorem dkI_keys (P : List (Str × Int)) : (P.map fun x => (x.1, V.int x.2)).map (·.1) = P.map (·.1) := by
  rw [List.map_map]
  rfl
theorem valV_dkI {P : List (Str × Int)} (nd : (P.map (·.1)).Nodup) {nm : Str} {r : Int} (h : (nm, r) ∈ P) : valV (dkI P) (Sum.inr nm) = some (.int r) :=
  valV_dk (by rw [dkI_keys]; exact nd) (List.mem_map.mpr ⟨(nm, r), h, rfl⟩)
theorem valV_dkI_none {P : List (Str × Int)} {nm : Str} (h : nm ∉ P.map (·.1)) : valV (dkI P) (Sum.inr nm) = none := valV_none (by rw [dkI_keys]; exact h)
theorem pairs_in {X : Cx} {pins : List (Addr × Obj)} {σ : L2.St} {H : Hp} {s : Shared} (I : Inv X pins σ H s) : ∀ {ps : List (Addr × Str × Int)}, (∀ q ∈ ps, H q.1 = some (.tup [.str q.2.1, .int q.2.2])) →
    ∃ (vs : List (Value × Value)) (kv : List (Key × Value)), vs.length = ps.length ∧ KV (dkI (ps.map (·.2))) kv ∧ kv.length = ps.length ∧
      ∀ (j : Nat) (u v : Value), vs[j]? = some (u, v) → ∃ q k, ps[j]? = some q ∧ PairAt s.heap q.1 u v ∧ kv[j]? = some (k, v) ∧ (mixKind X.prog X.w).is k u = true
  | [], _ => ⟨[], [], rfl, .nil, rfl, fun j u v e => by cases e⟩
  | p :: ps, h => by
    obtain ⟨vs, kv, l1, rel, l2, f⟩ := pairs_in I fun q hq => h q (List.mem_cons_of_mem _ hq)
    obtain ⟨its, rv, ht, _⟩ := I.tuple (SqT.of (h p (List.mem_cons_self ..)))
    obtain ⟨u, y, ei, ru, ry⟩ := vals2 rv
    subst ei
    refine ⟨(u, y) :: vs, (Sum.inr p.2.1, y) :: kv, by rw [List.length_cons, List.length_cons, l1], .cons ⟨rfl, ry⟩ rel, by rw [List.length_cons, List.length_cons, l2], fun j u' v' e => ?_⟩
    cases j with
    | zero =>
      cases e
      exact ⟨p, _, rfl, .inl ht, rfl, kV_is (P := X.prog) (w := X.w) (k := Sum.inr p.2.1) ru⟩
    | succ j => exact f j u' v' (by simpa using e)
theorem call_dictT {X : Cx} (hcalm : X.calm = true) : CallR X (.type "dict") (fun xs H Q => ∃ (a : Addr) (P : List (Str × Int)), xs = [.ref a] ∧ PlD H a P ∧ (P.map (·.1)).Nodup ∧ P.length ≤ 1000 ∧ ∀ p, H p = none → Q (.ref p) (upd H p (.dK (dkI P)))) := by
  intro pins s σ H xs us Q I r q
  obtain ⟨a, P, rfl, ⟨ps, ob, od, hp, eP, hps⟩, nd, lP, q⟩ := q
  obtain ⟨u, rfl, ru⟩ := vals1 r
  obtain rfl : u = Value.ref a := ru
  obtain ⟨ho, hz, its, rel, ⟨o2, ho2, hc2, n2, hd2⟩⟩ := (show ObjOk X.prog X.w H s.heap a (.frz ob (.tup (ps.map fun q => V.ref q.1))) from I.hok a _ hp)
  have e2 : o2 = ob := by
    rw [ho] at ho2
    exact (Option.some.inj ho2).symm
  subst e2
  have ei : its = (ps.map (·.1)).map Value.ref := refs_at (by rw [List.map_map]; exact rel)
  obtain ⟨vs, kv, l1, rk, l2, f⟩ := pairs_in I hps
  have lp : ps.length = P.length := by rw [eP, List.length_map]
  have hlen : (dkI P).length ≤ sizeLine := by
    unfold dkI
    rw [dk_len, List.length_map]
    exact Nat.le_of_lt (small1000 lP)
  have hsz : vs.length ≤ sizeLine := by
    rw [l1, lp]
    exact Nat.le_of_lt (small1000 lP)
  refine PySem.call_dict_pairs (knd := mixKind X.prog X.w) (kvs := kv) (PairArg.tuple a its.toArray (fun j => (ps.map (·.1)).getD j 0) vs) (I.ok.hd hcalm) ⟨⟨o2, n2, ho, hc2, od, hd2⟩, ?_, fun j k v e => ?_⟩ ⟨by rw [l2, l1], fun j key v e => ?_⟩ hsz fun h' tk hd' k => ?_
  · rw [ei, List.size_toArray, List.length_map, List.length_map, l1]
  · obtain ⟨q', k', hq, hpa, _, _⟩ := f j k v e
    have hg : (ps.map (·.1))[j]? = some q'.1 := by rw [List.getElem?_map, hq]; rfl
    have hT : (ps.map (·.1)).getD j 0 = q'.1 := by rw [List.getD_eq_getElem?_getD, hg]; rfl
    show its.toArray[j]? = some (Value.ref ((ps.map (·.1)).getD j 0)) ∧ PairAt s.heap ((ps.map (·.1)).getD j 0) k v
    rw [hT]
    refine ⟨?_, hpa⟩
    rw [ei, List.getElem?_toArray, List.getElem?_map, hg]
    rfl
  · obtain ⟨q', k', _, _, hk, hi⟩ := f j key v e
    exact ⟨k', hk, hi⟩
  · have hm : (s.heap.objs.size == sysModules) = false := beq_eq_false_iff_ne.mpr (Nat.ne_of_gt I.big)
    have em : mergeK [] (dkI P) = dkI P := merge_dk (by rw [dkI_keys]; exact nd)
    have rk' : KV (dkI P) (merged [] kv) := by
      have := KV.merge (kvs := []) (vs := []) rk .nil
      rw [← eP, em] at this
      exact this
    exact ⟨.ref s.heap.objs.size, upd H s.heap.objs.size (.dK (dkI P)), I.laid (t' := tk) (fun b o e => k b o List.not_mem_nil e) (Nat.le_refl _) (show ObjOk X.prog X.w _ _ _ (.dK (dkI P)) from ⟨hlen, hm, merged [] kv, rk', hd'⟩), rfl, q _ (I.hok.fresh (Nat.le_refl _))⟩
end Fw
namespace Fw
open PySem PySem.Spec PyProof.Rows L2

/-- possible moves, one after another -/
inductive Wlk (n : Int) (D : List (Int × Int)) (P : List (Str × Int)) : List (Str × Int) → List (Str × Int) → Prop
  | nil : Wlk n D P [] P
  | snoc {ms P1 : List (Str × Int)} {nm : Str} {t : Int} : Wlk n D P ms P1 → (nm, t) ∈ mvs n D P1 P1 → Wlk n D P (ms ++ [(nm, t)]) (mvd P1 nm t)
theorem Wlk.keep {n : Int} {D : List (Int × Int)} {P ms P' : List (Str × Int)} (w : Wlk n D P ms P') (pl : Pl n P) : Pl n P' ∧ P'.length = P.length ∧ P'.map (·.1) = P.map (·.1) ∧ (∀ r, r ∈ P'.map (·.2) → r ∈ P.map (·.2)) ∧ ∀ x ∈ ms, Nam x.1 ∧ 0 ≤ x.2 ∧ x.2 < n := by
  induction w with
  | nil => exact ⟨pl, rfl, rfl, fun r hr => hr, fun x hx => absurd hx List.not_mem_nil⟩
  | @snoc ms P1 nm t w hm ih =>
    obtain ⟨i1, i2, i3, i4, i5⟩ := ih
    obtain ⟨c, hc, hr1, hr2⟩ := mvs_mem hm
    obtain ⟨y, hy, ey⟩ := List.mem_map.mp hr2
    have rr : 0 ≤ t ∧ t < n := by rw [← ey]; exact i1.rm y hy
    have nn : Nam nm := i1.nm.nam nm (List.mem_map.mpr ⟨(nm, c), hc, rfl⟩)
    refine ⟨i1.mvd rr.1 rr.2, by rw [mvd_len]; exact i2, by rw [mvd_names]; exact i3, fun r hr => i4 r ?_, fun x hx => ?_⟩
    · obtain ⟨z, hz, rfl⟩ := List.mem_map.mp hr
      obtain ⟨z', hz', rfl⟩ := List.mem_map.mp hz
      show (if z'.1 = nm then t else z'.2) ∈ _
      split
      · exact hr2
      · exact List.mem_map_of_mem (f := (·.2)) hz'
    · rcases List.mem_append.mp hx with hx | hx
      · exact i5 x hx
      · rw [List.mem_singleton.mp hx]
        exact ⟨nn, rr⟩
theorem LsAt.dp {K : PySem.W.Frag} {H : Hp} {l : Addr} {X : List (Str × Int)} (x : LsAt H l X) : Dp K H (.ref l) (.list (X.map pp)) := by
  obtain ⟨ps, h1, h2, h3⟩ := x
  rw [h2]
  exact .lst (SqL.of h1) (dp_pps h3)
theorem mvs_nams {n : Int} {D : List (Int × Int)} {P : List (Str × Int)} (pl : Pl n P) : ∀ x ∈ mvs n D P P, Nam x.1 := fun x hx => by
  obtain ⟨c, hc, _⟩ := mvs_mem (nm := x.1) (t := x.2) hx
  exact pl.nams (x.1, c) hc
section
variable {P : Program} {w : World} {K : PySem.W.Frag} {mg : Str → Option Value} {base : Heap}

end
end Fw
namespace Fw
open PySem PySem.Spec PyProof.Rows L2

theorem put_new {G : List (Str × Int)} {nm : Str} {v : Int} (h : nm ∉ G.map (·.1)) : putK (dkI G) (Sum.inr nm) (.int v) = dkI (G ++ [(nm, v)]) := by
  rw [putK_new _ (valV_dkI_none h)]
  unfold dkI dk
  rw [List.map_append, List.map_append]
  rfl
theorem put_old {G : List (Str × Int)} {nm : Str} {v : Int} (h : nm ∈ G.map (·.1)) : putK (dkI G) (Sum.inr nm) (.int v) = dkI (mvd G nm v) := by
  unfold putK
  rw [if_pos]
  · unfold dkI dk mvd
    rw [List.map_map, List.map_map, List.map_map, List.map_map]
    refine List.map_congr_left fun x _ => ?_
    show (if (Sum.inr x.1 : Key) = Sum.inr nm then (Sum.inr x.1, V.int v) else (Sum.inr x.1, V.int x.2)) = (Sum.inr x.1, V.int (if x.1 = nm then v else x.2))
    by_cases c : x.1 = nm
    · rw [if_pos (by rw [c]), if_pos c]
    · rw [if_neg (fun e => c (Sum.inr.inj e)), if_neg c]
  · obtain ⟨x, hx, e⟩ := List.mem_map.mp h
    rw [List.any_eq_true]
    refine ⟨(Sum.inr x.1, V.int x.2), ?_, decide_eq_true (by rw [← e])⟩
    unfold dkI dk
    rw [List.map_map]
    exact List.mem_map.mpr ⟨x, hx, rfl⟩
theorem dkI_len (G : List (Str × Int)) : (dkI G).length = G.length := by
  unfold dkI
  rw [dk_len, List.length_map]
def InR (n : Int) (G : List (Str × Int)) : Prop := ∀ x ∈ G, 0 ≤ x.2 ∧ x.2 < n
theorem InR.mvd {n : Int} {G : List (Str × Int)} (h : InR n G) {nm : Str} {v : Int} (h0 : 0 ≤ v) (h1 : v < n) : InR n (mvd G nm v) := fun x hx => by
  obtain ⟨y, hy, rfl⟩ := List.mem_map.mp hx
  show 0 ≤ (if y.1 = nm then v else y.2) ∧ (if y.1 = nm then v else y.2) < n
  split
  · exact ⟨h0, h1⟩
  · exact h y hy
theorem InR.snoc {n : Int} {G : List (Str × Int)} (h : InR n G) {nm : Str} {v : Int} (h0 : 0 ≤ v) (h1 : v < n) : InR n (G ++ [(nm, v)]) := fun x hx => by
  rcases List.mem_append.mp hx with hx | hx
  · exact h x hx
  · rw [List.mem_singleton.mp hx]
    exact ⟨h0, h1⟩
theorem key_val {G : List (Str × Int)} {nm : Str} (h : nm ∈ G.map (·.1)) : ∃ r, (nm, r) ∈ G := by
  obtain ⟨x, hx, e⟩ := List.mem_map.mp h
  exact ⟨x.2, by rw [← e]; exact hx⟩
theorem two_at {a b : Int} {k : Bool} : ∃ v, atI [V.int a, V.int b] (if k = true then 1 else 0) = some (.int v) ∧ (v = a ∨ v = b) := by
  cases k with
  | true => exact ⟨b, atI1, .inr rfl⟩
  | false => exact ⟨a, atI0, .inl rfl⟩
theorem at_str {xs : List Str} {r : Int} (h0 : 0 ≤ r) (h1 : r < (xs.length : Nat)) : ∃ x, x ∈ xs ∧ atI (xs.map V.str) r = some (V.str x) := by
  have hj : r.toNat < xs.length := by omega
  refine ⟨xs[r.toNat], List.getElem_mem hj, ?_⟩
  have := atI_nat (xs := xs.map V.str) (j := r.toNat) (v := V.str xs[r.toNat]) (by rw [List.getElem?_map, List.getElem?_eq_getElem hj]; rfl)
  rw [show ((r.toNat : Nat) : Int) = r by omega] at this
  exact this
section
variable {P : Program} {w : World} {K : PySem.W.Frag} {mg : Str → Option Value} {base : Heap}

end
end Fw
namespace Fw
open PySem PySem.Spec PyProof.Rows L2
open RZ
/-- zip of two tuples, the second the shorter -/
theorem lc_zipS {K : PySem.W.Frag} {a b : Addr} {xs ys : List V} {g : TG} {tt : TT} {te : TE} {vs : List Nat} {σ : L2.St} {H1 : Hp} {D : Addr} {Qd : Hp → Prop} (hl : ys.length ≤ xs.length) (Pv : Nat → Hp → Prop) (h0 : Pv 0 (upd H1 D (.lst []))) (hq : ∀ i H, Pv i H → SqT K H a xs ∧ SqT K H b ys)
    (hs : ∀ (i : Nat) (x y : V) (T : Addr) (H : Hp), xs[i]? = some x → ys[i]? = some y → Pv i H → H T = none → g (.ref T) (wipe σ vs) (upd H T (.tup [x, y])) fun σ2 H2 => wipe σ2 vs = wipe σ vs ∧ tt σ2 H2 fun b H3 =>
      if b = true then te σ2 H3 fun y H4 => ∃ acc, H4 D = some (.lst acc) ∧ acc.length < sizeLine ∧ Pv (i + 1) (upd H4 D (.lst (acc ++ [y]))) else Pv (i + 1) H3) (hd : ∀ H, Pv ys.length H → Qd H) :
    ∃ W : Nat → Nat → Hp → Prop, (∃ m, W 0 m (upd H1 D (.lst []))) ∧ ∀ i m H, W i m H →
      ((ItzT K a b).stop i H ∧ Qd H) ∨ ((ItzT K a b).go i H ∧ ∃ Nx : Hp → Prop, (∀ H', Nx H' → ∃ m', m' < m ∧ W (i + 1) m' H') ∧ ∀ x H', (ItzT K a b).yld i H x H' → g x (wipe σ vs) H' fun σ2 H2 => wipe σ2 vs = wipe σ vs ∧ tt σ2 H2 fun b H3 =>
        if b = true then te σ2 H3 fun y H4 => ∃ acc, H4 D = some (.lst acc) ∧ acc.length < sizeLine ∧ Nx (upd H4 D (.lst (acc ++ [y]))) else Nx H3) := by
  refine ⟨fun i m H => m = ys.length - i ∧ i ≤ ys.length ∧ Pv i H, ⟨ys.length, rfl, Nat.zero_le _, h0⟩, ?_⟩
  rintro i m H ⟨rfl, hi, p⟩
  obtain ⟨qx, qy⟩ := hq i H p
  by_cases hlt : i < ys.length
  · have hx : xs[i]? = some xs[i] := List.getElem?_eq_getElem (by omega)
    have hy : ys[i]? = some ys[i] := List.getElem?_eq_getElem hlt
    refine .inr ⟨⟨xs, ys, _, _, qx, qy, hx, hy⟩, Pv (i + 1), fun H' p' => ⟨ys.length - (i + 1), by omega, rfl, hlt, p'⟩, fun v H' y => ?_⟩
    obtain ⟨T, x', y', rfl, hT, rfl, f1, f2⟩ := y
    exact hs i x' y' T H (f1 xs qx) (f2 ys qy) p hT
  · have e : i = ys.length := by omega
    subst e
    exact .inl ⟨⟨xs, ys, qx, qy, Or.inr (Nat.le_refl _)⟩, hd H p⟩
theorem tp_ty {K : PySem.W.Frag} {H : Hp} {p : Addr} {xs : List V} (h : TpAt H p xs) : TyX K H (.ref p) (.type "tuple") := h.elim (fun h => .base (.tup h)) fun ⟨_, _, h⟩ => .fTuple h
theorem k_ss : kitB "str" "str" = some true := by decide +kernel
theorem k_tt' : kitB "tuple" "tuple" = some true := by decide +kernel
theorem cut1 (xs : List V) : cutV xs (some 1) none = xs.drop 1 := by
  unfold cutV
  show (xs.drop (min 1 xs.length)).take (xs.length - min 1 xs.length) = xs.drop 1
  cases xs with
  | nil => rfl
  | cons x r =>
    rw [show min 1 (x :: r).length = 1 by simp]
    exact List.take_of_length_le (by simp)
theorem one_le {c : Nat} (h : 97 ≤ c) : decide ((⟨#[c]⟩ : Str).cps.toList < (Str.ofString "a").cps.toList) = false := by
  rw [show (Str.ofString "a").cps.toList = [97] by decide +kernel]
  rw [decide_eq_false_iff_not]
  intro h2
  have h2 : [c] < [97] := h2
  rw [List.cons_lt_cons_iff] at h2
  rcases h2 with h2 | ⟨_, h2⟩
  · omega
  · exact absurd h2 (List.lt_irrefl _)
theorem one_ge {c : Nat} (h : c ≤ 122) : decide ((Str.ofString "z").cps.toList < (⟨#[c]⟩ : Str).cps.toList) = false := by
  rw [show (Str.ofString "z").cps.toList = [122] by decide +kernel]
  rw [decide_eq_false_iff_not]
  intro h2
  have h2 : [122] < [c] := h2
  rw [List.cons_lt_cons_iff] at h2
  rcases h2 with h2 | ⟨_, h2⟩
  · omega
  · exact absurd h2 (List.lt_irrefl _)
theorem names_snoc {P : List (Str × Int)} {k : Nat} {nm : Str} {r : Int} (h : P[k]? = some (nm, r)) : (P.take (k + 1)).map (·.1) = (P.take k).map (·.1) ++ [nm] := by
  rw [take_snoc h, List.map_append]
  rfl
section
variable {P : Program} {w : World} {K : PySem.W.Frag} {mg : Str → Option Value} {base : Heap}

end
end Fw
namespace Fw
open PySem PySem.Spec PyProof.Rows L2

theorem SP.shape {R : Int → Int → Prop} {a b : Int} {p : List Int} (h : SP R a b p) : (p = [a] ∧ a = b) ∨ ∃ m, p = a :: (m ++ [b]) := by
  induction h with
  | one a => exact .inl ⟨rfl, rfl⟩
  | cons r h n ih =>
    rcases ih with ⟨e, e'⟩ | ⟨m, e⟩
    · exact .inr ⟨[], by rw [e, e']; rfl⟩
    · exact .inr ⟨_ :: m, by rw [e]; rfl⟩
def innr (p : List Int) : List Int := (p.drop 1).take (p.length - 2)
theorem SP.inner {R : Int → Int → Prop} {a b : Int} {p : List Int} (h : SP R a b p) (r : Int) : r ∈ innr p ↔ r ∈ p ∧ r ≠ a ∧ r ≠ b := by
  rcases h.shape with ⟨e, e'⟩ | ⟨m, e⟩
  · rw [e]
    constructor
    · intro z; cases z
    · rintro ⟨z, n, _⟩
      exact absurd (List.mem_singleton.mp z) n
  · have nd := h.nodup
    rw [e] at nd ⊢
    have ei : innr (a :: (m ++ [b])) = m := by
      unfold innr
      rw [List.drop_succ_cons, List.drop_zero, List.length_cons, List.length_append, List.length_singleton]
      exact List.take_left' (by omega)
    rw [ei]
    rw [List.nodup_cons, List.mem_append, not_or, List.nodup_append] at nd
    obtain ⟨⟨n1, n2⟩, n3, _, n4⟩ := nd
    constructor
    · intro hr
      exact ⟨List.mem_cons_of_mem _ (List.mem_append.mpr (.inl hr)), fun e => n1 (e ▸ hr), fun e => n4 r hr b (List.mem_singleton.mpr rfl) e⟩
    · rintro ⟨z, ha, hb⟩
      rcases List.mem_cons.mp z with z | z
      · exact absurd z ha
      · rcases List.mem_append.mp z with z | z
        · exact z
        · exact absurd (List.mem_singleton.mp z) hb
theorem cut_inner (p : List Int) (h : 0 < p.length) : cutV (vi p) (some 1) (some (-1)) = vi (innr p) := by
  unfold cutV innr vi
  rw [List.map_take, List.map_drop]
  show ((p.map V.int).drop (min 1 (p.map V.int).length)).take (((-1 : Int) + ((p.map V.int).length : Nat)).toNat - min 1 (p.map V.int).length) = _
  rw [List.length_map, show min 1 p.length = 1 by omega, show ((-1 : Int) + (p.length : Nat)).toNat - 1 = p.length - 2 by omega]
/-- r lies within the way from a to b -/
def pas (D : List (Int × Int)) (a b r : Int) : Prop := ∃ p, SP (adj D) a b p ∧ r ∈ p ∧ r ≠ a ∧ r ≠ b
open Classical in
noncomputable def psg (D : List (Int × Int)) (G : List (Str × Int)) (r : Int) (X : List (Str × Int)) : List Str := (X.filter fun x => decide (∃ t, (x.1, t) ∈ G ∧ pas D x.2 t r)).map (·.1)
open Classical in
theorem psg_snoc {D : List (Int × Int)} {G X : List (Str × Int)} {r : Int} {k : Nat} {nm : Str} {c t : Int} (nd : (G.map (·.1)).Nodup) (h : X[k]? = some (nm, c)) (ht : (nm, t) ∈ G) : psg D G r (X.take (k + 1)) = psg D G r (X.take k) ++ if pas D c t r then [nm] else [] := by
  unfold psg
  rw [take_snoc h, filter_snoc, List.map_append]
  congr 1
  by_cases z : pas D c t r
  · rw [if_pos z, if_pos (decide_eq_true ⟨t, ht, z⟩)]
    rfl
  · rw [if_neg z, if_neg]
    · rfl
    · rw [decide_eq_true_eq]
      rintro ⟨t', ht', z'⟩
      have e : t = t' := congrArg Prod.snd (key_uniq nd ht ht' rfl)
      exact z (e ▸ z')
theorem psg_len (D : List (Int × Int)) (G : List (Str × Int)) (r : Int) (X : List (Str × Int)) : (psg D G r X).length ≤ X.length := by
  unfold psg
  rw [List.length_map]
  exact List.length_filter_le _ _
theorem pas_of {D : List (Int × Int)} {n a b r : Int} (f : Forest n D) {p : List Int} (h : SP (adj D) a b p) : pas D a b r ↔ r ∈ p ∧ r ≠ a ∧ r ≠ b := by
  constructor
  · rintro ⟨q, hq, z⟩
    rw [f.uniq _ _ _ _ h hq]
    exact z
  · intro z
    exact ⟨p, h, z⟩
section
variable {P : Program} {w : World} {K : PySem.W.Frag} {mg : Str → Option Value} {base : Heap}

def spPTgt : Sp := fun vs H Q _ => ∃ (h p g : Addr) (n : Int) (D : List (Int × Int)) (P G : List (Str × Int)) (nm : Str) (a b : Int), vs = [.ref h, .ref p, .ref g, .str nm] ∧ HouseAt H h n D ∧ Forest n D ∧ n ≤ 8 ∧ PlAt H p P ∧ Pl n P ∧ PlAt H g G ∧ Pl n G ∧ (nm, a) ∈ P ∧ (nm, b) ∈ G ∧
  (∀ H', Same H H' → (∀ p, ¬ SP (adj D) a b p) → Q .non H') ∧ (∀ H' t p, Same H H' → SP (adj D) a b p → p.length ≤ 8 → H' t = some (.tup (vi p)) → Q (.ref t) H')
abbrev nPTgt : List Str := ["house", "placement", "target", "name"]
theorem scPTgt : FnScope nPTgt ["house", "placement", "target", "name"] (defScope sPTgt) := ⟨rfl, rfl, rfl, by decide +kernel, rfl, by decide +kernel, by decide +kernel⟩
theorem ok_ptgt {f : Addr} {fd : FuncData} {k : Nat} (F : Fun K "path_to_target" "path_to_target" sPTgt f fd) (Cpath_between : Cal P w K mg base (k + 3) "path_between" ["house", "a", "b"] spPath) (Croom_of : Cal P w K mg base (k + 3) "room_of" pRoomOf spRoomOf) : FnOk P w K mg base CX0 (k + 4) f fd pPTgt spPTgt := by
  refine F.ok scPTgt (fun vs H Q E h => ?_) (fun cdv A outer s H vs Q E hr h => ?_)
  · obtain ⟨h, p, g, n, D, P, G, nm, a, b, rfl, _⟩ := h
    rfl
  · obtain ⟨h, p, g, n, D, P, G, nm, a, b, rfl, hH, hF, n1, hP, pl, hG, plG, ma, mb, q1, q2⟩ := h
    refine ⟨_, (pss_one (ps_ret (pe_cal Cpath_between hr (by rfl) (pa_cons (pv 0) (pa_cons (pe_cal Croom_of hr (by rfl) (pa_cons (pv 1) (pa_cons (pv 3) pa_nil))) (pa_cons (pe_cal Croom_of hr (by rfl) (pa_cons (pv 2) (pa_cons (pv 3) pa_nil))) pa_nil)))))), ?_⟩
    exact ⟨_, rfl, _, rfl, _, rfl, p, P, nm, a, rfl, hP, ma, pl.nodup, _, rfl, _, rfl, g, G, nm, b, rfl, hG, mb, plG.nodup, h, n, D, a, b, rfl, hH, hF, n1, (pl.rm _ ma).1, (pl.rm _ ma).2, (plG.rm _ mb).1, (plG.rm _ mb).2, q1, q2⟩
def spPassed : Sp := fun vs H Q _ => ∃ (h p g : Addr) (n : Int) (D : List (Int × Int)) (P G : List (Str × Int)) (nm : Str) (a b : Int), vs = [.ref h, .ref p, .ref g, .str nm] ∧ HouseAt H h n D ∧ Forest n D ∧ n ≤ 8 ∧ PlAt H p P ∧ Pl n P ∧ PlAt H g G ∧ Pl n G ∧ (nm, a) ∈ P ∧ (nm, b) ∈ G ∧
  ∀ H' t l, Same H H' → H' t = some (.tup (vi l)) → l.length ≤ 8 → (∀ r, r ∈ l ↔ pas D a b r) → Q (.ref t) H'
abbrev nPassed : List Str := ["house", "placement", "target", "name", "path"]
theorem scPassed : FnScope nPassed ["house", "placement", "target", "name"] (defScope sPassed) := ⟨rfl, rfl, rfl, by decide +kernel, rfl, by decide +kernel, by decide +kernel⟩
theorem ok_passed {f : Addr} {fd : FuncData} {k : Nat} (F : Fun K "passed_rooms" "passed_rooms" sPassed f fd) (Cpath_to_target : Cal P w K mg base (k + 4) "path_to_target" pPTgt spPTgt) : FnOk P w K mg base CX0 (k + 5) f fd pPTgt spPassed := by
  refine F.ok scPassed (fun vs H Q E h => ?_) (fun cdv A outer s H vs Q E hr h => ?_)
  · obtain ⟨h, p, g, n, D, P, G, nm, a, b, rfl, _⟩ := h
    rfl
  · obtain ⟨h, p, g, n, D, P, G, nm, a, b, rfl, hH, hF, n1, hP, pl, hG, plG, ma, mb, q⟩ := h
    refine ⟨_, (pss_cons (ps_set (i := 4) scPassed.nd rfl (.inl rfl) (pe_cal Cpath_to_target hr (by rfl) (pa_cons (pv 0) (pa_cons (pv 1) (pa_cons (pv 2) (pa_cons (pv 3) pa_nil))))))
      (pss_one (ps_ret (pe_ifExp (pt_cmp (pc_isN (pv 4))) (pe_tup pa_nil) (pe_slice sl_tupA (pv 4) (po_some pe_int) (po_some (pe_un un_neg pe_int))))))), ?_⟩
    refine ⟨_, rfl, _, rfl, _, rfl, _, rfl, h, p, g, n, D, P, G, nm, a, b, rfl, hH, hF, n1, hP, pl, hG, plG, ma, mb, fun H1 s1 no => ?_, fun H1 t w s1 sp lw e1 => ?_⟩
    · refine ⟨_, rfl, _, rfl, iteT ⟨Nat.zero_le _, fun t ht => ?_⟩⟩
      refine q _ t [] (s1.trans (same_upd ht)) upd_same (by decide) fun r => ⟨fun z => (by cases z), fun ⟨w, hw, _⟩ => absurd hw (no w)⟩
    · have lw0 : 0 < w.length := List.length_pos_of_mem sp.head
      refine ⟨_, rfl, _, rfl, iteF ⟨_, rfl, _, rfl, _, rfl, _, rfl, t, _, rfl, SqT.of e1, fun hf => ?_, fun _ u hu => ?_⟩⟩
      · have h1 : min 1 (vi w).length = 0 := hf.1
        rw [List.length_map] at h1
        omega
      · have ec := cut_inner w lw0
        rw [show cutV (vi w) (some 1) (some (-1)) = vi (innr w) from ec]
        refine q _ u (innr w) (s1.trans (same_upd hu)) upd_same ?_ fun r => ?_
        · unfold innr
          rw [List.length_take]
          omega
        · rw [sp.inner, pas_of hF sp]
def spLPassing : Sp := fun vs H Q _ => ∃ (h p g rl : Addr) (n : Int) (D : List (Int × Int)) (P G : List (Str × Int)) (r : Int) (R : List Int), vs = [.ref h, .ref p, .ref g, .int r, .ref rl] ∧ HouseAt H h n D ∧ Forest n D ∧ n ≤ 8 ∧ PlAt H p P ∧ Pl n P ∧ P.length ≤ 100 ∧ PlD H g G ∧ Pl n G ∧ G.length ≤ 100 ∧ (∀ x ∈ P.map (·.1), x ∈ G.map (·.1)) ∧ H rl = some (.lst (vi R)) ∧ (∀ x ∈ P, x.2 ∈ R) ∧
  ∀ H' l, Same H H' → H' l = some (.lst ((psg D G r P).map V.str)) → Q (.ref l) H'
abbrev nLPassing : List Str := ["_law_house", "_law_placement", "_law_target", "_law_room", "_law_some", "_law_homes", "_law_found", "_law_name", "_law_here"]
theorem scLPassing : FnScope nLPassing ["_law_house", "_law_placement", "_law_target", "_law_room", "_law_some"] (defScope sLPassing) := ⟨rfl, rfl, rfl, by decide +kernel, rfl, by decide +kernel, by decide +kernel⟩
theorem ok_lpassing {f : Addr} {fd : FuncData} {k : Nat} (F : Fun K "_law_passing" "_law_passing" sLPassing f fd) (T : Nm mg) (Tdict : mg "dict" = none) (C_law_path : Cal P w K mg base (k + 2) "_law_path" ["_law_house", "_law_one", "_law_other"] spPath) : FnOk P w K mg base CX0 (k + 3) f fd pLPassing spLPassing := by
  refine F.ok scLPassing (fun vs H Q E h => ?_) (fun cdv A outer s H vs Q E hr h => ?_)
  · obtain ⟨h, p, g, rl, n, D, P, G, r, R, rfl, _⟩ := h
    rfl
  · obtain ⟨h, p, g, rl, n, D, P, G, r, R, rfl, hH, hF, n1, hP, pl, lP, hG, plG, lG, sub, eR, inR, q⟩ := h
    refine ⟨_, (pss_cons (ps_par (i := 5) (j := 6) (by rfl) scLPassing.nd rfl rfl (by decide) rfl rfl (pa_cons (pe_callTy (call_dictT rfl) (by rfl) Tdict (by decide +kernel) (pa_cons (pv 2) pa_nil)) (pa_cons (pe_lst pa_nil) pa_nil)) (by rfl))
      (pss_cons (ps_for PassesOwn.never rfl (pi_tupK K rfl (pv 1)) (pg_tup (by rfl) (pgs_cons (pg_name (i := 7) scLPassing.nd rfl (.inl rfl)) (pgs_cons (pg_name (i := 8) scLPassing.nd rfl (.inl rfl)) pgs_nil)))
      (pss_one (ps_if (PW.pt (pw_and (pt_cmpR (op_inK K rfl) (pv 8) (pv 4) (by rfl)) (pw_and (pt_cmpR (op_notInK K rfl) (pv 3) (pe_tup (pa_cons (pv 8) (pa_cons (pe_dget (hu_of hr) (pv 5) (pv 7) (fun _ _ => rfl)) pa_nil))) (by rfl)) (pw_and1 (pt_cmpR (op_inK K rfl) (pv 3) (pe_orT (pe_cal C_law_path hr (by rfl) (pa_cons (pv 0) (pa_cons (pv 8) (pa_cons (pe_dget (hu_of hr) (pv 5) (pv 7) (fun _ _ => rfl)) pa_nil)))) (pe_one (pe_tup pa_nil))) (by rfl))))))
       (pss_one (ps_expr (pe_bm PySem.F.plainAttrs_list PySem.F.slot_list_append PySem.F.type_list_append mt_append (pv 6) (pa_cons (pv 7) pa_nil))))
       pss_nil)))
      (pss_one (ps_ret (pv 6))))), ?_⟩
    refine ⟨_, rfl, g, G, rfl, hG, plG.nodup, by omega, fun d hd => ⟨Nat.zero_le _, fun L hL => ⟨_, _, rfl, ?_⟩⟩⟩
    have s0 := same_upd (o := .dK (dkI G)) hd
    have s1 := s0.trans (same_upd (o := .lst []) hL)
    have ed1 : (upd (upd H d (.dK (dkI G))) L (.lst [])) d = some (.dK (dkI G)) := same_upd hL _ _ upd_same
    have eL1 : (upd (upd H d (.dK (dkI G))) L (.lst [])) L = some (.lst []) := upd_same
    have fL : H L = none := s0.free hL
    have nLd : L ≠ d := fun e => by rw [e, upd_same] at hL; cases hL
    generalize upd (upd H d (.dK (dkI G))) L (.lst []) = H1 at *
    refine ⟨_, rfl, p, rfl, (hP.same s1).sq, for_pl hP (fun i σ' H' => ∃ y7 y8, σ' = [some (.ref h), some (.ref p), some (.ref g), some (.int r), some (.ref rl), some (.ref d), some (.ref L), y7, y8] ∧ Same H H' ∧ H' d = some (.dK (dkI G)) ∧ H' L = some (.lst ((psg D G r (P.take i)).map V.str)))
      ⟨_, _, rfl, s1, ed1, eL1⟩ ?_ ?_ ?_⟩
    · rintro k σ' H' ⟨_, _, _, s', _⟩
      exact Tk.of s'
    · rintro k nm c σ' H2 hk ⟨y7, y8, rfl, s2, ed2, eL2⟩
      have mk' := List.mem_of_getElem? hk
      obtain ⟨t, mt⟩ := key_val (sub nm (List.mem_map.mpr ⟨_, mk', rfl⟩))
      have dg : ∀ {H' : Hp}, H' d = some (.dK (dkI G)) → DGet H' d (.str nm) (some (.int t)) := fun {H'} e => .inl ⟨_, Sum.inr nm, .inl e, rfl, (valV_dkI plG.nodup mt).symm⟩
      have es := psg_snoc (D := D) (r := r) plG.nodup hk mt
      have rc := pl.rm _ mk'
      have rt := plG.rm _ mt
      refine if_by (fun b H' => Same H2 H' ∧ (b = true ↔ pas D c t r)) ?_ ?_ ?_
      · rintro H3 ⟨s3, z⟩
        have eL3 := s3 _ _ eL2
        rw [if_pos (z.mp rfl)] at es
        refine ⟨_, rfl, .inl ⟨rfl, _, SqL.of eL3⟩, _, rfl, L, _, _, rfl, rfl, eL3, ?_, _, _, rfl, same_put (s2.trans s3) fL, ?_, ?_⟩
        · rw [List.length_map]
          have h1 := psg_len D G r (P.take k)
          rw [List.length_take] at h1
          exact small1000 (by omega)
        · rw [upd_ne nLd.symm]
          exact s3 _ _ ed2
        · rw [upd_same, es, vs_app]
          rfl
      · rintro H3 ⟨s3, z⟩
        rw [if_neg (fun y => by cases z.mpr y), List.append_nil] at es
        refine ⟨_, _, rfl, s2.trans s3, s3 _ _ ed2, ?_⟩
        rw [es]
        exact s3 _ _ eL2
      · intro Q' hQ'
        refine ⟨_, rfl, _, rfl, rl, _, rfl, .inl (SqL.of (s2 _ _ eR)), rfl, flat_vi _, _, rfl, ?_⟩
        rw [if_neg (by decide), inV_vi, decide_eq_true (inR _ mk')]
        refine iteT ⟨_, rfl, _, rfl, _, rfl, _, rfl, d, _, rfl, dg ed2, by show 2 ≤ sizeLine; decide, fun u hu => ⟨u, _, rfl, .inr (SqT.of upd_same), rfl, rfl, _, rfl, ?_⟩⟩
        have s3 := same_upd (o := .tup [.int c, .int t]) hu
        rw [if_pos rfl, show inV (.int r) [V.int c, V.int t] = decide (r ∈ [c, t]) from inV_vi r [c, t]]
        by_cases zz : r ∈ [c, t]
        · rw [decide_eq_true zz]
          refine iteF (hQ' _ _ ⟨s3, ⟨fun e => (by cases e), fun ⟨w, _, _, n1, n2⟩ => ?_⟩⟩)
          rcases List.mem_cons.mp zz with e | e
          · exact absurd e n1
          · exact absurd (List.mem_singleton.mp e) n2
        · rw [decide_eq_false zz]
          have nz : r ≠ c ∧ r ≠ t := ⟨fun e => zz (by rw [e]; exact List.mem_cons_self ..), fun e => zz (by rw [e]; exact List.mem_cons_of_mem _ (List.mem_singleton.mpr rfl))⟩
          refine iteT ⟨_, rfl, _, rfl, _, rfl, _, rfl, _, rfl, d, _, rfl, dg (s3 _ _ ed2), h, n, D, c, t, rfl, (hH.same s2).same s3, hF, n1, rc.1, rc.2, rt.1, rt.2, fun H4 s4 no => ?_, fun H4 v w s4 sp lw e4 => ?_⟩
          · refine ⟨false, rfl, iteF ⟨Nat.zero_le _, fun v hv => ⟨v, _, rfl, .inr (SqT.of (xs := vi []) upd_same), rfl, flat_vi _, _, rfl, ?_⟩⟩⟩
            rw [if_neg (by decide), inV_vi]
            exact hQ' _ _ ⟨s3.trans (s4.trans (same_upd hv)), ⟨fun e => (by cases e), fun ⟨w, hw, _⟩ => absurd hw (no w)⟩⟩
          · have lw0 : w ≠ [] := List.ne_nil_of_mem sp.head
            refine ⟨true, .inr (.inl ⟨_, SqT.of e4, ?_⟩), iteT ⟨v, _, rfl, .inr (SqT.of e4), rfl, flat_vi _, _, rfl, ?_⟩⟩
            · cases w with
              | nil => exact absurd rfl lw0
              | cons x w => rfl
            · rw [if_neg (by decide), inV_vi]
              refine hQ' _ _ ⟨s3.trans s4, ?_⟩
              rw [decide_eq_true_eq, pas_of hF sp]
              exact ⟨fun m => ⟨m, nz⟩, fun m => m.1⟩
    · rintro σ' H2 ⟨y7, y8, rfl, s2, ed2, eL2⟩
      rw [List.take_length] at eL2
      exact ⟨_, rfl, q _ L s2 eL2⟩
end
end Fw
namespace Fw
open PySem PySem.Spec PyProof.Rows L2
/-- xs.extend(t), t a tuple whose other parts are not told -/
theorem meets_ext (l b : Addr) (mine others : Array Value) (n m : Nat) (dd : Option Addr) (ss : Array (Option Value)) (z : mine.size + others.size ≤ sizeLine) :
    Meets (Builtin.«list.extend» ⟨[.ref l, .ref b], []⟩) (fun _ R s => s.heap.get? l = some { cls := .type "list", data := .seq mine n } ∧ s.heap.get? b = some { cls := .type "tuple", dict := dd, data := .seq others m, slots := ss } ∧
      R (.ok (.ret Value.none)) { s with heap := s.heap.update l (Obj.mapSeq (· ++ others)), toks := s.toks }) :=
  .of_wp fun prog w A R s h => by
    obtain ⟨hp, g, d, tk, os⟩ := s
    obtain ⟨hl, hb, h⟩ := h
    have nl : ¬ (!mine.isEmpty && Builtin.List.listTooLong (mine.size + others.size)) = true := by
      rw [notLongL z, Bool.and_false]
      exact Bool.false_ne_true
    have f2 := AutoSeq1.sub_tuple_tuple
    have f4 := AutoSeq1.sub_tuple_list
    have f3 := AutoSeq1.sub_list_list
    have z1 : (mine ++ others).size ≤ sizeLine + 1 := by rw [Array.size_append]; omega
    wp_walk using (wpAny_updateSeq hl rfl (hz := by omega) (_hz' := z1)), wpAny_loadPart hl, wpAny_loadPart hb
    exact ⟨_, rfl, h⟩
def rExtT (K : PySem.W.Frag) : V → List V → Hp → VK → Prop := fun x vs H Q => ∃ l b xs zs, x = .ref l ∧ vs = [.ref b] ∧ H l = some (.lst xs) ∧ SqT K H b zs ∧ xs.length + zs.length ≤ sizeLine ∧ Q .non (upd H l (.lst (xs ++ zs)))
theorem mt_extendT {X : Cx} : MtM X "list.extend" (rExtT X.K) := by
  intro pins s σ H x vs v us Q I rx rv h
  obtain ⟨l, b, xs, zs, rfl, rfl, hl, hb, hz, q⟩ := h
  cases rx
  obtain ⟨u, rfl, ru⟩ := vals1 rv
  cases ru
  obtain ⟨_, its, n, r, e1, e⟩ := I.lstM hl
  obtain ⟨ys, r2, ⟨o, ho, hc, m, hd⟩, _⟩ := I.tuple hb
  obtain ⟨c, dd, da, ss⟩ := o
  cases hc
  cases hd
  have e2 := r2.length
  refine call_meets F.slot_list_extend ⟨_, e, rfl⟩ F.entry_list_extend (F.args_list_extend_2 _ _) (meets_ext l b its.toArray ys.toArray n m dd ss ?_) ⟨e, ho, ?_⟩
  · rw [List.size_toArray, List.size_toArray]
    omega
  · exact ⟨.non, _, I.lset (its' := its ++ ys) hl e (by simp) (r.append r2) (by rw [List.length_append]; omega), rfl, q⟩
end Fw
namespace Fw
open PySem PySem.Spec PyProof.Rows L2
theorem strs_eq0 {K : PySem.W.Frag} {σ : L2.St} {L : Addr} {H : Hp} {Q : Bool → Hp → Prop} {ns : List Str} (e : H L = some (.lst (ns.map V.str))) (ok : ∀ x ∈ ns, Nam x) (h : ∀ H', Same H H' → Q ns.isEmpty H') :
    tLst tNil σ H fun y H2 => rEqD K (.ref L) y H2 fun x H3 => ∃ k, x = .bl k ∧ Q k H3 := by
  refine ⟨Nat.zero_le _, fun p hp => ⟨.list (ns.map .str), .list [], .lst (SqL.of (same_upd hp _ _ e)) (dp_strs ns), .lst (SqL.of upd_same) .nil, strs_shaped fun x hx => nam_ok (ok x hx), shaped_list [], _, rfl, ?_⟩⟩
  have ee : PyData.eqv (.list (ns.map .str)) (.list []) = ns.isEmpty := by
    rw [PyData.eqv]
    cases ns with
    | nil => rw [List.map_nil, PyData.eqvAll]; rfl
    | cons n ns => rw [List.map_cons, PyData.eqvAll]; rfl
  rw [ee]
  exact h _ (same_upd hp)
open Classical in
/-- who of the rooms R passes r -/
noncomputable def psgW (D : List (Int × Int)) (G : List (Str × Int)) (r : Int) (R : List Int) (X : List (Str × Int)) : List Str := (X.filter fun x => decide (x.2 ∈ R ∧ ∃ t, (x.1, t) ∈ G ∧ pas D x.2 t r)).map (·.1)
open Classical in
theorem psgW_snoc {D : List (Int × Int)} {G X : List (Str × Int)} {r : Int} {R : List Int} {k : Nat} {nm : Str} {c t : Int} (nd : (G.map (·.1)).Nodup) (h : X[k]? = some (nm, c)) (ht : (nm, t) ∈ G) : psgW D G r R (X.take (k + 1)) = psgW D G r R (X.take k) ++ if c ∈ R ∧ pas D c t r then [nm] else [] := by
  have e : (∃ t', (nm, t') ∈ G ∧ pas D c t' r) ↔ pas D c t r := ⟨fun ⟨t', h1, h2⟩ => by rw [show t = t' from congrArg Prod.snd (key_uniq nd ht h1 rfl)]; exact h2, fun h => ⟨t, ht, h⟩⟩
  unfold psgW
  rw [take_snoc h, filter_snoc, List.map_append]
  congr 1
  by_cases z : c ∈ R ∧ pas D c t r
  · rw [if_pos z, if_pos (decide_eq_true ⟨z.1, e.mpr z.2⟩)]
    rfl
  · rw [if_neg z, if_neg (by rw [decide_eq_true_eq]; exact fun y => z ⟨y.1, e.mp y.2⟩)]
    rfl
theorem psgW_len (D : List (Int × Int)) (G : List (Str × Int)) (r : Int) (R : List Int) (X : List (Str × Int)) : (psgW D G r R X).length ≤ X.length := by
  unfold psgW
  rw [List.length_map]
  exact List.length_filter_le _ _
open Classical in
theorem psgW_nil {D : List (Int × Int)} {G : List (Str × Int)} {r : Int} {R : List Int} {X : List (Str × Int)} : (psgW D G r R X).isEmpty = true ↔ ∀ nm c t, (nm, c) ∈ X → c ∈ R → (nm, t) ∈ G → ¬ pas D c t r := by
  unfold psgW
  rw [List.isEmpty_iff, List.map_eq_nil_iff, List.filter_eq_nil_iff]
  constructor
  · intro h nm c t h1 h2 h3 h4
    exact h _ h1 (decide_eq_true ⟨h2, t, h3, h4⟩)
  · intro h x hx z
    obtain ⟨h1, t, h2, h3⟩ := of_decide_eq_true z
    exact h x.1 x.2 t hx h1 h2 h3
theorem psgW_nam {D : List (Int × Int)} {G : List (Str × Int)} {r : Int} {R : List Int} {X : List (Str × Int)} {n : Int} (pl : Pl n X) : ∀ x ∈ psgW D G r R X, Nam x := fun x hx => by
  unfold psgW at hx
  obtain ⟨y, hy, rfl⟩ := List.mem_map.mp hx
  exact pl.nm.nam _ (List.mem_map_of_mem (f := (·.1)) (List.mem_filter.mp hy).1)
open Classical in
/-- the free rooms of R -/
noncomputable def fre (D : List (Int × Int)) (P G : List (Str × Int)) (R : List Int) : List Int := R.filter fun r => decide (∀ nm c t, (nm, c) ∈ P → c ∈ R → (nm, t) ∈ G → r ≠ t ∧ ¬ pas D c t r)
open Classical in
theorem fre_of {D : List (Int × Int)} {P G : List (Str × Int)} {R : List Int} {f : Int → Bool} (h : ∀ r ∈ R, (f r = true ↔ ∀ nm c t, (nm, c) ∈ P → c ∈ R → (nm, t) ∈ G → r ≠ t ∧ ¬ pas D c t r)) : R.filter f = fre D P G R := by
  unfold fre
  refine List.filter_congr fun r hr => ?_
  rw [Bool.eq_iff_iff, decide_eq_true_eq]
  exact h r hr
theorem fre_len (D : List (Int × Int)) (P G : List (Str × Int)) (R : List Int) : (fre D P G R).length ≤ R.length := List.length_filter_le _ _
theorem inside_get {P : List (Str × Int)} {R : List Int} {nm : Str} (h : nm ∈ inside P R) : ∃ c, (nm, c) ∈ P ∧ c ∈ R := by
  unfold inside at h
  obtain ⟨x, hx, rfl⟩ := List.mem_map.mp h
  have := List.mem_filter.mp hx
  exact ⟨x.2, this.1, of_decide_eq_true this.2⟩
theorem mem_inside' {P : List (Str × Int)} {R : List Int} {nm : Str} {c : Int} (h : (nm, c) ∈ P) (hc : c ∈ R) : nm ∈ inside P R := by
  unfold inside
  exact List.mem_map.mpr ⟨(nm, c), List.mem_filter.mpr ⟨h, decide_eq_true hc⟩, rfl⟩
section
variable {P : Program} {w : World} {K : PySem.W.Frag} {mg : Str → Option Value} {base : Heap}
def spLPassR (K : PySem.W.Frag) : Sp := fun vs H Q _ => ∃ (h p g rl : Addr) (n : Int) (D : List (Int × Int)) (P G : List (Str × Int)) (r : Int) (R : List Int), vs = [.ref h, .ref p, .ref g, .int r, .ref rl] ∧ HouseAt H h n D ∧ Forest n D ∧ n ≤ 8 ∧ PlAt H p P ∧ Pl n P ∧ P.length ≤ 100 ∧ PlD H g G ∧ Pl n G ∧ G.length ≤ 100 ∧ (∀ x ∈ P.map (·.1), x ∈ G.map (·.1)) ∧ SqT K H rl (vi R) ∧
  ∀ H' l, Same H H' → H' l = some (.lst ((psgW D G r R P).map V.str)) → Q (.ref l) H'
theorem ok_lpassR {f : Addr} {fd : FuncData} {k : Nat} (F : Fun K "_law_passing" "_law_passing" sLPassing f fd) (T : Nm mg) (Tdict : mg "dict" = none) (C_law_path : Cal P w K mg base (k + 2) "_law_path" ["_law_house", "_law_one", "_law_other"] spPath) : FnOk P w K mg base CX0 (k + 3) f fd pLPassing (spLPassR K) := by
  refine F.ok scLPassing (fun vs H Q E h => ?_) (fun cdv A outer s H vs Q E hr h => ?_)
  · obtain ⟨h, p, g, rl, n, D, P, G, r, R, rfl, _⟩ := h
    rfl
  · obtain ⟨h, p, g, rl, n, D, P, G, r, R, rfl, hH, hF, n1, hP, pl, lP, hG, plG, lG, sub, eR, q⟩ := h
    refine ⟨_, (pss_cons (ps_par (i := 5) (j := 6) (by rfl) scLPassing.nd rfl rfl (by decide) rfl rfl (pa_cons (pe_callTy (call_dictT rfl) (by rfl) Tdict (by decide +kernel) (pa_cons (pv 2) pa_nil)) (pa_cons (pe_lst pa_nil) pa_nil)) (by rfl))
      (pss_cons (ps_for PassesOwn.never rfl (pi_tupK K rfl (pv 1)) (pg_tup (by rfl) (pgs_cons (pg_name (i := 7) scLPassing.nd rfl (.inl rfl)) (pgs_cons (pg_name (i := 8) scLPassing.nd rfl (.inl rfl)) pgs_nil)))
      (pss_one (ps_if (PW.pt (pw_and (pt_cmpR (op_inK K rfl) (pv 8) (pv 4) (by rfl)) (pw_and (pt_cmpR (op_notInK K rfl) (pv 3) (pe_tup (pa_cons (pv 8) (pa_cons (pe_dget (hu_of hr) (pv 5) (pv 7) (fun _ _ => rfl)) pa_nil))) (by rfl)) (pw_and1 (pt_cmpR (op_inK K rfl) (pv 3) (pe_orT (pe_cal C_law_path hr (by rfl) (pa_cons (pv 0) (pa_cons (pv 8) (pa_cons (pe_dget (hu_of hr) (pv 5) (pv 7) (fun _ _ => rfl)) pa_nil)))) (pe_one (pe_tup pa_nil))) (by rfl))))))
       (pss_one (ps_expr (pe_bm PySem.F.plainAttrs_list PySem.F.slot_list_append PySem.F.type_list_append mt_append (pv 6) (pa_cons (pv 7) pa_nil))))
       pss_nil)))
      (pss_one (ps_ret (pv 6))))), ?_⟩
    refine ⟨_, rfl, g, G, rfl, hG, plG.nodup, by omega, fun d hd => ⟨Nat.zero_le _, fun L hL => ⟨_, _, rfl, ?_⟩⟩⟩
    have s0 := same_upd (o := .dK (dkI G)) hd
    have s1 := s0.trans (same_upd (o := .lst []) hL)
    have ed1 : (upd (upd H d (.dK (dkI G))) L (.lst [])) d = some (.dK (dkI G)) := same_upd hL _ _ upd_same
    have eL1 : (upd (upd H d (.dK (dkI G))) L (.lst [])) L = some (.lst []) := upd_same
    have fL : H L = none := s0.free hL
    have nLd : L ≠ d := fun e => by rw [e, upd_same] at hL; cases hL
    generalize upd (upd H d (.dK (dkI G))) L (.lst []) = H1 at *
    refine ⟨_, rfl, p, rfl, (hP.same s1).sq, for_pl hP (fun i σ' H' => ∃ y7 y8, σ' = [some (.ref h), some (.ref p), some (.ref g), some (.int r), some (.ref rl), some (.ref d), some (.ref L), y7, y8] ∧ Same H H' ∧ H' d = some (.dK (dkI G)) ∧ H' L = some (.lst ((psgW D G r R (P.take i)).map V.str)))
      ⟨_, _, rfl, s1, ed1, eL1⟩ ?_ ?_ ?_⟩
    · rintro k σ' H' ⟨_, _, _, s', _⟩
      exact Tk.of s'
    · rintro k nm c σ' H2 hk ⟨y7, y8, rfl, s2, ed2, eL2⟩
      have mk' := List.mem_of_getElem? hk
      obtain ⟨t, mt⟩ := key_val (sub nm (List.mem_map.mpr ⟨_, mk', rfl⟩))
      have dg : ∀ {H' : Hp}, H' d = some (.dK (dkI G)) → DGet H' d (.str nm) (some (.int t)) := fun {H'} e => .inl ⟨_, Sum.inr nm, .inl e, rfl, (valV_dkI plG.nodup mt).symm⟩
      have es := psgW_snoc (D := D) (r := r) (R := R) plG.nodup hk mt
      have rc := pl.rm _ mk'
      have rt := plG.rm _ mt
      refine if_by (fun b H' => Same H2 H' ∧ (b = true ↔ (c ∈ R ∧ pas D c t r))) ?_ ?_ ?_
      · rintro H3 ⟨s3, z⟩
        have eL3 := s3 _ _ eL2
        rw [if_pos (z.mp rfl)] at es
        refine ⟨_, rfl, .inl ⟨rfl, _, SqL.of eL3⟩, _, rfl, L, _, _, rfl, rfl, eL3, ?_, _, _, rfl, same_put (s2.trans s3) fL, ?_, ?_⟩
        · rw [List.length_map]
          have h1 := psgW_len D G r R (P.take k)
          rw [List.length_take] at h1
          exact small1000 (by omega)
        · rw [upd_ne nLd.symm]
          exact s3 _ _ ed2
        · rw [upd_same, es, vs_app]
          rfl
      · rintro H3 ⟨s3, z⟩
        rw [if_neg (fun y => by cases z.mpr y), List.append_nil] at es
        refine ⟨_, _, rfl, s2.trans s3, s3 _ _ ed2, ?_⟩
        rw [es]
        exact s3 _ _ eL2
      · intro Q' hQ'
        refine ⟨_, rfl, _, rfl, rl, _, rfl, .inr (sqT_same s2 eR), rfl, flat_vi _, _, rfl, ?_⟩
        rw [if_neg (by decide), inV_vi]
        by_cases cR : c ∈ R
        case neg =>
          rw [decide_eq_false cR]
          exact iteF (hQ' _ _ ⟨Same.refl _, ⟨fun e => (by cases e), fun e => absurd e.1 cR⟩⟩)
        rw [decide_eq_true cR]
        refine iteT ⟨_, rfl, _, rfl, _, rfl, _, rfl, d, _, rfl, dg ed2, by show 2 ≤ sizeLine; decide, fun u hu => ⟨u, _, rfl, .inr (SqT.of upd_same), rfl, rfl, _, rfl, ?_⟩⟩
        have s3 := same_upd (o := .tup [.int c, .int t]) hu
        rw [if_pos rfl, show inV (.int r) [V.int c, V.int t] = decide (r ∈ [c, t]) from inV_vi r [c, t]]
        by_cases zz : r ∈ [c, t]
        · rw [decide_eq_true zz]
          refine iteF (hQ' _ _ ⟨s3, ⟨fun e => (by cases e), fun ⟨_, w, _, _, n1, n2⟩ => ?_⟩⟩)
          rcases List.mem_cons.mp zz with e | e
          · exact absurd e n1
          · exact absurd (List.mem_singleton.mp e) n2
        · rw [decide_eq_false zz]
          have nz : r ≠ c ∧ r ≠ t := ⟨fun e => zz (by rw [e]; exact List.mem_cons_self ..), fun e => zz (by rw [e]; exact List.mem_cons_of_mem _ (List.mem_singleton.mpr rfl))⟩
          refine iteT ⟨_, rfl, _, rfl, _, rfl, _, rfl, _, rfl, d, _, rfl, dg (s3 _ _ ed2), h, n, D, c, t, rfl, (hH.same s2).same s3, hF, n1, rc.1, rc.2, rt.1, rt.2, fun H4 s4 no => ?_, fun H4 v w s4 sp lw e4 => ?_⟩
          · refine ⟨false, rfl, iteF ⟨Nat.zero_le _, fun v hv => ⟨v, _, rfl, .inr (SqT.of (xs := vi []) upd_same), rfl, flat_vi _, _, rfl, ?_⟩⟩⟩
            rw [if_neg (by decide), inV_vi]
            exact hQ' _ _ ⟨s3.trans (s4.trans (same_upd hv)), ⟨fun e => (by cases e), fun ⟨_, w, hw, _⟩ => absurd hw (no w)⟩⟩
          · have lw0 : w ≠ [] := List.ne_nil_of_mem sp.head
            refine ⟨true, .inr (.inl ⟨_, SqT.of e4, ?_⟩), iteT ⟨v, _, rfl, .inr (SqT.of e4), rfl, flat_vi _, _, rfl, ?_⟩⟩
            · cases w with
              | nil => exact absurd rfl lw0
              | cons x w => rfl
            · rw [if_neg (by decide), inV_vi]
              refine hQ' _ _ ⟨s3.trans s4, ?_⟩
              rw [decide_eq_true_eq, pas_of hF sp]
              exact ⟨fun m => ⟨cR, m, nz⟩, fun m => m.2.1⟩
    · rintro σ' H2 ⟨y7, y8, rfl, s2, ed2, eL2⟩
      rw [List.take_length] at eL2
      exact ⟨_, rfl, q _ L s2 eL2⟩
def spLFree (K : PySem.W.Frag) : Sp := fun vs H Q _ => ∃ (h p g rl : Addr) (n : Int) (D : List (Int × Int)) (P G : List (Str × Int)) (R : List Int), vs = [.ref h, .ref p, .ref g, .ref rl] ∧ HouseAt H h n D ∧ Forest n D ∧ n ≤ 8 ∧ PlAt H p P ∧ Pl n P ∧ P.length ≤ 60 ∧ PlD H g G ∧ Pl n G ∧ G.length ≤ 100 ∧ (∀ x ∈ P.map (·.1), x ∈ G.map (·.1)) ∧ SqT K H rl (vi R) ∧ R.length ≤ 20 ∧
  ∀ H' l, Same H H' → H l = none → H' l = some (.lst (vi (fre D P G R))) → Q (.ref l) H'
abbrev nLFree : List Str := ["_law_house", "_law_placement", "_law_target", "_law_piece", "_law_homes", "_law_wanted", "_law_name", "_law_room", "_law_found"]
theorem scLFree : FnScope nLFree ["_law_house", "_law_placement", "_law_target", "_law_piece"] (defScope sLFree) := ⟨rfl, rfl, rfl, by decide +kernel, rfl, by decide +kernel, by decide +kernel⟩
theorem ok_lfree {f : Addr} {fd : FuncData} {k : Nat} (F : Fun K "_law_free" "_law_free" sLFree f fd) (Tdict : mg "dict" = none) (C_law_passing : Cal P w K mg base (k + 3) "_law_passing" pLPassing (spLPassR K)) : FnOk P w K mg base CX0 (k + 4) f fd pLFree (spLFree K) := by
  refine F.ok scLFree (fun vs H Q E h => ?_) (fun cdv A outer s H vs Q E hr h => ?_)
  · obtain ⟨h, p, g, rl, n, D, P, G, R, rfl, _⟩ := h
    rfl
  · obtain ⟨h, p, g, rl, n, D, P, G, R, rfl, hH, hF, n1, hP, pl, lP, hG, plG, lG, sub, hR, lR, q⟩ := h
    refine ⟨_, (pss_cons (ps_set (i := 4) scLFree.nd rfl (.inr rfl) (pe_callTy (call_dictT rfl) (by rfl) Tdict (by decide +kernel) (pa_cons (pv 2) pa_nil)))
      (pss_cons (ps_set (i := 5) scLFree.nd rfl (.inr rfl) (pe_lc (own := [("_law_name", 6), ("_law_room", 7)]) (g := gTup K 2 (gCons (gName 6) (gCons (gName 7) gNil))) (by rfl) scLFree.nd (pi_tupK K rfl (pv 1))
 (blkOk_by (own := [("_law_name", 6), ("_law_room", 7)]) (N := nLFree) (sc := defScope sLFree) (by decide +kernel))
 (fun _ _ _ _ _ => (pg_tup (by rfl) (pgs_cons (pg_name (i := 6) scLFree.nd rfl (.inl rfl)) (pgs_cons (pg_name (i := 7) scLFree.nd rfl (.inl rfl)) pgs_nil)))) (fun _ _ _ _ _ => pts_one (pt_cmpR (op_inK K rfl) (pv 7) (pv 3) (by rfl))) (fun _ _ _ _ _ => (pe_dget (hu_of hr) (pv 4) (pv 6) (fun _ _ => rfl)))))
      (pss_cons (ps_setLc (i := 8) (own := [("_law_room", 7)]) (g := gName 7) (by rfl) scLFree.nd rfl rfl (sw_true rfl rfl rfl (by decide +kernel)) (pi_tupK K rfl (pv 3))
 (blkOk_by (own := [("_law_room", 7)]) (N := nLFree) (sc := defScope sLFree) (by decide +kernel))
 (fun _ _ _ _ _ => (pg_name (i := 7) scLFree.nd rfl (.inl rfl))) (fun _ _ _ _ _ => pts_one (pt_cmpR (op_notInK K rfl) (pv 7) (pv 5) (by rfl))) (fun _ _ _ _ _ => (pv 7)))
      (pss_one (ps_ret (pe_lc (own := [("_law_room", 7)]) (g := gName 7) (by rfl) scLFree.nd (pi_listK K rfl (pv 8))
 (blkOk_by (own := [("_law_room", 7)]) (N := nLFree) (sc := defScope sLFree) (by decide +kernel))
 (fun _ _ _ _ _ => (pg_name (i := 7) scLFree.nd rfl (.inl rfl))) (fun _ _ _ _ _ => pts_one (pt_cmpR (op_eqDK K rfl hr.units) (pe_cal C_law_passing hr (by rfl) (pa_cons (pv 0) (pa_cons (pv 1) (pa_cons (pv 2) (pa_cons (pv 7) (pa_cons (pv 3) pa_nil)))))) (pe_lst pa_nil) (nomark _))) (fun _ _ _ _ _ => (pv 7)))))))), ?_⟩
    refine ⟨_, rfl, g, G, rfl, hG, plG.nodup, by omega, fun d hd => ?_⟩
    have s0 := same_upd (o := .dK (dkI G)) hd
    have ed0 : (upd H d (.dK (dkI G))) d = some (.dK (dkI G)) := upd_same
    have hP0 := hP.same s0
    generalize upd H d (.dK (dkI G)) = H0 at *
    refine ⟨_, rfl, p, rfl, hP0.sq, fun L hL => lc_pl hP0 (fun i H1 => Same H0 H1 ∧ ∃ W, H1 L = some (.lst (vi W)) ∧ W.length ≤ i ∧ ∀ t, t ∈ W ↔ ∃ nm c, (nm, c) ∈ P.take i ∧ c ∈ R ∧ (nm, t) ∈ G)
      ⟨same_upd hL, [], upd_same, Nat.le_refl _, fun t => ⟨fun z => (List.not_mem_nil z).elim, fun ⟨nm, c, z, _⟩ => by rw [List.take_zero] at z; exact (List.not_mem_nil z).elim⟩⟩ (fun _ _ h => Tk.of h.1) ?_ ?_⟩
    · rintro k nm c H1 hk ⟨s1, W, e1, l1, m1⟩
      have mk' := List.mem_of_getElem? hk
      obtain ⟨t, mt⟩ := key_val (sub nm (List.mem_map.mpr ⟨_, mk', rfl⟩))
      refine ⟨rfl, _, rfl, _, rfl, rl, _, rfl, .inr (sqT_same (s0.trans s1) hR), rfl, flat_vi _, _, rfl, ?_⟩
      rw [if_neg (by decide), inV_vi]
      have hkl := lt_of_get hk
      refine ite2 (fun z => ?_) (fun z => ?_)
      · have z := of_decide_eq_true z
        refine ⟨_, rfl, _, rfl, d, _, rfl, .inl ⟨_, Sum.inr nm, .inl (s1 _ _ ed0), rfl, (valV_dkI plG.nodup mt).symm⟩, _, e1, ?_, same_put s1 hL, W ++ [t], ?_, ?_, fun t' => ?_⟩
        · rw [List.length_map]
          exact small1000 (by omega)
        · rw [upd_same, vi_app]
          rfl
        · rw [List.length_append, List.length_singleton]
          omega
        · rw [List.mem_append, List.mem_singleton, m1, take_snoc hk]
          constructor
          · rintro (⟨nm', c', h1, h2, h3⟩ | rfl)
            · exact ⟨nm', c', List.mem_append_left _ h1, h2, h3⟩
            · exact ⟨nm, c, List.mem_append_right _ (List.mem_singleton.mpr rfl), z, mt⟩
          · rintro ⟨nm', c', h1, h2, h3⟩
            rcases List.mem_append.mp h1 with h1 | h1
            · exact .inl ⟨nm', c', h1, h2, h3⟩
            · have e5 := List.mem_singleton.mp h1
              injection e5 with e5 e6
              subst e5
              exact .inr (congrArg Prod.snd (key_uniq plG.nodup h3 mt rfl))
      · refine ⟨s1, W, e1, by omega, fun t' => ?_⟩
        rw [m1, take_snoc hk]
        constructor
        · rintro ⟨nm', c', h1, h2⟩
          exact ⟨nm', c', List.mem_append_left _ h1, h2⟩
        · rintro ⟨nm', c', h1, h2, h3⟩
          rcases List.mem_append.mp h1 with h1 | h1
          · exact ⟨nm', c', h1, h2, h3⟩
          · have e5 := List.mem_singleton.mp h1
            injection e5 with e5 e6
            subst e6
            exact absurd (decide_eq_true h2) z
    rintro H1 ⟨s1, W, e1, l1, m1⟩
    rw [List.take_length] at m1
    have s01 := s0.trans s1
    refine ⟨_, rfl, rl, rfl, ⟨_, sqT_same s01 hR⟩, fun M hM => lc_tup (K := K) (a := rl) (xs := vi R) (fun i H3 => Same H1 H3 ∧ H3 M = some (.lst (vi ((R.take i).filter fun r => !decide (r ∈ W)))))
      ⟨same_upd hM, upd_same⟩ (fun i H3 _ hh => sqT_same (s01.trans hh.1) hR) ?_ ?_⟩
    · rintro i x H3 hx ⟨s3, e3⟩
      obtain ⟨r, hk, rfl⟩ := get_vi hx
      refine ⟨rfl, _, rfl, _, rfl, L, _, rfl, .inl (SqL.of (s3 _ _ e1)), rfl, flat_vi _, _, rfl, ?_⟩
      rw [if_pos rfl, inV_vi, take_snoc hk, filter_snoc]
      refine ite2 (fun z => ?_) (fun z => ?_)
      · rw [if_pos z]
        refine ⟨_, rfl, _, e3, ?_, same_put s3 hM, ?_⟩
        · rw [List.length_map]
          refine small1000 (Nat.le_trans (List.length_filter_le _ _) ?_)
          rw [List.length_take]
          omega
        · rw [upd_same, vi_app]
          rfl
      · rw [if_neg z, List.append_nil]
        exact ⟨s3, e3⟩
    rintro H2 ⟨s2, e2⟩
    rw [List.length_map, List.take_length] at e2
    have s02 := s01.trans s2
    have hG2 := hG.same s02
    have hP2 := hP.same s02
    have hH2 := hH.same s02
    generalize hR1 : (R.filter fun r => !decide (r ∈ W)) = R1 at *
    have lR1 : R1.length ≤ 20 := by rw [← hR1]; exact Nat.le_trans (List.length_filter_le _ _) lR
    refine ⟨_, rfl, M, rfl, ⟨_, SqL.of e2⟩, fun N hN => lc_list (K := K) (a := M) (xs := vi R1) (fun i H3 => Same H2 H3 ∧ H3 N = some (.lst (vi ((R1.take i).filter fun r => (psgW D G r R P).isEmpty))))
      ⟨same_upd hN, upd_same⟩ (fun i H3 _ hh => SqL.of (hh.1 _ _ e2)) ?_ ?_⟩
    · rintro i x H3 hx ⟨s3, e3⟩
      obtain ⟨r, hk, rfl⟩ := get_vi hx
      refine ⟨rfl, _, rfl, _, rfl, _, rfl, _, rfl, _, rfl, h, p, g, rl, n, D, P, G, r, R, rfl, hH2.same s3, hF, n1, hP2.same s3, pl, by omega, hG2.same s3, plG, lG, sub, sqT_same (s02.trans s3) hR, fun H4 l s4 e4 => ?_⟩
      refine strs_eq0 e4 (psgW_nam pl) fun H5 s5 => ?_
      rw [take_snoc hk, filter_snoc]
      have s35 := s3.trans (s4.trans s5)
      have e5 := s5 _ _ (s4 _ _ e3)
      refine ite2 (fun z => ?_) (fun z => ?_)
      · rw [if_pos z]
        refine ⟨_, rfl, _, e5, ?_, same_put s35 hN, ?_⟩
        · rw [List.length_map]
          refine small1000 (Nat.le_trans (List.length_filter_le _ _) ?_)
          rw [List.length_take]
          omega
        · rw [upd_same, vi_app]
          rfl
      · rw [if_neg z, List.append_nil]
        exact ⟨s35, e5⟩
    · rintro H3 ⟨s3, e3⟩
      rw [List.length_map, List.take_length] at e3
      have ef : (R1.filter fun r => (psgW D G r R P).isEmpty) = fre D P G R := by
        rw [← hR1, List.filter_filter]
        refine fre_of fun r hr => ?_
        rw [Bool.and_eq_true, Bool.not_eq_true', decide_eq_false_iff_not, psgW_nil, m1]
        constructor
        · rintro ⟨h1, h2⟩ nm c t h3 h4 h5
          exact ⟨fun e => h2 ⟨nm, c, h3, h4, e ▸ h5⟩, h1 nm c t h3 h4 h5⟩
        · intro z
          refine ⟨fun nm c t h3 h4 h5 => (z nm c t h3 h4 h5).2, ?_⟩
          rintro ⟨nm, c, h3, h4, h5⟩
          exact (z nm c r h3 h4 h5).1 rfl
      rw [ef] at e3
      exact q _ N (s02.trans s3) (s02.free hN) e3
end
end Fw
namespace Fw
open PySem PySem.Spec PyProof.Rows L2
theorem rooms_get {P : List (Str × Int)} {k : Nat} {nm : Str} {r : Int} (h : P[k]? = some (nm, r)) : (P.take (k + 1)).map (·.2) = (P.take k).map (·.2) ++ [r] := by
  rw [take_snoc h, List.map_append]
  rfl
theorem nodup_le {α : Type} [DecidableEq α] {xs ys : List α} (nd : xs.Nodup) (h : ∀ x ∈ xs, x ∈ ys) : xs.length ≤ ys.length := by
  induction xs generalizing ys with
  | nil => exact Nat.zero_le _
  | cons x xs ih =>
    rw [List.nodup_cons] at nd
    have hx := h x (List.mem_cons_self ..)
    have := ih (ys := ys.erase x) nd.2 fun z hz => (List.mem_erase_of_ne (fun e : z = x => nd.1 (by rw [← e]; exact hz))).mpr (h z (List.mem_cons_of_mem _ hz))
    rw [List.length_erase_of_mem hx] at this
    have : 0 < ys.length := List.length_pos_of_mem hx
    simp only [List.length_cons]
    omega
/-- no surplus is negative -/
theorem Regs.full {n : Int} {D : List (Int × Int)} {P : List (Str × Int)} {Ls : List (List Int)} (h : Regs D (occ n P) Ls) (pl : Pl n P) {C : List Int} (hC : C ∈ Ls) : C.length ≤ (inside P C).length := by
  obtain ⟨r, hr, ic⟩ := (h.mem C).mp hC
  have := nodup_le (ys := (P.filter fun x => decide (x.2 ∈ C)).map (·.2)) (ic.up.imp fun {a b} z => by omega) fun x hx => by
    have m := pl.mem_occ.mp (ic.sub hr x hx)
    obtain ⟨y, hy, e⟩ := List.mem_map.mp m
    exact List.mem_map.mpr ⟨y, List.mem_filter.mpr ⟨hy, decide_eq_true (by rw [e]; exact hx)⟩, e⟩
  unfold inside
  rw [List.length_map] at this ⊢
  exact this
theorem Regs.small {n : Int} {D : List (Int × Int)} {P : List (Str × Int)} {Ls : List (List Int)} (h : Regs D (occ n P) Ls) (n1 : n ≤ 8) {C : List Int} (hC : C ∈ Ls) : C.length ≤ 8 := by
  obtain ⟨r, hr, ic⟩ := (h.mem C).mp hC
  exact ic.len hr n1
theorem sum_ge : ∀ Xs : List (List Int), (∀ C ∈ Xs, 0 < C.length) → Xs.length ≤ (Xs.map List.length).sum
  | [], _ => Nat.zero_le _
  | C :: Xs, hx => by
    have := sum_ge Xs fun C' hC' => hx C' (List.mem_cons_of_mem _ hC')
    have := hx C (List.mem_cons_self ..)
    simp only [List.length_cons, List.map_cons, List.sum_cons]
    omega
theorem Regs.few {n : Int} {D : List (Int × Int)} {P : List (Str × Int)} {Ls : List (List Int)} (h : Regs D (occ n P) Ls) (n1 : n ≤ 8) : Ls.length ≤ 8 := by
  have h1 := h.total (occ_up n P)
  have h2 := occ_len n P
  have h4 := sum_ge Ls fun C hC => by
    obtain ⟨r, hr', ic⟩ := (h.mem C).mp hC
    exact List.length_pos_of_mem ic.has
  omega
theorem refsL_lay : ∀ Cs : List (Addr × List Int), PyData.canLayAll0 (Cs.map fun c => PyData.tuple (c.2.map PyData.int)) = true ∧ PyData.depthAll (Cs.map fun c => PyData.tuple (c.2.map PyData.int)) ≤ 1
  | [] => by simp [PyData.canLayAll0, PyData.depthAll]
  | c :: Cs => by
    obtain ⟨h1, h2⟩ := refsL_lay Cs
    rw [List.map_cons, PyData.canLayAll0, PyData.depthAll, h1, PyData.canLay0, lay_ints, PyData.depth, deep_ints]
    exact ⟨rfl, by omega⟩
theorem refsL_shaped (Cs : List (Addr × List Int)) : SeqAt.shaped (.list (Cs.map fun c => PyData.tuple (c.2.map PyData.int))) = true := by
  obtain ⟨h1, h2⟩ := refsL_lay Cs
  unfold SeqAt.shaped
  rw [PyData.canLay0, h1, PyData.depth]
  simp
  omega
theorem refs_ne {K : PySem.W.Frag} {σ : L2.St} {L : Addr} {H : Hp} {Q : Bool → Hp → Prop} {c : Addr × List Int} {Cs : List (Addr × List Int)} (e : H L = some (.lst (refs (c :: Cs)))) (t : ∀ x ∈ c :: Cs, H x.1 = some (.tup (vi x.2))) (h : ∀ H', Same H H' → Q true H') :
    tLst tNil σ H fun y H2 => rNeD K (.ref L) y H2 fun x H3 => ∃ k, x = .bl k ∧ Q k H3 := by
  refine ⟨Nat.zero_le _, fun p hp => ⟨_, .list [], .lst (SqL.of (same_upd hp _ _ e)) (dpR fun x hx => same_upd hp _ _ (t x hx)), .lst (SqL.of upd_same) .nil, refsL_shaped (c :: Cs), shaped_list [], _, rfl, ?_⟩⟩
  have ee : PyData.eqv (.list ((c :: Cs).map fun c => PyData.tuple (c.2.map PyData.int))) (.list []) = false := by
    rw [PyData.eqv, List.map_cons, PyData.eqvAll]
  rw [ee]
  exact h _ (same_upd hp)
section
variable {P : Program} {w : World} {K : PySem.W.Frag} {mg : Str → Option Value} {base : Heap}
def spLReg : Sp := fun vs H Q _ => ∃ (h p : Addr) (n : Int) (D : List (Int × Int)) (P : List (Str × Int)), vs = [.ref h, .ref p] ∧ HouseAt H h n D ∧ Forest n D ∧ n ≤ 8 ∧ PlAt H p P ∧ Pl n P ∧ P.length ≤ 60 ∧
  ∀ H' l Cs, Same H H' → H l = none → H' l = some (.lst (refs Cs)) → TupsAt H' Cs → Regs D (occ n P) (Cs.map (·.2)) → Q (.ref l) H'
/-- the same of people in any order -/
def spLRegR : Sp := fun vs H Q _ => ∃ (h p : Addr) (n : Int) (D : List (Int × Int)) (P : List (Str × Int)), vs = [.ref h, .ref p] ∧ HouseAt H h n D ∧ Forest n D ∧ n ≤ 8 ∧ PlAt H p P ∧ (∀ x ∈ P, 0 ≤ x.2 ∧ x.2 < n) ∧ P.length ≤ 60 ∧
  ∀ H' l Cs, Same H H' → H l = none → H' l = some (.lst (refs Cs)) → TupsAt H' Cs → Regs D (occ n P) (Cs.map (·.2)) → Q (.ref l) H'
abbrev nLReg : List Str := ["_law_house", "_law_placement", "_law_held", "_law_name", "_law_room"]
theorem scLReg : FnScope nLReg ["_law_house", "_law_placement"] (defScope sLReg) := ⟨rfl, rfl, rfl, by decide +kernel, rfl, by decide +kernel, by decide +kernel⟩
theorem ok_lregR {f : Addr} {fd : FuncData} {k : Nat} (F : Fun K "_law_regions" "_law_regions" sLReg f fd) (T : Nm mg) (Tset : mg "set" = none) (C_law_connected : Cal P w K mg base (k + 1) "_law_connected" pConn (spConn K)) : FnOk P w K mg base CX0 (k + 2) f fd pLHP spLRegR := by
  refine F.ok scLReg (fun vs H Q E h => ?_) (fun cdv A outer s H vs Q E hr h => ?_)
  · obtain ⟨h, p, n, D, P, rfl, _⟩ := h
    rfl
  · obtain ⟨h, p, n, D, PP, rfl, hH, hF, n1, hP, pl, lP, q⟩ := h
    refine ⟨_, (pss_cons (ps_set (i := 2) scLReg.nd rfl (.inr rfl) (pe_lc (own := [("_law_name", 3), ("_law_room", 4)]) (g := gTup K 2 (gCons (gName 3) (gCons (gName 4) gNil))) (by rfl) scLReg.nd (pi_tupK K rfl (pv 1))
 (blkOk_by (own := [("_law_name", 3), ("_law_room", 4)]) (N := nLReg) (sc := defScope sLReg) (by decide +kernel))
 (fun _ _ _ _ _ => (pg_tup (by rfl) (pgs_cons (pg_name (i := 3) scLReg.nd rfl (.inl rfl)) (pgs_cons (pg_name (i := 4) scLReg.nd rfl (.inl rfl)) pgs_nil)))) (fun _ _ _ _ _ => pts_nil) (fun _ _ _ _ _ => (pv 4))))
      (pss_one (ps_ret (pe_callB (cr_sortedTV rfl) (by rfl) T.sorted (by decide +kernel) (pa_cons (pe_callTy (cr_setOfT rfl hr.units) (by rfl) Tset (by decide +kernel) (pa_cons (pe_lc (own := [("_law_room", 4)]) (g := gName 4) (tt := tYes) (by rfl) scLReg.nd (pi_listK K rfl (pv 2))
 (blkOk_by (own := [("_law_room", 4)]) (N := nLReg) (sc := defScope sLReg) (by decide +kernel))
 (fun _ _ _ _ _ => (pg_name (i := 4) scLReg.nd rfl (.inl rfl))) (fun _ _ _ _ _ => pts_nil) (fun _ _ _ _ _ => (pe_cal C_law_connected hr (by rfl) (pa_cons (pv 0) (pa_cons (pv 2) (pa_cons (pv 4) pa_nil)))))) pa_nil)) pa_nil))))), ?_⟩
    refine ⟨_, rfl, p, rfl, hP.sq, fun L hL => lc_pl hP (fun i H1 => Same H H1 ∧ H1 L = some (.lst (vi ((PP.take i).map (·.2))))) ⟨same_upd hL, upd_same⟩ (fun _ _ h => Tk.of h.1) ?_ ?_⟩
    · rintro k nm r H1 hk ⟨s1, e1⟩
      refine ⟨rfl, ?_⟩
      unfold tYes
      refine iteT ⟨_, rfl, _, e1, ?_, same_put s1 hL, ?_⟩
      · rw [List.length_map, List.length_map, List.length_take]
        exact small1000 (by omega)
      · rw [upd_same, rooms_get hk, vi_app]
        rfl
    rintro H1 ⟨s1, e1⟩
    rw [List.take_length] at e1
    have rR : ∀ r ∈ PP.map (·.2), 0 ≤ r ∧ r < n := fun r hr => by
      obtain ⟨x, hx, rfl⟩ := List.mem_map.mp hr
      exact pl x hx
    have cg : ∀ x, x ∈ PP.map (·.2) ↔ x ∈ occ n PP := fun x => ⟨fun m => mem_occ.mpr ⟨rR x m, m⟩, fun m => (mem_occ.mp m).2⟩
    generalize hRe : PP.map (·.2) = R at *
    have lR : R.length ≤ 60 := by rw [← hRe, List.length_map]; exact lP
    refine ⟨_, rfl, L, rfl, ⟨_, SqL.of e1⟩, fun M hM => lc_list (K := K) (a := L) (xs := vi R) (fun j H2 => ∃ ks : List (Addr × List Int), Same H1 H2 ∧ H2 M = some (.lst (refs ks)) ∧ TupsAt H2 ks ∧ ks.length = j ∧ (∀ c ∈ ks, ∃ r ∈ R, IsC D R r c.2) ∧ ∀ r ∈ R.take j, ∃ c ∈ ks, IsC D R r c.2)
      ⟨[], same_upd hM, upd_same, fun c hc => (by cases hc), rfl, fun c hc => (by cases hc), fun r hr => (by simp at hr)⟩ (fun j H2 _ hh => ?_) ?_ ?_⟩
    · obtain ⟨ks, s2, _⟩ := hh
      exact SqL.of (s2 _ _ e1)
    · rintro j x H2 hx ⟨ks, s2, e2, hT, hl, h1, h2⟩
      obtain ⟨r, er, rfl⟩ := get_vi hx
      have hj : j < R.length := lt_of_get er
      have mr := List.mem_of_getElem? er
      refine ⟨rfl, ?_⟩
      unfold tYes
      refine iteT ?_
      refine ⟨_, rfl, _, rfl, _, rfl, h, L, n, D, R, r, rfl, hH.same (s1.trans s2), hF, n1, .inl (SqL.of (s2 _ _ e1)), (rR r mr).1, (rR r mr).2, fun H3 t l s3 et hC ll => ?_⟩
      have e3 := s3 _ _ e2
      refine ⟨_, e3, by unfold refs; rw [List.length_map]; exact small1000 (by omega), ks ++ [(t, l)], same_put (s2.trans s3) hM, ?_, fun c hc => ?_, ?_, fun c hc => ?_, fun x hx => ?_⟩
      · rw [upd_same]
        unfold refs
        rw [List.map_append]
        rfl
      · rcases List.mem_append.mp hc with hc | hc
        · have z := hT.same s3 c hc
          exact ⟨(upd_ne (ne_of z.1 e3 (by intro q; cases q))).trans z.1, z.2⟩
        · rw [List.mem_singleton.mp hc]
          exact ⟨(upd_ne (ne_of et e3 (by intro q; cases q))).trans et, ll⟩
      · rw [List.length_append, List.length_singleton, hl]
      · rcases List.mem_append.mp hc with hc | hc
        · exact h1 c hc
        · rw [List.mem_singleton.mp hc]
          exact ⟨r, mr, hC⟩
      · rcases (take_succ_mem er).mp hx with hx | hx
        · obtain ⟨c, hc, z⟩ := h2 x hx
          exact ⟨c, List.mem_append_left _ hc, z⟩
        · rw [hx]
          exact ⟨(t, l), List.mem_append_right _ (List.mem_singleton.mpr rfl), hC⟩
    · rintro H2 ⟨ks, s2, e2, hT, hl, h1, h2⟩
      rw [List.length_map] at hl h2
      rw [List.take_length] at h2
      refine ⟨M, ks, rfl, SqL.of e2, fun p hp => SqT.of (hT p hp).1, by omega, fun a S ha m1 m2 => ?_⟩
      have sa : Same H2 (upd H2 a (SetTO P w a S)) := same_upd ha
      refine ⟨a, S, rfl, upd_same, fun p hp => ⟨SqT.of (sa _ _ (hT p (m1 p hp)).1), ?_⟩, fun S' p mm up hp => ?_⟩
      · obtain ⟨r, _, hC⟩ := h1 p (m1 p hp)
        intro e
        have := hC.has
        rw [e] at this
        cases this
      · have sb := sa.trans (same_upd (o := .lst (S'.map fun q => V.ref q.1)) hp)
        refine q _ p S' ((s1.trans s2).trans sb) (((s1.trans s2).trans sa).free hp) upd_same (fun c hc => hT.same sb c (m1 c ((mm c).mp hc))) ⟨up, fun l => ⟨fun hl => ?_, fun hl => ?_⟩⟩
        · obtain ⟨c, hc, rfl⟩ := List.mem_map.mp hl
          obtain ⟨r, hr', hC⟩ := h1 c (m1 c ((mm c).mp hc))
          exact ⟨r, (cg r).mp hr', hC.congr cg⟩
        · obtain ⟨r, hr', hC⟩ := hl
          obtain ⟨c, hc, hC2⟩ := h2 r ((cg r).mpr hr')
          obtain ⟨c2, hc2, e2⟩ := List.mem_map.mp (m2 c hc)
          rw [hC.one (hC2.congr cg), ← e2]
          exact List.mem_map_of_mem ((mm c2).mpr hc2)
theorem ok_lreg {f : Addr} {fd : FuncData} {k : Nat} (F : Fun K "_law_regions" "_law_regions" sLReg f fd) (T : Nm mg) (Tset : mg "set" = none) (C_law_connected : Cal P w K mg base (k + 1) "_law_connected" pConn (spConn K)) : FnOk P w K mg base CX0 (k + 2) f fd pLHP spLReg :=
  (ok_lregR F T Tset C_law_connected).imp fun vs H Q E ⟨h, p, n, D, P, e, hH, hF, n1, hP, pl, lP, q⟩ => ⟨h, p, n, D, P, e, hH, hF, n1, hP, pl.rm, lP, q⟩
end
end Fw
namespace Fw
open PySem PySem.Spec PyProof.Rows L2

/-- who is outside -/
def outs1 (D : List (Int × Int)) (R : List Int) (G : List (Str × Int)) (x : Str × Int) : Prop := ∀ t, (x.1, t) ∈ G → ¬ Wk D R x.2 t
open Classical in
noncomputable def outp (D : List (Int × Int)) (R : List Int) (G X : List (Str × Int)) : List Str := (X.filter fun x => decide (outs1 D R G x)).map (·.1)
open Classical in
theorem outp_snoc {D : List (Int × Int)} {R : List Int} {G X : List (Str × Int)} {k : Nat} {nm : Str} {r : Int} (h : X[k]? = some (nm, r)) : outp D R G (X.take (k + 1)) = outp D R G (X.take k) ++ if outs1 D R G (nm, r) then [nm] else [] := by
  unfold outp
  rw [take_snoc h, filter_snoc, List.map_append]
  congr 1
  by_cases c : outs1 D R G (nm, r)
  · rw [if_pos c, if_pos (decide_eq_true c)]
    rfl
  · rw [if_neg c, if_neg (by simpa using c)]
    rfl
theorem outp_len (D : List (Int × Int)) (R : List Int) (G X : List (Str × Int)) : (outp D R G X).length ≤ X.length := by
  unfold outp
  rw [List.length_map]
  exact List.length_filter_le _ _
open Classical in
theorem outp_self (D : List (Int × Int)) (R : List Int) (P : List (Str × Int)) : outp D R P P = [] := by
  unfold outp
  rw [List.map_eq_nil_iff, List.filter_eq_nil_iff]
  intro x hx z
  exact (of_decide_eq_true z) x.2 hx .base
theorem outs1_iff {D : List (Int × Int)} {R : List Int} {G : List (Str × Int)} (nd : (G.map (·.1)).Nodup) {nm : Str} {r t : Int} (h : (nm, t) ∈ G) : outs1 D R G (nm, r) ↔ ¬ Wk D R r t := by
  refine ⟨fun o => o t h, fun o t' h' => ?_⟩
  have := key_uniq nd h h' rfl
  rw [← show t = t' from congrArg Prod.snd this]
  exact o
open Classical in
/-- who wants a room outside R -/
noncomputable def leavL (G : List (Str × Int)) (R : List Int) (ns : List Str) : List Str := ns.filter fun nm => decide (∀ t, (nm, t) ∈ G → t ∉ R)
noncomputable def leav (P G : List (Str × Int)) (R : List Int) : List Str := leavL G R (inside P R)
theorem leavL_len (G : List (Str × Int)) (R : List Int) (ns : List Str) : (leavL G R ns).length ≤ ns.length := List.length_filter_le _ _
open Classical in
theorem leavL_snoc {G : List (Str × Int)} {R : List Int} {ns : List Str} {k : Nat} {nm : Str} {t : Int} (nd : (G.map (·.1)).Nodup) (h : ns[k]? = some nm) (m : (nm, t) ∈ G) : leavL G R (ns.take (k + 1)) = leavL G R (ns.take k) ++ if t ∈ R then [] else [nm] := by
  unfold leavL
  rw [take_snoc h, filter_snoc]
  congr 1
  have e : (∀ t', (nm, t') ∈ G → t' ∉ R) ↔ t ∉ R := ⟨fun f => f t m, fun n t' m' => by
    have := key_uniq nd m m' rfl
    rw [← show t = t' from congrArg Prod.snd this]
    exact n⟩
  by_cases c : t ∈ R
  · rw [if_pos c, if_neg (by rw [decide_eq_true_eq, e]; exact fun z => z c)]
  · rw [if_neg c, if_pos (decide_eq_true (e.mpr c))]
theorem inside_sub {P : List (Str × Int)} {R : List Int} {nm : Str} (h : nm ∈ inside P R) : nm ∈ P.map (·.1) := by
  unfold inside at h
  obtain ⟨x, hx, rfl⟩ := List.mem_map.mp h
  exact List.mem_map.mpr ⟨x, (List.mem_filter.mp hx).1, rfl⟩
theorem mem_inside {P : List (Str × Int)} {R : List Int} {nm : Str} : nm ∈ inside P R ↔ ∃ r, (nm, r) ∈ P ∧ r ∈ R := by
  unfold inside
  rw [List.mem_map]
  constructor
  · rintro ⟨x, hx, rfl⟩
    have := List.mem_filter.mp hx
    exact ⟨x.2, this.1, of_decide_eq_true this.2⟩
  · rintro ⟨r, h1, h2⟩
    exact ⟨(nm, r), List.mem_filter.mpr ⟨h1, decide_eq_true h2⟩, rfl⟩
theorem inside_up {P : List (Str × Int)} {R : List Int} (h : (P.map (·.1)).Pairwise ltS) : (inside P R).Pairwise ltS := by
  unfold inside
  rw [List.pairwise_map] at h ⊢
  exact h.filter _
theorem nodup_ltS {ns : List Str} (h : ns.Pairwise ltS) : ns.Nodup := List.nodup_iff_pairwise_ne.mpr (h.imp fun {a b} l => fun (e : a = b) => ltS_irr b (by rw [e] at l; exact l))
open Classical in
theorem mem_leav {P G : List (Str × Int)} {R : List Int} {nm : Str} : nm ∈ leav P G R ↔ (∃ r, (nm, r) ∈ P ∧ r ∈ R) ∧ ∀ t, (nm, t) ∈ G → t ∉ R := by
  unfold leav leavL
  rw [List.mem_filter, mem_inside, decide_eq_true_eq]
/-- who is found outside, by the regions so far -/
structure Left (D : List (Int × Int)) (R : List Int) (G P : List (Str × Int)) (Ls : List (List Int)) (acc : List Str) : Prop where
  nd : acc.Nodup
  mem : ∀ nm, nm ∈ acc ↔ ∃ r, (nm, r) ∈ P ∧ outs1 D R G (nm, r) ∧ ∃ C ∈ Ls, r ∈ C
  len : acc.length ≤ P.length
theorem sub_len {xs ys : List Str} (nd : xs.Nodup) (h : ∀ x ∈ xs, x ∈ ys) : xs.length ≤ ys.length := by
  induction xs generalizing ys with
  | nil => exact Nat.zero_le _
  | cons x xs ih =>
    rw [List.nodup_cons] at nd
    have hx := h x (List.mem_cons_self ..)
    have := ih (ys := ys.erase x) nd.2 fun z hz => (List.mem_erase_of_ne (fun e : z = x => nd.1 (by rw [← e]; exact hz))).mpr (h z (List.mem_cons_of_mem _ hz))
    rw [List.length_erase_of_mem hx] at this
    have : 0 < ys.length := List.length_pos_of_mem hx
    simp only [List.length_cons]
    omega
theorem Left.nil {D : List (Int × Int)} {R : List Int} {G P : List (Str × Int)} : Left D R G P [] [] :=
  ⟨List.nodup_nil, fun nm => ⟨fun h => (List.not_mem_nil h).elim, fun ⟨_, _, _, C, hC, _⟩ => (List.not_mem_nil hC).elim⟩, Nat.zero_le _⟩
theorem Left.step {n : Int} {D : List (Int × Int)} {G P : List (Str × Int)} {Ls : List (List Int)} {acc : List Str} {i : Nat} {C : List Int} (l : Left D (occ n P) G P (Ls.take i) acc) (pl : Pl n P) (nd : (G.map (·.1)).Nodup) (sub : ∀ x ∈ P.map (·.1), x ∈ G.map (·.1))
    (RC : Regs D (occ n P) Ls) (hC : Ls[i]? = some C) : Left D (occ n P) G P (Ls.take (i + 1)) (acc ++ leav P G C) := by
  have hCm := List.mem_of_getElem? hC
  obtain ⟨a, ha, ia⟩ := (RC.mem C).mp hCm
  have key : ∀ nm r, (nm, r) ∈ P → r ∈ C → (outs1 D (occ n P) G (nm, r) ↔ ∀ t, (nm, t) ∈ G → t ∉ C) := fun nm r h1 h2 => by
    have ir := ia.re ha h2
    exact ⟨fun o t m z => o t m ((ir.mem t).mp z), fun o t m z => o t m ((ir.mem t).mpr z)⟩
  have mm : ∀ nm, nm ∈ acc ++ leav P G C ↔ ∃ r, (nm, r) ∈ P ∧ outs1 D (occ n P) G (nm, r) ∧ ∃ C' ∈ Ls.take (i + 1), r ∈ C' := fun nm => by
    rw [List.mem_append, l.mem, mem_leav, take_snoc hC]
    constructor
    · rintro (⟨r, h1, h2, C', h3, h4⟩ | ⟨⟨r, h1, h2⟩, h3⟩)
      · exact ⟨r, h1, h2, C', List.mem_append_left _ h3, h4⟩
      · exact ⟨r, h1, (key nm r h1 h2).mpr h3, C, List.mem_append_right _ (List.mem_singleton.mpr rfl), h2⟩
    · rintro ⟨r, h1, h2, C', h3, h4⟩
      rcases List.mem_append.mp h3 with h3 | h3
      · exact .inl ⟨r, h1, h2, C', h3, h4⟩
      · rw [List.mem_singleton] at h3
        subst h3
        exact .inr ⟨⟨r, h1, h4⟩, (key nm r h1 h4).mp h2⟩
  have ndn : (acc ++ leav P G C).Nodup := by
    rw [List.nodup_append]
    refine ⟨l.nd, (nodup_ltS (inside_up pl.nm.up)).filter _, fun x hx y hy e => ?_⟩
    subst e
    obtain ⟨r, h1, _, C', h3, h4⟩ := (l.mem x).mp hx
    obtain ⟨⟨r', h5, h6⟩, _⟩ := mem_leav.mp hy
    have er : r = r' := congrArg Prod.snd (key_uniq pl.nodup h1 h5 rfl)
    subst er
    have eC := RC.one (List.mem_of_mem_take h3) hCm h4 h6
    subst eC
    obtain ⟨j, hj, ej⟩ := List.mem_take_iff_getElem.mp h3
    have hi := lt_of_get hC
    have up := List.pairwise_iff_getElem.mp RC.up j i (by omega) hi (by omega)
    rw [ej, (List.getElem?_eq_some_iff.mp hC).2] at up
    exact absurd up (by rw [lexI_asym up]; exact Bool.false_ne_true)
  refine ⟨ndn, mm, ?_⟩
  have := sub_len (ys := P.map (·.1)) ndn fun x hx => by
    obtain ⟨r, h1, _⟩ := (mm x).mp hx
    exact List.mem_map.mpr ⟨_, h1, rfl⟩
  rw [List.length_map] at this
  exact this
open Classical in
theorem Left.done {n : Int} {D : List (Int × Int)} {G P : List (Str × Int)} {Ls : List (List Int)} {acc ys : List Str} (l : Left D (occ n P) G P Ls acc) (pl : Pl n P) (RC : Regs D (occ n P) Ls) (p : ys.Perm acc) (s : sortedS ys = true) : ys = outp D (occ n P) G P := by
  have up : ys.Pairwise ltS := ((sortedS_le s).and (List.nodup_iff_pairwise_ne.mp (p.nodup_iff.mpr l.nd))).imp fun {a b} h => ltS_of h.1 h.2
  refine upS_ext up ?_ fun nm => ?_
  · unfold outp
    have := pl.nm.up
    rw [List.pairwise_map] at this ⊢
    exact this.filter _
  · rw [p.mem_iff, l.mem]
    unfold outp
    rw [List.mem_map]
    constructor
    · rintro ⟨r, h1, h2, _⟩
      exact ⟨(nm, r), List.mem_filter.mpr ⟨h1, decide_eq_true h2⟩, rfl⟩
    · rintro ⟨x, hx, rfl⟩
      obtain ⟨h1, h2⟩ := List.mem_filter.mp hx
      obtain ⟨C, hC, m⟩ := RC.ex (occ_up n P) (pl.mem_occ.mpr (List.mem_map_of_mem (f := (·.2)) h1))
      exact ⟨x.2, h1, of_decide_eq_true h2, C, hC, m⟩
section
variable {P : Program} {w : World} {K : PySem.W.Frag} {mg : Str → Option Value} {base : Heap}

def spLOutside : Sp := fun vs H Q _ => ∃ (h p g : Addr) (n : Int) (D : List (Int × Int)) (P G : List (Str × Int)), vs = [.ref h, .ref p, .ref g] ∧ HouseAt H h n D ∧ Forest n D ∧ 0 ≤ n ∧ n ≤ 8 ∧ PlAt H p P ∧ Pl n P ∧ P.length ≤ 100 ∧ PlD H g G ∧ (G.map (·.1)).Nodup ∧ G.length ≤ 100 ∧ (∀ x ∈ P.map (·.1), x ∈ G.map (·.1)) ∧
  ∀ H' l, Same H H' → H' l = some (.lst ((outp D (occ n P) G P).map V.str)) → Q (.ref l) H'
abbrev nLOutside : List Str := ["_law_house", "_law_placement", "_law_target", "_law_homes", "_law_held", "_law_name", "_law_room"]
theorem scLOutside : FnScope nLOutside ["_law_house", "_law_placement", "_law_target"] (defScope sLOutside) := ⟨rfl, rfl, rfl, by decide +kernel, rfl, by decide +kernel, by decide +kernel⟩
theorem ok_loutside {f : Addr} {fd : FuncData} {k : Nat} (F : Fun K "_law_outside" "_law_outside" sLOutside f fd) (T : Nm mg) (Tdict : mg "dict" = none) (C_law_connected : Cal P w K mg base (k + 2) "_law_connected" pConn (spConn K)) : FnOk P w K mg base CX0 (k + 3) f fd pLHPT spLOutside := by
  refine F.ok scLOutside (fun vs H Q E h => ?_) (fun cdv A outer s H vs Q E hr h => ?_)
  · obtain ⟨h, p, g, n, D, P, G, rfl, _⟩ := h
    rfl
  · obtain ⟨h, p, g, n, D, P, G, rfl, hH, hF, n0, n1, hP, pl, lP, hG, nd, lG, sub, q⟩ := h
    refine ⟨_, (pss_cons (ps_asg (pe_tup (pa_cons (pe_callTy (call_dictT rfl) (by rfl) Tdict (by decide +kernel) (pa_cons (pv 2) pa_nil)) (pa_cons (pe_lc (own := [("_law_name", 5), ("_law_room", 6)]) (g := gTup K 2 (gCons (gName 5) (gCons (gName 6) gNil))) (by rfl) scLOutside.nd (pi_tupK K rfl (pv 1))
 (blkOk_by (own := [("_law_name", 5), ("_law_room", 6)]) (N := nLOutside) (sc := defScope sLOutside) (by decide +kernel))
 (fun _ _ _ _ _ => (pg_tup (by rfl) (pgs_cons (pg_name (i := 5) scLOutside.nd rfl (.inl rfl)) (pgs_cons (pg_name (i := 6) scLOutside.nd rfl (.inl rfl)) pgs_nil)))) (fun _ _ _ _ _ => pts_nil) (fun _ _ _ _ _ => (pv 6))) pa_nil))) (pg_tup (by rfl) (pgs_cons (pg_name (i := 3) scLOutside.nd rfl (.inr rfl)) (pgs_cons (pg_name (i := 4) scLOutside.nd rfl (.inr rfl)) pgs_nil))))
      (pss_one (ps_ret (pe_lc (own := [("_law_name", 5), ("_law_room", 6)]) (g := gTup K 2 (gCons (gName 5) (gCons (gName 6) gNil))) (by rfl) scLOutside.nd (pi_tupK K rfl (pv 1))
 (blkOk_by (own := [("_law_name", 5), ("_law_room", 6)]) (N := nLOutside) (sc := defScope sLOutside) (by decide +kernel))
 (fun _ _ _ _ _ => (pg_tup (by rfl) (pgs_cons (pg_name (i := 5) scLOutside.nd rfl (.inl rfl)) (pgs_cons (pg_name (i := 6) scLOutside.nd rfl (.inl rfl)) pgs_nil)))) (fun _ _ _ _ _ => pts_one (pt_cmpR (op_notInK K rfl) (pe_dget (hu_of hr) (pv 3) (pv 5) (fun _ _ => rfl)) (pe_cal C_law_connected hr (by rfl) (pa_cons (pv 0) (pa_cons (pv 4) (pa_cons (pv 6) pa_nil)))) (by rfl))) (fun _ _ _ _ _ => (pv 5)))))), ?_⟩
    refine ⟨_, rfl, g, G, rfl, hG, nd, by omega, fun d hd => ?_⟩
    have s1 := same_upd (o := .dK (dkI G)) hd
    have hP1 := hP.same s1
    have ed1 : (upd H d (.dK (dkI G))) d = some (.dK (dkI G)) := upd_same
    have hH1 := hH.same s1
    generalize upd H d (.dK (dkI G)) = H1 at *
    refine ⟨_, rfl, p, rfl, hP1.sq, fun L hL => lc_pl hP1 (fun i H' => Same H1 H' ∧ H' L = some (.lst (vi ((P.take i).map (·.2))))) ⟨same_upd hL, upd_same⟩ (fun _ _ h => Tk.of h.1) ?_ ?_⟩
    · rintro k nm r H3 hk ⟨s3, e3⟩
      refine ⟨rfl, ?_⟩
      unfold tYes
      refine iteT ⟨_, rfl, _, e3, ?_, same_put s3 hL, ?_⟩
      · rw [List.length_map, List.length_map, List.length_take]
        exact small1000 (by omega)
      · rw [upd_same, rooms_snoc hk, vi_app]
        rfl
    rintro H2 ⟨s2, e2⟩
    rw [List.take_length] at e2
    refine ⟨by show 2 ≤ sizeLine; decide, fun t ht => ⟨t, _, rfl, SqT.of upd_same, rfl, _, _, rfl, _, _, rfl, rfl, ?_⟩⟩
    have s3 := s2.trans (same_upd (o := .tup [.ref d, .ref L]) ht)
    have ed3 := s3 _ _ ed1
    have eL3 := same_upd (o := .tup [.ref d, .ref L]) ht _ _ e2
    have hP3 := hP1.same s3
    have hH3 := hH1.same s3
    generalize upd H2 t (.tup [.ref d, .ref L]) = H3 at *
    refine ⟨_, rfl, p, rfl, hP3.sq, fun M hM => lc_pl hP3 (fun i H' => Same H3 H' ∧ H' M = some (.lst ((outp D (occ n P) G (P.take i)).map V.str))) ⟨same_upd hM, upd_same⟩ (fun _ _ h => Tk.of h.1) ?_ ?_⟩
    · rintro k nm r H4 hk ⟨s4, e4⟩
      have mk' := List.mem_of_getElem? hk
      have rr := pl.rm _ mk'
      obtain ⟨v, mv⟩ := key_val (sub nm (List.mem_map.mpr ⟨_, mk', rfl⟩))
      refine ⟨rfl, _, rfl, _, rfl, d, _, rfl, .inl ⟨_, Sum.inr nm, .inl (s4 _ _ ed3), rfl, (valV_dkI nd mv).symm⟩, ?_⟩
      refine ⟨_, rfl, _, rfl, _, rfl, h, L, n, D, P.map (·.2), r, rfl, hH3.same s4, hF, n1, .inl (SqL.of (s4 _ _ eL3)), rr.1, rr.2, fun H5 u l s5 e5 il ll => ?_⟩
      refine ⟨u, _, rfl, .inr (SqT.of e5), rfl, flat_vi _, _, rfl, ?_⟩
      have eo := outp_snoc (D := D) (R := occ n P) (G := G) hk
      have cg : Wk D (P.map (·.2)) r v ↔ Wk D (occ n P) r v := Wk.congr fun x => pl.mem_occ.symm
      rw [if_pos rfl, inV_vi]
      refine ite2 (fun c => ?_) (fun c => ?_)
      · have c' : outs1 D (occ n P) G (nm, r) := (outs1_iff nd mv).mpr fun w => by
          rw [decide_eq_true ((il.mem v).mpr (cg.mpr w))] at c
          cases c
        rw [if_pos c'] at eo
        refine ⟨_, rfl, _, s5 _ _ e4, ?_, same_put (s4.trans s5) hM, ?_⟩
        · rw [List.length_map]
          have h1 := outp_len D (occ n P) G (P.take k)
          rw [List.length_take] at h1
          exact small1000 (by omega)
        · rw [upd_same, eo, vs_app]
          rfl
      · have c' : ¬ outs1 D (occ n P) G (nm, r) := fun o => c (by
          rw [decide_eq_false (fun m => (outs1_iff nd mv).mp o (cg.mp ((il.mem v).mp m)))]
          rfl)
        rw [if_neg c', List.append_nil] at eo
        refine ⟨s4.trans s5, ?_⟩
        rw [eo]
        exact s5 _ _ e4
    · rintro H4 ⟨s4, e4⟩
      rw [List.take_length] at e4
      exact q _ M ((s1.trans s3).trans s4) e4
end
end Fw
namespace Fw
open PySem PySem.Spec PyProof.Rows L2
theorem inV_vs (x : Str) (R : List Str) : inV (.str x) (R.map V.str) = decide (x ∈ R) := by
  unfold inV
  rw [Bool.eq_iff_iff, List.any_eq_true, decide_eq_true_eq]
  constructor
  · rintro ⟨y, hy, e⟩
    obtain ⟨z, hz, rfl⟩ := List.mem_map.mp hy
    have : z = x := by simpa [eqV] using e
    exact this ▸ hz
  · intro h
    exact ⟨.str x, List.mem_map_of_mem h, by simp [eqV]⟩
theorem flat_vs (R : List Str) : (R.map V.str).all flatV = true := by
  rw [List.all_eq_true]
  intro x hx
  obtain ⟨z, _, rfl⟩ := List.mem_map.mp hx
  rfl
open Classical in
/-- a tight region in which nobody is outside -/
noncomputable def ctb (D : List (Int × Int)) (n : Int) (P G : List (Str × Int)) (C : List Int) : Bool := decide ((inside P C).length = C.length ∧ ∀ nm ∈ inside P C, nm ∉ outp D (occ n P) G P)
open Classical in
theorem ctb_iff {D : List (Int × Int)} {n : Int} {P G : List (Str × Int)} {C : List Int} : ctb D n P G C = true ↔ ((inside P C).length = C.length ∧ ∀ nm ∈ inside P C, nm ∉ outp D (occ n P) G P) := by
  unfold ctb
  rw [decide_eq_true_eq]
theorem inside_nam {P : List (Str × Int)} {n : Int} (pl : Pl n P) (R : List Int) : ∀ x ∈ inside P R, Nam x := fun x hx => by
  unfold inside at hx
  obtain ⟨y, hy, rfl⟩ := List.mem_map.mp hx
  exact pl.nm.nam _ (List.mem_map_of_mem (f := (·.1)) (List.mem_filter.mp hy).1)
section
variable {P : Program} {w : World} {K : PySem.W.Frag} {mg : Str → Option Value} {base : Heap}
def spLClosed : Sp := fun vs H Q _ => ∃ (h p g : Addr) (n : Int) (D : List (Int × Int)) (P G : List (Str × Int)), vs = [.ref h, .ref p, .ref g] ∧ HouseAt H h n D ∧ Forest n D ∧ 0 ≤ n ∧ n ≤ 8 ∧ PlAt H p P ∧ Pl n P ∧ P.length ≤ 60 ∧ PlD H g G ∧ (G.map (·.1)).Nodup ∧ G.length ≤ 100 ∧ (∀ x ∈ P.map (·.1), x ∈ G.map (·.1)) ∧
  ∀ H' l Cs Ls, Same H H' → H' l = some (.lst (refs Cs)) → TupsAt H' Cs → Regs D (occ n P) Ls → Cs.map (·.2) = Ls.filter (ctb D n P G) → Q (.ref l) H'
abbrev nLClosed : List Str := ["_law_house", "_law_placement", "_law_target", "_law_lost", "_law_found", "_law_region", "_law_people", "_law_name", "_law_room"]
theorem scLClosed : FnScope nLClosed ["_law_house", "_law_placement", "_law_target"] (defScope sLClosed) := ⟨rfl, rfl, rfl, by decide +kernel, rfl, by decide +kernel, by decide +kernel⟩
theorem ok_lclosed {f : Addr} {fd : FuncData} {k : Nat} (F : Fun K "_law_closed_tight" "_law_closed_tight" sLClosed f fd) (T : Nm mg) (C_law_outside : Cal P w K mg base (k + 3) "_law_outside" pLHPT spLOutside) (C_law_regions : Cal P w K mg base (k + 3) "_law_regions" pLHP spLReg) : FnOk P w K mg base CX0 (k + 4) f fd pLHPT spLClosed := by
  refine F.ok scLClosed (fun vs H Q E h => ?_) (fun cdv A outer s H vs Q E hr h => ?_)
  · obtain ⟨h, p, g, n, D, P, G, rfl, _⟩ := h
    rfl
  · obtain ⟨h, p, g, n, D, P, G, rfl, hH, hF, n0, n1, hP, pl, lP, hG, nd, lG, sub, q⟩ := h
    refine ⟨_, (pss_cons (ps_asg (pe_tup (pa_cons (pe_cal C_law_outside hr (by rfl) (pa_cons (pv 0) (pa_cons (pv 1) (pa_cons (pv 2) pa_nil)))) (pa_cons (pe_lst pa_nil) pa_nil))) (pg_tup (by rfl) (pgs_cons (pg_name (i := 3) scLClosed.nd rfl (.inr rfl)) (pgs_cons (pg_name (i := 4) scLClosed.nd rfl (.inl rfl)) pgs_nil))))
      (pss_cons (ps_for PassesOwn.never rfl (pi_listK K rfl (pe_cal C_law_regions hr (by rfl) (pa_cons (pv 0) (pa_cons (pv 1) pa_nil)))) (pg_name (i := 5) scLClosed.nd rfl (.inr rfl))
      (pss_cons (ps_setLc (i := 6) (own := [("_law_name", 7), ("_law_room", 8)]) (g := gTup K 2 (gCons (gName 7) (gCons (gName 8) gNil))) (by rfl) scLClosed.nd rfl rfl (sw_true rfl rfl rfl (by decide +kernel)) (pi_tupK K rfl (pv 1))
 (blkOk_by (own := [("_law_name", 7), ("_law_room", 8)]) (N := nLClosed) (sc := defScope sLClosed) (by decide +kernel))
 (fun _ _ _ _ _ => (pg_tup (by rfl) (pgs_cons (pg_name (i := 7) scLClosed.nd rfl (.inl rfl)) (pgs_cons (pg_name (i := 8) scLClosed.nd rfl (.inl rfl)) pgs_nil)))) (fun _ _ _ _ _ => pts_one (pt_cmpR (op_inK K rfl) (pv 8) (pv 5) (by rfl))) (fun _ _ _ _ _ => (pv 7)))
       (pss_one (ps_if (PW.pt (pw_and (pt_cmpR op_eq (pe_callB (call_lenK K rfl) (by rfl) T.len (by decide +kernel) (pa_cons (pv 6) pa_nil)) (pe_callB (call_lenK K rfl) (by rfl) T.len (by decide +kernel) (pa_cons (pv 5) pa_nil)) (nomark _)) (pw_and1 (pt_cmpR (op_eqDK K rfl hr.units) (pe_lc (own := [("_law_name", 7)]) (g := gName 7) (by rfl) scLClosed.nd (pi_listK K rfl (pv 6))
 (blkOk_by (own := [("_law_name", 7)]) (N := nLClosed) (sc := defScope sLClosed) (by decide +kernel))
 (fun _ _ _ _ _ => (pg_name (i := 7) scLClosed.nd rfl (.inl rfl))) (fun _ _ _ _ _ => pts_one (pt_cmpR (op_inK K rfl) (pv 7) (pv 3) (by rfl))) (fun _ _ _ _ _ => (pv 7))) (pe_lst pa_nil) (nomark _)))))
       (pss_one (ps_expr (pe_bm PySem.F.plainAttrs_list PySem.F.slot_list_append PySem.F.type_list_append mt_append (pv 4) (pa_cons (pv 5) pa_nil))))
       pss_nil))))
      (pss_one (ps_ret (pv 4))))), ?_⟩
    refine ⟨_, rfl, _, rfl, _, rfl, h, p, g, n, D, P, G, rfl, hH, hF, n0, n1, hP, pl, by omega, hG, nd, lG, sub, fun H1 O s1 e1 => ?_⟩
    generalize hO : outp D (occ n P) G P = Os at *
    refine ⟨Nat.zero_le _, fun L hL => ⟨by show 2 ≤ sizeLine; decide, fun t ht => ⟨t, _, rfl, SqT.of upd_same, rfl, _, _, rfl, _, _, rfl, rfl, ?_⟩⟩⟩
    have s2a := same_upd (o := .lst []) hL
    have s2 := s1.trans (s2a.trans (same_upd (o := .tup [.ref O, .ref L]) ht))
    have eO2 := (s2a.trans (same_upd (o := .tup [.ref O, .ref L]) ht)) _ _ e1
    have eL2 := same_upd (o := .tup [.ref O, .ref L]) ht _ _ (upd_same (H := H1) (a := L) (o := .lst []))
    have fL : H L = none := s1.free hL
    generalize upd (upd H1 L (.lst [])) t (.tup [.ref O, .ref L]) = H2 at *
    refine ⟨_, rfl, _, rfl, h, p, n, D, P, rfl, hH.same s2, hF, n1, hP.same s2, pl, lP, fun H3 rl Cs s3 _ e3 t3 RC => ?_⟩
    have s3' := s2.trans s3
    have lCs : ∀ c ∈ Cs, c.2.length ≤ 8 := fun c hc => by
      obtain ⟨r, hr', ic⟩ := (RC.mem c.2).mp (List.mem_map_of_mem hc)
      exact ic.len hr' n1
    have nC : Cs.length ≤ 8 := by
      have h1 := RC.total (occ_up n P)
      have h2 := occ_len n P
      have h3 : ∀ Xs : List (List Int), (∀ C ∈ Xs, 0 < C.length) → Xs.length ≤ (Xs.map List.length).sum := fun Xs hx => by
        induction Xs with
        | nil => exact Nat.zero_le _
        | cons C Xs ih =>
          have := ih fun C' hC' => hx C' (List.mem_cons_of_mem _ hC')
          have := hx C (List.mem_cons_self ..)
          simp only [List.length_cons, List.map_cons, List.sum_cons]
          omega
      have h4 := h3 (Cs.map (·.2)) fun C hC => by
        obtain ⟨r, hr', ic⟩ := (RC.mem C).mp hC
        exact List.length_pos_of_mem ic.has
      rw [List.length_map] at h4
      omega
    refine ⟨rl, rfl, ⟨_, SqL.of e3⟩, for_list (K := K) (a := rl) (xs := refs Cs) (fun i σ' H' => ∃ y5 y6 y7 y8, σ' = [some (.ref h), some (.ref p), some (.ref g), some (.ref O), some (.ref L), y5, y6, y7, y8] ∧ Same H H' ∧ H' rl = some (.lst (refs Cs)) ∧ TupsAt H' Cs ∧ H' O = some (.lst (Os.map V.str)) ∧ H' L = some (.lst (refs ((Cs.take i).filter fun c => ctb D n P G c.2))))
      ⟨_, _, _, _, rfl, s3', e3, t3, s3 _ _ eO2, s3 _ _ eL2⟩ ?_ ?_ ?_⟩
    · rintro i σ' H' _ ⟨_, _, _, _, _, _, e', _⟩
      exact SqL.of e'
    · rintro i x σ' H4 hx ⟨y5, y6, y7, y8, rfl, s4, e4, t4, o4, l4⟩
      obtain ⟨c, hc, rfl⟩ := get_refs hx
      have hcm := List.mem_of_getElem? hc
      have hi := lt_of_get hc
      have tc := (t4 c hcm).1
      have nLr : L ≠ rl := fun e => by
        rw [e] at eL2
        exact absurd (s3 _ _ eL2) (by rw [e3]; intro z; injection z with z; injection z with z; cases Cs with | nil => cases hc | cons c Cs => cases z)
      have hP4 := hP.same s4
      refine ⟨_, rfl, p, rfl, hP4.sq, fun M hM => lc_pl hP4 (fun i H1 => Same H4 H1 ∧ H1 M = some (.lst ((inside (P.take i) c.2).map V.str))) ⟨same_upd hM, upd_same⟩ (fun _ _ h => Tk.of h.1) ?_ ?_⟩
      · rintro k nm r H5 hk ⟨s5, e5⟩
        refine ⟨rfl, _, rfl, _, rfl, c.1, _, rfl, .inr (SqT.of (s5 _ _ tc)), rfl, flat_vi _, _, rfl, ?_⟩
        rw [if_neg (by decide), inV_vi, inside_snoc hk]
        refine ite2 (fun z => ?_) (fun z => ?_)
        · rw [if_pos (of_decide_eq_true z)]
          refine ⟨_, rfl, _, e5, ?_, same_put s5 hM, ?_⟩
          · rw [List.length_map]
            have h1 := inside_len (P.take k) c.2
            rw [List.length_take] at h1
            exact small1000 (by omega)
          · rw [upd_same, vs_app]
            rfl
        · rw [if_neg (fun y => z (decide_eq_true y)), List.append_nil]
          exact ⟨s5, e5⟩
      · rintro H5 ⟨s5, e5⟩
        rw [List.take_length] at e5
        have li := inside_len P c.2
        dsimp only [gName]
        refine if_by (fun b H' => Same H5 H' ∧ b = ctb D n P G c.2) ?_ ?_ ?_
        · rintro H6 ⟨s6, z⟩
          have l6 := s6 _ _ (s5 _ _ l4)
          have fl : ((Cs.take (i + 1)).filter fun c => ctb D n P G c.2) = ((Cs.take i).filter fun c => ctb D n P G c.2) ++ [c] := by
            rw [take_snoc hc, filter_snoc, if_pos z.symm]
          have ne : ∀ {b : Addr} {o : HO}, H6 b = some o → (∀ xs, o ≠ .lst xs) → b ≠ L := fun {b o} e q e2 => by
            rw [e2, l6] at e
            injection e with e
            exact q _ e.symm
          refine ⟨_, rfl, .inl ⟨rfl, _, SqL.of l6⟩, _, rfl, L, _, _, rfl, rfl, l6, ?_, _, _, _, _, rfl, same_put (s4.trans (s5.trans s6)) fL, ?_, fun c' hc' => ?_, ?_, ?_⟩
          · unfold refs
            rw [List.length_map]
            refine small1000 (Nat.le_trans (List.length_filter_le _ _) ?_)
            rw [List.length_take]
            omega
          · rw [upd_ne nLr.symm]
            exact s6 _ _ (s5 _ _ e4)
          · have := (t4.same (s5.trans s6)) c' hc'
            exact ⟨(upd_ne (ne_of this.1 l6 (by intro q; cases q))).trans this.1, this.2⟩
          · rw [upd_ne (fun e => ?_)]
            · exact s6 _ _ (s5 _ _ o4)
            · rw [← e] at hL
              rw [e1] at hL
              cases hL
          · rw [upd_same, fl]
            unfold refs
            rw [List.map_append]
            rfl
        · rintro H6 ⟨s6, z⟩
          have fl : ((Cs.take (i + 1)).filter fun c => ctb D n P G c.2) = ((Cs.take i).filter fun c => ctb D n P G c.2) := by
            rw [take_snoc hc, filter_snoc, if_neg (by rw [← z]; exact Bool.false_ne_true), List.append_nil]
          refine ⟨_, _, _, _, rfl, s4.trans (s5.trans s6), s6 _ _ (s5 _ _ e4), t4.same (s5.trans s6), s6 _ _ (s5 _ _ o4), ?_⟩
          rw [fl]
          exact s6 _ _ (s5 _ _ l4)
        · intro Q' hQ'
          refine ⟨_, rfl, M, _, rfl, .inl (SqL.of e5), _, rfl, c.1, _, rfl, .inr (SqT.of (s5 _ _ tc)), rfl, _, rfl, ?_⟩
          rw [List.length_map, List.length_map]
          refine ite2 (fun z => ?_) (fun z => ?_)
          · have z : (inside P c.2).length = c.2.length := by
              have := V.int.inj (of_decide_eq_true z)
              omega
            refine ⟨_, rfl, M, rfl, ⟨_, SqL.of e5⟩, fun N hN => lc_list (K := K) (a := M) (xs := (inside P c.2).map V.str) (fun j H6 => Same H5 H6 ∧ H6 N = some (.lst ((((inside P c.2).take j).filter fun x => decide (x ∈ Os)).map V.str)))
              ⟨same_upd hN, upd_same⟩ (fun j H6 _ hh => SqL.of (hh.1 _ _ e5)) ?_ ?_⟩
            · rintro j x H6 hx ⟨s6, e6⟩
              obtain ⟨nm, hk, rfl⟩ := get_vs hx
              refine ⟨rfl, _, rfl, _, rfl, O, _, rfl, .inl (SqL.of (s6 _ _ (s5 _ _ o4))), rfl, flat_vs _, _, rfl, ?_⟩
              rw [if_neg (by decide), inV_vs, take_snoc hk, filter_snoc]
              refine ite2 (fun y => ?_) (fun y => ?_)
              · rw [if_pos y]
                refine ⟨_, rfl, _, e6, ?_, same_put s6 hN, ?_⟩
                · rw [List.length_map]
                  refine small1000 (Nat.le_trans (List.length_filter_le _ _) ?_)
                  rw [List.length_take]
                  omega
                · rw [upd_same, vs_app]
                  rfl
              · rw [if_neg y, List.append_nil]
                exact ⟨s6, e6⟩
            · rintro H6 ⟨s6, e6⟩
              rw [List.length_map, List.take_length] at e6
              refine strs_eq0 e6 (fun x hx => inside_nam pl _ x (List.mem_filter.mp hx).1) fun H7 s7 => hQ' _ _ ⟨s6.trans s7, ?_⟩
              rw [Bool.eq_iff_iff, ctb_iff, List.isEmpty_iff, List.filter_eq_nil_iff, hO]
              constructor
              · intro y
                exact ⟨z, fun nm hn m => y nm hn (decide_eq_true m)⟩
              · rintro ⟨_, y⟩ nm hn m
                exact y nm hn (of_decide_eq_true m)
          · refine hQ' _ _ ⟨Same.refl _, ?_⟩
            symm
            rw [Bool.eq_false_iff]
            intro y
            refine z (decide_eq_true ?_)
            rw [(ctb_iff.mp y).1]
    · rintro σ' H4 ⟨y5, y6, y7, y8, rfl, s4, e4, t4, o4, l4⟩
      have el : (refs Cs).length = Cs.length := by rw [refs, List.length_map]
      rw [el, List.take_length] at l4
      refine ⟨_, rfl, q _ L _ (Cs.map (·.2)) s4 l4 (fun c hc => t4 c (List.mem_filter.mp hc).1) RC ?_⟩
      rw [List.filter_map]
      rfl
end
end Fw
namespace Fw
open PySem PySem.Spec PyProof.Rows L2
theorem pickB {r r1 : Int} {i : Nat} (h0 : 0 ≤ r) (h1 : r < 3) (a0 : 0 ≤ r1) (a1 : r1 < 1 + (i : Int)) : ∃ ix : Int, atI [V.int (1 + (i : Int) - 1), V.int (1 + (i : Int) - 1), V.int r1] r = some (.int ix) ∧ 0 ≤ ix ∧ ix ≤ i := by
  have : r = 0 ∨ r = 1 ∨ r = 2 := by omega
  rcases this with rfl | rfl | rfl
  · exact ⟨_, atI0, by omega, by omega⟩
  · exact ⟨_, atI1, by omega, by omega⟩
  · exact ⟨_, atI2, by omega, by omega⟩
section
variable {P : Program} {w : World} {K : PySem.W.Frag} {mg : Str → Option Value} {base : Heap}
def spLFull : Sp := fun vs H Q _ => ∃ (s A B : Addr) (c : Nat) (least most : Int), vs = [.ref s, .int least, .int most] ∧ StreamAt H s A B c ∧ c < 2 ^ 29 ∧ 1 ≤ least ∧ least ≤ most ∧ most ≤ 8 ∧
  ∀ H' l h p n D P, StreamAt H' s A B (c + 80) → Fr s A H H' → H' l = some (.lst [.ref h, .ref p]) → HouseAt H' h n D → Forest n D → D.length + 1 = n.toNat → least ≤ n → n ≤ most → PlD H' p P → Pl n P → (P.map (·.2)).Perm (rg n) → Q (.ref l) H'
/-- the same, with more known of the names -/
def spLFullS (S : List Str → Prop) : Sp := fun vs H Q _ => ∃ (s A B : Addr) (c : Nat) (least most : Int), vs = [.ref s, .int least, .int most] ∧ StreamAt H s A B c ∧ c < 2 ^ 29 ∧ 1 ≤ least ∧ least ≤ most ∧ most ≤ 8 ∧
  ∀ H' l h p n D P, StreamAt H' s A B (c + 80) → Fr s A H H' → H' l = some (.lst [.ref h, .ref p]) → HouseAt H' h n D → Forest n D → D.length + 1 = n.toNat → least ≤ n → n ≤ most → PlD H' p P → Pl n P → (P.map (·.2)).Perm (rg n) → S (P.map (·.1)) → Q (.ref l) H'
abbrev nLFull : List Str := ["_law_stream_here", "_law_least", "_law_most", "_law_rooms", "_law_left", "_law_order", "_law_doors", "_law_k", "_law_on", "_law_spots", "_law_found", "_law_name"]
theorem scLFull : FnScope nLFull ["_law_stream_here", "_law_least", "_law_most"] (defScope sLFull) := ⟨rfl, rfl, rfl, by decide +kernel, rfl, by decide +kernel, by decide +kernel⟩
theorem ok_lfullS {S' : List Str → Prop} {f : Addr} {fd : FuncData} {k : Nat} (F : Fun K "_law_full_house" "_law_full_house" sLFull f fd) (T : Nm mg) (C_law_draw : Cal P w K mg base (k + 2) "_law_draw" pDraw spDraw) (C_law_names : Cal P w K mg base (k + 2) "_law_names" pDraw (spNamesS S')) : FnOk P w K mg base CX0 (k + 3) f fd ["_law_stream_here", "_law_least", "_law_most"] (spLFullS S') := by
  refine F.ok scLFull (fun vs H Q E h => ?_) (fun cdv A outer s H vs Q E hr h => ?_)
  · obtain ⟨s, A, B, c, least, most, rfl, _⟩ := h
    rfl
  · obtain ⟨s, A, B, c, least, most, rfl, hS, hc, a0, a1, a2, q⟩ := h
    refine ⟨_, (pss_cons (ps_set (i := 3) scLFull.nd rfl (.inl rfl) (pe_op op_add (pv 1) (pe_cal C_law_draw hr (by rfl) (pa_cons (pv 0) (pa_cons (pe_op op_add (pe_op op_sub (pv 2) (pv 1)) pe_int) pa_nil)))))
      (pss_cons (ps_par3 (i := 4) (j := 5) (l := 6) (by rfl) scLFull.nd rfl rfl rfl (by decide) (by decide) (by decide) rfl rfl rfl (pa_cons (pe_listRg (by rfl) (by rfl) T.list (prg_1 (by rfl) T.range (pv 3))) (pa_cons (pe_lst pa_nil) (pa_cons (pe_lst pa_nil) pa_nil))) (by rfl))
      (pss_cons (ps_while PassesOwn.never (pt_cmpR (op_neDK K rfl hr.units) (pv 4) (pe_lst pa_nil) (nomark _))
      (pss_one (ps_expr (pe_bm PySem.F.plainAttrs_list PySem.F.slot_list_append PySem.F.type_list_append mt_append (pv 5) (pa_cons (pe_bm PySem.F.plainAttrs_list PySem.F.slot_list_pop PySem.F.type_list_pop mt_popAt (pv 4) (pa_cons (pe_cal C_law_draw hr (by rfl) (pa_cons (pv 0) (pa_cons (pe_callB (call_lenK K rfl) (by rfl) T.len (by decide +kernel) (pa_cons (pv 4) pa_nil)) pa_nil))) pa_nil)) pa_nil)))))
      (pss_cons (ps_for PassesOwn.never rfl (pi_range2 (by rfl) T.range (pa_cons pe_int (pa_cons (pv 3) pa_nil))) (pg_name (i := 7) scLFull.nd rfl (.inl rfl))
      (pss_cons (ps_set (i := 8) scLFull.nd rfl (.inl rfl) (pe_ix (ix_listK K rfl) (pv 5) (pe_ix (ix_listK K rfl) (pe_lst (pa_cons (pe_op op_sub (pv 7) pe_int) (pa_cons (pe_op op_sub (pv 7) pe_int) (pa_cons (pe_cal C_law_draw hr (by rfl) (pa_cons (pv 0) (pa_cons (pv 7) pa_nil))) pa_nil)))) (pe_cal C_law_draw hr (by rfl) (pa_cons (pv 0) (pa_cons pe_int pa_nil))) (fun _ _ => rfl)) (fun _ _ => rfl)))
       (pss_one (ps_expr (pe_bm PySem.F.plainAttrs_list PySem.F.slot_list_append PySem.F.type_list_append mt_append (pv 6) (pa_cons (pe_tup (pa_cons (pe_callB (call_min2 rfl) (by rfl) T.min (by decide +kernel) (pa_cons (pv 8) (pa_cons (pe_ix (ix_listK K rfl) (pv 5) (pv 7) (fun _ _ => rfl)) pa_nil))) (pa_cons (pe_callB (call_max2 rfl) (by rfl) T.max (by decide +kernel) (pa_cons (pv 8) (pa_cons (pe_ix (ix_listK K rfl) (pv 5) (pv 7) (fun _ _ => rfl)) pa_nil))) pa_nil))) pa_nil))))))
      (pss_cons (ps_par (i := 9) (j := 10) (by rfl) scLFull.nd rfl rfl (by decide) rfl rfl (pa_cons (pe_listRg (by rfl) (by rfl) T.list (prg_1 (by rfl) T.range (pv 3))) (pa_cons (pe_lst pa_nil) pa_nil)) (by rfl))
      (pss_cons (ps_for PassesOwn.never rfl (pi_listK K rfl (pe_cal C_law_names hr (by rfl) (pa_cons (pv 0) (pa_cons (pv 3) pa_nil)))) (pg_name (i := 11) scLFull.nd rfl (.inl rfl))
      (pss_one (ps_expr (pe_bm PySem.F.plainAttrs_list PySem.F.slot_list_append PySem.F.type_list_append mt_append (pv 10) (pa_cons (pe_tup (pa_cons (pv 11) (pa_cons (pe_bm PySem.F.plainAttrs_list PySem.F.slot_list_pop PySem.F.type_list_pop mt_popAt (pv 9) (pa_cons (pe_cal C_law_draw hr (by rfl) (pa_cons (pv 0) (pa_cons (pe_callB (call_lenK K rfl) (by rfl) T.len (by decide +kernel) (pa_cons (pv 9) pa_nil)) pa_nil))) pa_nil)) pa_nil))) pa_nil)))))
      (pss_one (ps_ret (pe_lst (pa_cons (pe_tup (pa_cons (pv 3) (pa_cons (pe_callTy (call_tupleK K rfl) (by rfl) T.tuple (by decide +kernel) (pa_cons (pe_callB cr_sortedPO (by rfl) T.sorted (by decide +kernel) (pa_cons (pv 6) pa_nil)) pa_nil)) pa_nil))) (pa_cons (pe_callTy (call_tupleF K rfl) (by rfl) T.tuple (by decide +kernel) (pa_cons (pv 10) pa_nil)) pa_nil))))))))))), ?_⟩
    refine ⟨_, rfl, _, rfl, _, rfl, _, rfl, _, _, rfl, rfl, _, _, rfl, rfl, s, A, B, c, _, rfl, hS, by omega, by omega, by omega, fun H1 r hS1 fr1 r0 r1 => ⟨_, _, rfl, rfl, ?_⟩⟩
    show gName 3 (V.int (least + r)) _ _ _
    generalize hn : least + r = n
    have n0 : 1 ≤ n := by omega
    have n1 : n ≤ 8 := by omega
    have n2 : least ≤ n := by omega
    have n3 : n ≤ most := by omega
    clear hn r0 r1
    refine ⟨_, rfl, _, rfl, RgOk.of_le (by omega) (by omega) (by omega) (by omega), fun L hL => ⟨Nat.zero_le _, fun O hO => ⟨Nat.zero_le _, fun R hR => ⟨_, _, _, rfl, ?_⟩⟩⟩⟩
    rw [rg_vi] at hR hO ⊢
    rw [show ((List.range n.toNat).map fun (i : Nat) => (i : Int)) = rg n from rfl] at hR hO ⊢
    have nLO : O ≠ L := fun e => by rw [e, upd_same] at hO; cases hO
    have hO1 : H1 O = none := by rw [upd_ne nLO] at hO; exact hO
    have nOR : R ≠ O := fun e => by rw [e, upd_same] at hR; cases hR
    have nLR : R ≠ L := fun e => by rw [e, upd_ne nLO.symm, upd_same] at hR; cases hR
    have hR1 : H1 R = none := by rw [upd_ne nOR, upd_ne nLR] at hR; exact hR
    have zL := hS1.ne hL
    have zO := hS1.ne hO1
    have zR := hS1.ne hR1
    have gL := fr1.free hS1 hL
    have gO := fr1.free hS1 hO1
    have gR := fr1.free hS1 hR1
    have hS2 : StreamAt (upd (upd (upd H1 L (.lst (vi (rg n)))) O (.lst [])) R (.lst [])) s A B (c + 1) := ((hS1.put zL).put zO).put zR
    have fr2 : Fr s A H (upd (upd (upd H1 L (.lst (vi (rg n)))) O (.lst [])) R (.lst [])) := ((fr1.put gL).put gO).put gR
    -- while left != []: order.append(left.pop(draw(s, len(left))))
    refine ⟨fun m σ H' => ∃ (lft ord : List Int) (c' : Nat), σ = [some (.ref s), some (.int least), some (.int most), some (.int n), some (.ref L), some (.ref O), some (.ref R), none, none, none, none, none] ∧ StreamAt H' s A B c' ∧ c' + lft.length ≤ c + 1 + n.toNat ∧
        Fr s A H H' ∧ H' L = some (.lst (vi lft)) ∧ H' O = some (.lst (vi ord)) ∧ H' R = some (.lst []) ∧ (ord ++ lft).Perm (rg n) ∧ m = lft.length,
      ⟨_, rg n, [], c + 1, rfl, hS2, by rw [rg_len]; omega, fr2, ?_, ?_, upd_same, List.Perm.refl _, rfl⟩, ?_⟩
    · rw [upd_ne nLR.symm, upd_ne nLO.symm, upd_same]
    · rw [upd_ne nOR.symm, upd_same]
      rfl
    clear hS2 fr2 hR hO
    rintro m σ H2 ⟨lft, ord, c2, rfl, hS2, hc2, fr2, eL, eO, eR, pm, rfl⟩
    have plen : ord.length + lft.length = n.toNat := by
      have := pm.length_eq
      rw [List.length_append, rg_len] at this
      exact this
    refine ⟨_, rfl, Nat.zero_le _, fun e he => ?_⟩
    have sm : Same H2 (upd H2 e (.lst [])) := same_upd he
    have hS3 := hS2.same sm
    have fr3 := fr2.put (o := .lst []) (fr2.free hS2 he)
    have eL3 := sm _ _ eL
    have eO3 := sm _ _ eO
    have eR3 := sm _ _ eR
    refine ⟨.list (lft.map .int), .list [], .lst (SqL.of eL3) (dp_ints lft), .lst (SqL.of upd_same) .nil, shaped_list lft, shaped_list [], _, rfl, ?_⟩
    clear eL eO eR hS2 fr2
    generalize upd H2 e (.lst []) = H3 at *
    clear sm he
    rw [eqv_nil]
    cases lft with
    | cons x0 lft0 =>
      generalize hlf : x0 :: lft0 = lft at *
      have lpos : 0 < lft.length := by rw [← hlf]; simp
      have lem : lft.isEmpty = false := by rw [← hlf]; rfl
      rw [lem]
      clear lem hlf
      refine iteT ⟨_, fun _ _ h => h, ?_⟩
      refine ⟨_, rfl, .inl ⟨rfl, _, SqL.of eO3⟩, _, rfl, .inl ⟨rfl, _, SqL.of eL3⟩, _, rfl, _, rfl, L, _, rfl, .inl (SqL.of eL3), s, A, B, c2, _, rfl, hS3, by omega, ?_, ?_, fun H4 r hS4 fr4 r0 r1 => ?_⟩
      · rw [List.length_map]; omega
      · rw [List.length_map]; omega
      rw [List.length_map] at r1
      have eL4 := fr4 _ _ zL.1.symm zL.2.1.symm eL3
      have eO4 := fr4 _ _ zO.1.symm zO.2.1.symm eO3
      have eR4 := fr4 _ _ zR.1.symm zR.2.1.symm eR3
      have hj : r.toNat < lft.length := by omega
      have ixr : ixN (vi lft).length r = some r.toNat := by
        unfold ixN
        rw [List.length_map, if_pos r0, if_pos r1]
      have gx : (vi lft)[r.toNat]? = some (V.int lft[r.toNat]) := by
        rw [List.getElem?_map, List.getElem?_eq_getElem hj]
        rfl
      refine ⟨L, _, r, r.toNat, _, rfl, rfl, eL4, by omega, by omega, (ixN_seq ixr).1, gx, ?_⟩
      have eO5 : (upd H4 L (.lst ((vi lft).eraseIdx r.toNat))) O = some (.lst (vi ord)) := (upd_ne nLO).trans eO4
      refine ⟨O, _, _, rfl, rfl, eO5, ?_, ?_⟩
      · rw [List.length_map]
        exact small1000 (by omega)
      have el : (lft.eraseIdx r.toNat).length = lft.length - 1 := by
        rw [List.length_eraseIdx, if_pos hj]
      refine ⟨(lft.eraseIdx r.toNat).length, by omega, lft.eraseIdx r.toNat, ord ++ [lft[r.toNat]], c2 + 1, rfl, ((hS4.put zL).put zO), by omega, ((fr3.trans fr4).put gL).put gO, ?_, ?_, ?_, ?_, rfl⟩
      · rw [upd_ne nLO.symm, upd_same, vi_erase]
      · rw [upd_same, vi_app]
        rfl
      · rw [upd_ne nOR, upd_ne nLR]
        exact eR4
      · refine List.Perm.trans ?_ pm
        rw [List.append_assoc]
        refine List.Perm.append_left ord ?_
        exact erase_perm hj
    | nil =>
      refine iteF ?_
      rw [List.append_nil] at pm
      clear eL3 zL gL hL nLO nLR hS1 fr1 hO1 hR1
      simp only [List.length_nil, Nat.add_zero] at hc2 plen
      have zO3 := zO
      -- for k in range(1, rooms)
      refine ⟨_, rfl, 1, n, rfl, ⟨by decide, by decide, by omega, by omega⟩, for_range (lo := 1) (n := (n - 1).toNat) (fun i σ H' => ∃ (cc : Nat) (y8 y9 : Option V) (ps : List (Addr × Int × Int)),
        σ = [some (.ref s), some (.int least), some (.int most), some (.int n), some (.ref L), some (.ref O), some (.ref R), y8, y9, none, none, none] ∧ cc ≤ c2 + 2 * i ∧ Mid H s A B O R ord cc ps H' ∧
        ps.length = i ∧ ∃ U E, Grown U E ∧ (∀ x, x ∈ U ↔ x ∈ ord.take (i + 1)) ∧ (ps.map (·.2)).Perm E ∧ U.length = i + 1) ⟨c2, none, none, [], rfl, by omega, ⟨hS3, fr3, eO3, eR3, fun p hp => nomatch hp⟩, rfl, ?_⟩ ?_ ?_⟩
      · have h0 : 0 < ord.length := by omega
        refine ⟨[ord[0]], [], .room _ .nil (by simp), fun x => ?_, .nil, rfl⟩
        rw [List.take_add_one, List.getElem?_eq_getElem h0]
        simp
      · rintro i σ H5 hi ⟨cc, y8, y9, ps, rfl, hcc, M5, hps, U, E, g, hU, pE, lU⟩
        have hi1 : i + 1 < ord.length := by omega
        refine ⟨_, rfl, _, rfl, _, _, rfl, rfl, _, rfl, _, _, rfl, rfl, _, rfl, _, rfl, s, A, B, cc, _, rfl, M5.st, by omega, by omega, by omega, fun H6 r1 hS6 fr6 r10 r11 => ?_⟩
        have M6 := M5.fr hS6 fr6 zO zR
        refine ⟨by show 3 ≤ sizeLine; decide, fun N hN => ?_⟩
        have M7 := M6.new (o := .lst [.int (1 + (i : Int) - 1), .int (1 + (i : Int) - 1), .int r1]) hN
        refine ⟨_, rfl, s, A, B, cc + 1, 3, rfl, M7.st, by omega, by decide, by decide, fun H8 r2 hS8 fr8 r20 r21 => ?_⟩
        have M8 := M7.fr hS8 fr8 zO zR
        have zN := M6.st.ne hN
        have eN8 := fr8 N _ zN.1.symm zN.2.1.symm upd_same
        obtain ⟨ix, eix, hix0, hix1⟩ := pickB (i := i) r20 r21 r10 r11
        have hixl : ix.toNat < ord.length := by omega
        have eon : atI (vi ord) ix = some (V.int ord[ix.toNat]) := by
          have := atI_nat (xs := vi ord) (j := ix.toNat) (v := V.int ord[ix.toNat]) (by rw [List.getElem?_map, List.getElem?_eq_getElem hixl]; rfl)
          rw [show ((ix.toNat : Nat) : Int) = ix by omega] at this
          exact this
        have ekk : atI (vi ord) (1 + (i : Int)) = some (V.int ord[i + 1]) := by
          have := atI_nat (xs := vi ord) (j := i + 1) (v := V.int ord[i + 1]) (by rw [List.getElem?_map, List.getElem?_eq_getElem hi1]; rfl)
          rw [show ((i + 1 : Nat) : Int) = 1 + (i : Int) by omega] at this
          exact this
        refine ⟨N, _, _, _, rfl, rfl, SqL.of eN8, eix, O, _, _, _, rfl, rfl, SqL.of M8.eO, eon, ?_⟩
        clear eN8 fr8 zN hN M7 M6 fr6 eix
        have nd : ord.Nodup := pm.nodup_iff.mpr (rg_nodup n)
        have nv : ord[i + 1] ∉ U := fun m => by
          obtain ⟨j, hj, e⟩ := List.mem_take_iff_getElem.mp ((hU _).mp m)
          exact (List.pairwise_iff_getElem.mp nd) j (i + 1) (by omega) hi1 (by omega) e
        have mu : ord[ix.toNat] ∈ U := (hU _).mpr (List.mem_take_iff_getElem.mpr ⟨ix.toNat, by omega, rfl⟩)
        have hU' : ∀ x, x ∈ (ord[i + 1] :: U) ↔ x ∈ ord.take (i + 1 + 1) := fun x => by
          rw [List.take_add_one (i := i + 1), List.getElem?_eq_getElem hi1, List.mem_append, List.mem_cons, hU]
          simp [or_comm]
        refine ⟨_, rfl, .inl ⟨rfl, _, SqL.of M8.eR⟩, _, rfl, _, rfl, _, rfl, O, _, _, _, rfl, rfl, SqL.of M8.eO, ekk, _, _, rfl, _, rfl, _, rfl, _, rfl, O, _, _, _, rfl, rfl, SqL.of M8.eO, ekk, _, _, rfl, by show 2 ≤ sizeLine; decide, fun t ht => ?_⟩
        generalize hu : ord[ix.toNat] = u at *
        generalize hv : ord[i + 1] = v at *
        have M10 := M8.new (o := .tup [.int (if v < u then v else u), .int (if v > u then v else u)]) ht
        refine ⟨R, _, _, rfl, rfl, M10.eR, ?_, ?_⟩
        · rw [List.length_map]
          exact small1000 (by omega)
        refine ⟨cc + 2, _, _, ps ++ [(t, if v < u then v else u, if v > u then v else u)], rfl, by omega, ⟨M10.st.put zR, M10.frm.put gR, ?_, ?_, ?_⟩, ?_, v :: U, _, .door v u (if v < u then v else u) (if v > u then v else u) g nv mu ?_, hU', ?_, ?_⟩
        · rw [upd_ne nOR.symm]
          exact M10.eO
        · rw [upd_same, List.map_append]
          rfl
        · intro p hp
          rcases List.mem_append.mp hp with hp | hp
          · have h1 := M10.eP p hp
            rw [upd_ne (ne_of h1 M10.eR (by intro q; cases q))]
            exact h1
          · rw [List.mem_singleton.mp hp]
            have h1 : (upd H8 t (.tup [.int (if v < u then v else u), .int (if v > u then v else u)])) t = some (.tup [.int (if v < u then v else u), .int (if v > u then v else u)]) := upd_same
            rw [upd_ne (ne_of h1 M10.eR (by intro q; cases q))]
            exact h1
        · rw [List.length_append, List.length_singleton, hps]
        · constructor
          · split <;> omega
          · split <;> omega
        · rw [List.map_append]
          exact (List.perm_append_comm).trans (pE.cons _)
        · rw [List.length_cons, lU]
      · rintro σ H5 ⟨cc, y8, y9, ps, rfl, hcc, M5, hps, U, E, g, hU, pE, lU⟩
        -- the people
        refine ⟨_, rfl, _, rfl, RgOk.of_le (by omega) (by omega) (by omega) (by omega), fun S hSn => ⟨Nat.zero_le _, fun FL hFL => ⟨_, _, rfl, ?_⟩⟩⟩
        rw [rg_vi] at hFL ⊢
        rw [show ((List.range n.toNat).map fun (i : Nat) => (i : Int)) = rg n from rfl] at hFL ⊢
        have M6 := (M5.new (o := .lst (vi (rg n))) hSn).new (o := .lst []) hFL
        have zS := M5.st.ne hSn
        have gS := M5.frm.free M5.st hSn
        have zF := (M5.new (o := .lst (vi (rg n))) hSn).st.ne hFL
        have gF := (M5.new (o := .lst (vi (rg n))) hSn).frm.free (M5.new (o := .lst (vi (rg n))) hSn).st hFL
        have nSF : S ≠ FL := fun e => by rw [← e, upd_same] at hFL; cases hFL
        have nRS : R ≠ S := ne_of_none M5.eR hSn
        have nRF : R ≠ FL := ne_of_none (M5.new (o := .lst (vi (rg n))) hSn).eR hFL
        have eS6 : (upd (upd H5 S (.lst (vi (rg n)))) FL (.lst [])) S = some (.lst (vi (rg n))) := (upd_ne nSF).trans upd_same
        have eF6 : (upd (upd H5 S (.lst (vi (rg n)))) FL (.lst [])) FL = some (.lst []) := upd_same
        generalize upd (upd H5 S (.lst (vi (rg n)))) FL (.lst []) = H6 at *
        refine ⟨_, rfl, _, rfl, s, A, B, cc, n, rfl, M6.st, by omega, by omega, by omega, fun H7 NL nms hS7 fr7 hNL eN lN nN nS => ?_⟩
        have zN := M6.st.ne hNL
        have nSN : S ≠ NL := ne_of_none eS6 hNL
        have nFN : FL ≠ NL := ne_of_none eF6 hNL
        have nRN : R ≠ NL := ne_of_none M6.eR hNL
        have M7 := M6.fr hS7 fr7 zO zR
        refine ⟨NL, rfl, ⟨_, SqL.of eN⟩, for_list (K := K) (a := NL) (xs := nms.map V.str) (fun i σ' H' => ∃ (y11 : Option V) (sp : List Int) (qs : List (Addr × Str × Int)),
            σ' = [some (.ref s), some (.int least), some (.int most), some (.int n), some (.ref L), some (.ref O), some (.ref R), y8, y9, some (.ref S), some (.ref FL), y11] ∧ StreamAt H' s A B (cc + 10 + i) ∧ Fr s A H H' ∧ H' NL = some (.lst (nms.map V.str)) ∧ H' S = some (.lst (vi sp)) ∧ sp.length + i = n.toNat ∧
            H' R = some (.lst (ps.map fun p => V.ref p.1)) ∧ (∀ p ∈ ps, H' p.1 = some (.tup [.int p.2.1, .int p.2.2])) ∧
            H' FL = some (.lst (qs.map fun q => V.ref q.1)) ∧ (qs.map (·.2.1)) = nms.take i ∧ (∀ q ∈ qs, H' q.1 = some (.tup [.str q.2.1, .int q.2.2])) ∧ (qs.map (·.2.2) ++ sp).Perm (rg n))
          ⟨_, rg n, [], rfl, M7.st, M7.frm, eN, fr7 _ _ zS.1.symm zS.2.1.symm eS6, by rw [rg_len]; rfl, M7.eR, M7.eP, fr7 _ _ zF.1.symm zF.2.1.symm eF6, rfl, fun q hq => absurd hq List.not_mem_nil, List.Perm.refl _⟩ ?_ ?_ ?_⟩
        · rintro i σ' H' _ ⟨_, _, _, _, _, _, e', _⟩
          exact SqL.of e'
        · rintro i x σ' H8 hx ⟨y11, sp, qs, rfl, hS8, fr8, eN8, es8, l8, eR8, eP8, eF8, en8, ep8, pm8⟩
          obtain ⟨nm, hnm, rfl⟩ := get_vs hx
          have hi : i < nms.length := lt_of_get hnm
          have hqs : qs.length = i := by
            have := congrArg List.length en8
            rw [List.length_map, List.length_take] at this
            omega
          refine ⟨_, rfl, .inl ⟨rfl, _, SqL.of eF8⟩, _, rfl, _, rfl, .inl ⟨rfl, _, SqL.of es8⟩, _, rfl, _, rfl, S, _, rfl, .inl (SqL.of es8), s, A, B, cc + 10 + i, _, rfl, hS8, by omega, ?_, ?_, fun H9 r hS9 fr9 r0 r1 => ?_⟩
          · rw [List.length_map]; omega
          · rw [List.length_map]; omega
          rw [List.length_map] at r1
          have hj : r.toNat < sp.length := by omega
          have ixr : ixN (vi sp).length r = some r.toNat := by
            unfold ixN
            rw [List.length_map, if_pos r0, if_pos r1]
          have gx : (vi sp)[r.toNat]? = some (V.int sp[r.toNat]) := by
            rw [List.getElem?_map, List.getElem?_eq_getElem hj]
            rfl
          have es9 := fr9 _ _ zS.1.symm zS.2.1.symm es8
          refine ⟨S, _, r, r.toNat, _, rfl, rfl, es9, by omega, by omega, (ixN_seq ixr).1, gx, by show 2 ≤ sizeLine; decide, fun t ht => ?_⟩
          have hS10 := (hS9.put (o := .lst ((vi sp).eraseIdx r.toNat)) zS)
          have fr10 := (fr8.trans fr9).put (o := .lst ((vi sp).eraseIdx r.toNat)) gS
          have eF10 : (upd H9 S (.lst ((vi sp).eraseIdx r.toNat))) FL = _ := (upd_ne nSF.symm).trans (fr9 _ _ zF.1.symm zF.2.1.symm eF8)
          have eR10 : (upd H9 S (.lst ((vi sp).eraseIdx r.toNat))) R = _ := (upd_ne nRS).trans (fr9 _ _ zR.1.symm zR.2.1.symm eR8)
          have eN10 : (upd H9 S (.lst ((vi sp).eraseIdx r.toNat))) NL = _ := (upd_ne nSN.symm).trans (fr9 _ _ zN.1.symm zN.2.1.symm eN8)
          have es10 : (upd H9 S (.lst ((vi sp).eraseIdx r.toNat))) S = some (.lst (vi (sp.eraseIdx r.toNat))) := by rw [upd_same, vi_erase]
          have ep10 : ∀ q ∈ qs, (upd H9 S (.lst ((vi sp).eraseIdx r.toNat))) q.1 = some (.tup [.str q.2.1, .int q.2.2]) := fun q hq => by
            have := fr9.tup hS8 (ep8 q hq)
            rw [upd_ne (ne_of this es9 (by intro z; cases z))]
            exact this
          have eP10 : ∀ q ∈ ps, (upd H9 S (.lst ((vi sp).eraseIdx r.toNat))) q.1 = some (.tup [.int q.2.1, .int q.2.2]) := fun q hq => by
            have := fr9.tup hS8 (eP8 q hq)
            rw [upd_ne (ne_of this es9 (by intro z; cases z))]
            exact this
          generalize upd H9 S (.lst ((vi sp).eraseIdx r.toNat)) = H10 at *
          have sm := same_upd (o := .tup [.str nm, .int sp[r.toNat]]) ht
          have eF11 := sm _ _ eF10
          have eR11 := sm _ _ eR10
          have et : (upd H10 t (.tup [.str nm, .int sp[r.toNat]])) t = some (.tup [.str nm, .int sp[r.toNat]]) := upd_same
          have ep11 : ∀ q ∈ qs, (upd H10 t (.tup [.str nm, .int sp[r.toNat]])) q.1 = some (.tup [.str q.2.1, .int q.2.2]) := fun q hq => sm _ _ (ep10 q hq)
          have eP11 : ∀ q ∈ ps, (upd H10 t (.tup [.str nm, .int sp[r.toNat]])) q.1 = some (.tup [.int q.2.1, .int q.2.2]) := fun q hq => sm _ _ (eP10 q hq)
          have hS11 := hS10.same sm
          have fr11 := fr10.trans (Fr.of sm)
          have es11 := sm _ _ es10
          have eN11 := sm _ _ eN10
          generalize upd H10 t (.tup [.str nm, .int sp[r.toNat]]) = H11 at *
          refine ⟨FL, _, _, rfl, rfl, eF11, ?_, _, sp.eraseIdx r.toNat, qs ++ [(t, nm, sp[r.toNat])], rfl, (hS11.put zF).mono (by omega), fr11.put gF, ?_, ?_, ?_, ?_, ?_, ?_, ?_, ?_, ?_⟩
          · rw [List.length_map]
            exact small1000 (by omega)
          · rw [upd_ne nFN.symm]
            exact eN11
          · rw [upd_ne nSF]
            exact es11
          · rw [List.length_eraseIdx, if_pos hj]
            omega
          · rw [upd_ne nRF]
            exact eR11
          · intro q hq
            rw [upd_ne (ne_of (eP11 q hq) eF11 (by intro z; cases z))]
            exact eP11 q hq
          · rw [upd_same, List.map_append]
            rfl
          · rw [List.map_append, List.take_add_one, hnm, en8]
            rfl
          · intro q hq
            rcases List.mem_append.mp hq with hq | hq
            · rw [upd_ne (ne_of (ep11 q hq) eF11 (by intro z; cases z))]
              exact ep11 q hq
            · rw [List.mem_singleton.mp hq]
              rw [upd_ne (ne_of et eF11 (by intro z; cases z))]
              exact et
          · refine List.Perm.trans ?_ pm8
            rw [List.map_append, List.append_assoc]
            exact List.Perm.append_left _ (erase_perm hj)
        · rintro σ' H8 ⟨y11, sp, qs, rfl, hS8, fr8, eN8, es8, l8, eR8, eP8, eF8, en8, ep8, pm8⟩
          rw [List.length_map, List.take_length] at en8
          rw [List.length_map] at hS8 l8
          have kz : ∀ z ∈ ps, twoOf H8 (.ref z.1) = z.2 := fun z hz => twoOf_eq (eP8 z hz)
          refine ⟨_, rfl, _, rfl, R, _, twoOf H8, rfl, SqL.of eR8, ?_, fun ys p hsrt hstb hp => ?_⟩
          · intro x hx
            obtain ⟨z, hz, rfl⟩ := List.mem_map.mp hx
            refine ⟨z.1, rfl, ?_⟩
            rw [kz z hz]
            exact eP8 z hz
          obtain ⟨ps', pp, rfl⟩ := perm_map_inv hstb.perm rfl
          have upD : (ps'.map (·.2)).Pairwise Dlt := by
            have nd : (ps'.map (·.2)).Nodup := ((pp.map _).trans pE).nodup_iff.mpr g.nodup
            rw [List.nodup_iff_pairwise_ne, List.pairwise_map] at nd
            rw [List.pairwise_map]
            have hs : ps'.Pairwise fun x y => ltP (twoOf H8) (.ref y.1) (.ref x.1) = false := List.pairwise_map.mp hsrt
            refine (hs.and nd).imp_of_mem fun {x y} hx hy h => ?_
            have h1 : SrtO.lexB y.2 x.2 = false := by
              have := h.1
              unfold ltP at this
              rw [kz x (pp.mem_iff.mp hx), kz y (pp.mem_iff.mp hy)] at this
              exact this
            exact Dlt_of (SrtO.lexB_no.mp h1) h.2
          have s9 := same_upd (o := .lst (ps'.map fun p => V.ref p.1)) hp
          refine ⟨p, _, rfl, .inl ⟨SqL.of upd_same, fun d hd => ?_⟩⟩
          have s10 := s9.trans (same_upd (o := .tup (ps'.map fun p => V.ref p.1)) hd)
          refine ⟨by show 2 ≤ sizeLine; decide, fun hh hhh => ?_⟩
          have s11 := s10.trans (same_upd (o := .tup [.int n, .ref d]) hhh)
          refine ⟨_, rfl, FL, _, rfl, SqL.of (s11 _ _ eF8), fun t ob ht od => ?_⟩
          have s12a := same_upd (o := .frz ob (.tup (qs.map fun q => V.ref q.1))) ht
          have s12 := s11.trans s12a
          refine ⟨by show 2 ≤ sizeLine; decide, fun l hl => ?_⟩
          have s13a := same_upd (o := .lst [.ref hh, .ref t]) hl
          have s13 := s12.trans s13a
          have tk : ord.take ((n - 1).toNat + 1) = ord := List.take_of_length_le (by omega)
          have lq : qs.length = n.toNat := by
            have := congrArg List.length en8
            rw [List.length_map] at this
            omega
          have sp0 : sp = [] := List.length_eq_zero_iff.mp (by omega)
          refine q _ l hh t n (ps'.map (·.2)) (qs.map (·.2)) ((hS8.same s13).mono (by omega)) (fr8.trans (Fr.of s13)) upd_same ⟨d, ps', (s12a.trans s13a) _ _ upd_same, ?_, rfl, fun z hz => s13 _ _ (eP8 z (pp.mem_iff.mp hz))⟩ ⟨U, E, g, fun x => ?_, (pp.map _).trans pE, by omega, upD⟩ ?_ n2 n3 ⟨qs, ob, od, s13a _ _ upd_same, rfl, fun q hq => s13 _ _ (ep8 q hq)⟩ ⟨?_, fun x hx => ?_⟩ ?_ ?_
          · exact (((same_upd (o := .tup [.int n, .ref d]) hhh).trans s12a).trans s13a) _ _ upd_same
          · rw [hU, tk, pm.mem_iff, mem_rg]
          · rw [List.length_map, pp.length_eq, hps]
            omega
          · rw [List.map_map]
            show Names (qs.map (·.2.1))
            rw [en8]
            exact nN
          · obtain ⟨y, hy, rfl⟩ := List.mem_map.mp hx
            refine mem_rg.mp (pm8.mem_iff.mp (List.mem_append_left _ ?_))
            exact List.mem_map.mpr ⟨y, hy, rfl⟩
          · rw [List.map_map]
            rw [sp0, List.append_nil] at pm8
            exact pm8
          · rw [List.map_map]
            show S' (qs.map (·.2.1))
            rw [en8]
            exact nS
theorem ok_lfull {f : Addr} {fd : FuncData} {k : Nat} (F : Fun K "_law_full_house" "_law_full_house" sLFull f fd) (T : Nm mg) (C_law_draw : Cal P w K mg base (k + 2) "_law_draw" pDraw spDraw) (C_law_names : Cal P w K mg base (k + 2) "_law_names" pDraw spNames) : FnOk P w K mg base CX0 (k + 3) f fd ["_law_stream_here", "_law_least", "_law_most"] spLFull :=
  (ok_lfullS (S' := fun _ => True) F T C_law_draw (names_S C_law_names fun _ => trivial)).imp fun vs H Q E ⟨s, A, B, c, m, m', e, hS, hc, m0, m1, m2, q⟩ => ⟨s, A, B, c, m, m', e, hS, hc, m0, m1, m2, fun H' l h p n D P a1 a2 a3 a4 a5 a6 a7 a8 a9 a10 a11 _ => q H' l h p n D P a1 a2 a3 a4 a5 a6 a7 a8 a9 a10 a11⟩
end
end Fw
namespace Fw
open PySem PySem.Spec PyProof.Rows L2
theorem atI3 {α : Type} {x y z u : α} {xs : List α} : atI (x :: y :: z :: u :: xs) 3 = some u := atI_nat (j := 3) rfl
theorem four_at {a b c d r : Int} (h0 : 0 ≤ r) (h1 : r < 4) : ∃ v, atI [V.int a, V.int b, V.int c, V.int d] r = some (.int v) ∧ (v = a ∨ v = b ∨ v = c ∨ v = d) := by
  have : r = 0 ∨ r = 1 ∨ r = 2 ∨ r = 3 := by omega
  rcases this with rfl | rfl | rfl | rfl
  · exact ⟨_, atI0, .inl rfl⟩
  · exact ⟨_, atI1, .inr (.inl rfl)⟩
  · exact ⟨_, atI2, .inr (.inr (.inl rfl))⟩
  · exact ⟨_, atI3, .inr (.inr (.inr rfl))⟩
section
variable {P : Program} {w : World} {K : PySem.W.Frag} {mg : Str → Option Value} {base : Heap}
def spLNear : Sp := fun vs H Q _ => ∃ (s A B h p : Addr) (c : Nat) (n : Int) (D : List (Int × Int)) (P : List (Str × Int)), vs = [.ref s, .ref h, .ref p] ∧ StreamAt H s A B c ∧ c < 2 ^ 29 ∧ HouseAt H h n D ∧ Forest n D ∧ 1 ≤ n ∧ n ≤ 8 ∧ PlAt H p P ∧ Pl n P ∧ P.length ≤ 12 ∧ P ≠ [] ∧
  ∀ H' t G, StreamAt H' s A B (c + 80) → Fr s A H H' → PlD H' t G → Pl n G → G.map (·.1) = P.map (·.1) → Q (.ref t) H'
abbrev nLNear : List Str := ["_law_stream_here", "_law_house", "_law_placement", "_law_found", "_law_name", "_law_room", "_law_near", "_law_one", "_law_far", "_law_names_here", "_law_other"]
theorem scLNear : FnScope nLNear ["_law_stream_here", "_law_house", "_law_placement"] (defScope sLNear) := ⟨rfl, rfl, rfl, by decide +kernel, rfl, by decide +kernel, by decide +kernel⟩
theorem ok_lnear {f : Addr} {fd : FuncData} {k : Nat} (F : Fun K "_law_near_target" "_law_near_target" sLNear f fd) (T : Nm mg) (C_law_draw : Cal P w K mg base (k + 1) "_law_draw" pDraw spDraw) (C_law_neighbors : Cal P w K mg base (k + 1) "_law_neighbors" pLNb spLNb) : FnOk P w K mg base CX0 (k + 2) f fd pLTarget spLNear := by
  refine F.ok scLNear (fun vs H Q E h => ?_) (fun cdv A outer s H vs Q E hr h => ?_)
  · obtain ⟨s, A, B, h, p, c, n, D, P, rfl, _⟩ := h
    rfl
  · obtain ⟨s, A, B, h, p, c, n, D, P, rfl, hS, hc, hH, hF, n0, n1, hP, pl, lP, ne, q⟩ := h
    refine ⟨_, (pss_cons (ps_set (i := 3) scLNear.nd rfl (.inr rfl) pe_dnewK)
      (pss_cons (ps_if (pt_cmpR (op_eqDK K rfl hr.units) (pv 2) (pe_tup pa_nil) (nomark _))
      pss_never
      pss_nil)
      (pss_cons (ps_for PassesOwn.never rfl (pi_tupK K rfl (pv 2)) (pg_tup (by rfl) (pgs_cons (pg_name (i := 4) scLNear.nd rfl (.inl rfl)) (pgs_cons (pg_name (i := 5) scLNear.nd rfl (.inl rfl)) pgs_nil)))
      (pss_cons (ps_set (i := 6) scLNear.nd rfl (.inl rfl) (pe_op op_cat (pe_cal C_law_neighbors hr (by rfl) (pa_cons (pv 1) (pa_cons (pv 5) pa_nil))) (pe_lst (pa_cons (pv 5) pa_nil))))
       (pss_cons (ps_set (i := 7) scLNear.nd rfl (.inl rfl) (pe_ix (ix_listK K rfl) (pv 6) (pe_cal C_law_draw hr (by rfl) (pa_cons (pv 0) (pa_cons (pe_callB (call_lenK K rfl) (by rfl) T.len (by decide +kernel) (pa_cons (pv 6) pa_nil)) pa_nil))) (fun _ _ => rfl)))
       (pss_cons (ps_set (i := 8) scLNear.nd rfl (.inl rfl) (pe_op op_cat (pe_cal C_law_neighbors hr (by rfl) (pa_cons (pv 1) (pa_cons (pv 7) pa_nil))) (pe_lst (pa_cons (pv 7) pa_nil))))
       (pss_one (ps_asg (pe_ix (ix_listK K rfl) (pe_lst (pa_cons (pv 5) (pa_cons (pv 5) (pa_cons (pv 7) (pa_cons (pe_ix (ix_listK K rfl) (pv 8) (pe_cal C_law_draw hr (by rfl) (pa_cons (pv 0) (pa_cons (pe_callB (call_lenK K rfl) (by rfl) T.len (by decide +kernel) (pa_cons (pv 8) pa_nil)) pa_nil))) (fun _ _ => rfl)) pa_nil))))) (pe_cal C_law_draw hr (by rfl) (pa_cons (pv 0) (pa_cons pe_int pa_nil))) (fun _ _ => rfl)) (pg_sub (pv 3) (pv 4) (set_dict (hu_of hr)))))))))
      (pss_cons (ps_set (i := 9) scLNear.nd rfl (.inl rfl) (pe_callB (call_sortedD rfl) (by rfl) T.sorted (by decide +kernel) (pa_cons (pv 3) pa_nil)))
      (pss_cons (ps_par (i := 7) (j := 10) (by rfl) scLNear.nd rfl rfl (by decide) rfl rfl (pa_cons (pe_ix (ix_listK K rfl) (pv 9) (pe_cal C_law_draw hr (by rfl) (pa_cons (pv 0) (pa_cons (pe_callB (call_lenK K rfl) (by rfl) T.len (by decide +kernel) (pa_cons (pv 9) pa_nil)) pa_nil))) (fun _ _ => rfl)) (pa_cons (pe_ix (ix_listK K rfl) (pv 9) (pe_cal C_law_draw hr (by rfl) (pa_cons (pv 0) (pa_cons (pe_callB (call_lenK K rfl) (by rfl) T.len (by decide +kernel) (pa_cons (pv 9) pa_nil)) pa_nil))) (fun _ _ => rfl)) pa_nil)) (by rfl))
      (pss_cons (ps_if (pt_cmpR op_gt (pe_cal C_law_draw hr (by rfl) (pa_cons (pv 0) (pa_cons pe_int pa_nil))) pe_int (nomark _))
      (pss_one (ps_asg (pe_tup (pa_cons (pe_dget (hu_of hr) (pv 3) (pv 10) (fun _ _ => rfl)) (pa_cons (pe_dget (hu_of hr) (pv 3) (pv 7) (fun _ _ => rfl)) pa_nil))) (pg_tup (by rfl) (pgs_cons (pg_sub (pv 3) (pv 7) (set_dict (hu_of hr))) (pgs_cons (pg_sub (pv 3) (pv 10) (set_dict (hu_of hr))) pgs_nil)))))
      pss_nil)
      (pss_one (ps_ret (pe_callTy (call_tupleF K rfl) (by rfl) T.tuple (by decide +kernel) (pa_cons (pe_lc (own := [("_law_name", 4)]) (g := gName 4) (by rfl) scLNear.nd (pi_listK K rfl (pv 9))
 (blkOk_by (own := [("_law_name", 4)]) (N := nLNear) (sc := defScope sLNear) (by decide +kernel))
 (fun _ _ _ _ _ => (pg_name (i := 4) scLNear.nd rfl (.inl rfl))) (fun _ _ _ _ _ => pts_nil) (fun _ _ _ _ _ => (pe_tup (pa_cons (pv 4) (pa_cons (pe_dget (hu_of hr) (pv 3) (pv 4) (fun _ _ => rfl)) pa_nil))))) pa_nil)))))))))), ?_⟩
    have lp0 : 0 < P.length := List.length_pos_iff.mpr ne
    refine fun fo hfo => ?_
    have zF := hS.ne hfo
    have gF := hfo
    have s1 := same_upd (o := .dK []) hfo
    have eF1 : (upd H fo (.dK [])) fo = some (.dK []) := upd_same
    generalize upd H fo (.dK []) = H1 at *
    refine ⟨_, rfl, Nat.zero_le _, fun e he => ?_⟩
    have s2 := s1.trans (same_upd (o := .tup []) he)
    have eF2 := same_upd (o := .tup []) he _ _ eF1
    refine ⟨pld P, .tuple [], (hP.same s2).dp, .tup (SqT.of upd_same) .nil, pld_shaped pl.nams, shaped_tup [], _, rfl, ?_⟩
    rw [eqv_nilT, show P.isEmpty = false by cases P with | nil => exact absurd rfl ne | cons x P => rfl]
    refine iteF ?_
    generalize upd H1 e (.tup []) = H2 at *
    have hS2 := hS.same s2
    have fr2 : Fr s A H H2 := Fr.of s2
    have hP2 := hP.same s2
    refine ⟨_, rfl, p, rfl, hP2.sq, for_pl hP (fun k σ' H' => ∃ (y4 y5 y6 y7 y8 y9 y10 : Option V) (c' : Nat) (G : List (Str × Int)), σ' = [some (.ref s), some (.ref h), some (.ref p), some (.ref fo), y4, y5, y6, y7, y8, y9, y10] ∧ StreamAt H' s A B c' ∧ c' ≤ c + 3 * k ∧ Fr s A H H' ∧ H' fo = some (.dK (dkI G)) ∧ G.map (·.1) = (P.take k).map (·.1) ∧ InR n G)
      ⟨_, _, _, _, _, _, _, c, [], rfl, hS2, by omega, fr2, eF2, rfl, fun x hx => absurd hx List.not_mem_nil⟩ ?_ ?_ ?_⟩
    · rintro k σ' H' ⟨_, _, _, _, _, _, _, _, _, _, _, _, fr', _⟩
      exact Tk.fr fr' hS
    · rintro k nm r σ' H5 hk ⟨y4, y5, y6, y7, y8, y9, y10, c5, G, rfl, hS5, hc5, fr5, eF5, gn, gr⟩
      have mk' := List.mem_of_getElem? hk
      have rr := pl.rm _ mk'
      have lk := lt_of_get hk
      have hH5 := hH.fr hS fr5
      have lG : G.length = k := by
        have := congrArg List.length gn
        rw [List.length_map, List.length_map, List.length_take] at this
        omega
      have nnew : nm ∉ G.map (·.1) := by
        rw [gn]
        intro m
        obtain ⟨j, hj, ej⟩ := List.mem_iff_getElem.mp m
        rw [List.length_map, List.length_take] at hj
        have h0 := (List.pairwise_iff_getElem.mp (List.nodup_iff_pairwise_ne.mp pl.nodup)) j k (by rw [List.length_map]; omega) (by rw [List.length_map]; exact lk) (by omega)
        have h2 : (P.map (·.1))[k]'(by rw [List.length_map]; exact lk) = nm := by
          have : (P.map (·.1))[k]? = some nm := by rw [List.getElem?_map, hk]; rfl
          exact (List.getElem?_eq_some_iff.mp this).2
        rw [h2] at h0
        rw [List.getElem_map, List.getElem_take] at ej
        rw [List.getElem_map] at h0
        exact h0 ej
      have rng : ∀ x, 0 ≤ x ∧ x < n → ∀ y ∈ nb n D x ++ [x], 0 ≤ y ∧ y < n := fun x hx y hy => by
        rcases List.mem_append.mp hy with hy | hy
        · exact (mem_nb.mp hy).1
        · rw [List.mem_singleton.mp hy]
          exact hx
      have len : ∀ x, 0 < (nb n D x ++ [x]).length ∧ (nb n D x ++ [x]).length ≤ 9 := fun x => by
        have := nb_len n D x
        rw [List.length_append, List.length_singleton]
        omega
      -- near
      refine ⟨_, rfl, _, rfl, h, n, D, r, rfl, hH5, hF, fun H6 ln s6 hln e6 => ⟨_, rfl, by show 1 ≤ sizeLine; decide, fun O hO => ?_⟩⟩
      have s7 := s6.trans (same_upd (o := .lst [.int r]) hO)
      refine ⟨ln, O, _, _, rfl, rfl, same_upd hO _ _ e6, upd_same, ?_, fun N hN => ?_⟩
      · rw [List.length_map]
        have := nb_len n D r
        exact Nat.le_of_lt (small1000 (by show _ + 1 ≤ _; omega))
      have zN := (hS5.same s7).ne hN
      have s8 := s7.trans (same_upd (o := .lst (vi (nb n D r) ++ [.int r])) hN)
      have eN8 : (upd (upd H6 O (.lst [.int r])) N (.lst (vi (nb n D r) ++ [.int r]))) N = some (.lst (vi (nb n D r ++ [r]))) := by rw [upd_same, vi_app]; rfl
      generalize upd (upd H6 O (.lst [.int r])) N (.lst (vi (nb n D r) ++ [.int r])) = H8 at *
      have hS8 := hS5.same s8
      have ln1 := len r
      have rg1 := rng r rr
      generalize nb n D r ++ [r] = near at *
      -- one
      refine ⟨_, rfl, _, rfl, _, rfl, N, _, rfl, .inl (SqL.of eN8), s, A, B, c5, _, rfl, hS8, by omega, ?_, ?_, fun H9 v hS9 fr9 v0 v1 => ?_⟩
      · rw [List.length_map]; omega
      · rw [List.length_map]; omega
      rw [List.length_map] at v1
      obtain ⟨x, hx, ex⟩ := atI_in v0 v1
      have xr := rg1 x hx
      have fr9' : Fr s A H H9 := (fr5.trans (Fr.of s8)).trans fr9
      have hH9 := hH.fr hS fr9'
      have eF9 := fr9 _ _ zF.1.symm zF.2.1.symm (s8 _ _ eF5)
      refine ⟨N, _, _, _, rfl, rfl, SqL.of (fr9 _ _ zN.1.symm zN.2.1.symm eN8), ex, ?_⟩
      -- far
      refine ⟨_, rfl, _, rfl, h, n, D, x, rfl, hH9, hF, fun H10 lm s10 hlm e10 => ⟨_, rfl, by show 1 ≤ sizeLine; decide, fun O2 hO2 => ?_⟩⟩
      have s11 := s10.trans (same_upd (o := .lst [.int x]) hO2)
      refine ⟨lm, O2, _, _, rfl, rfl, same_upd hO2 _ _ e10, upd_same, ?_, fun N2 hN2 => ?_⟩
      · rw [List.length_map]
        have := nb_len n D x
        exact Nat.le_of_lt (small1000 (by show _ + 1 ≤ _; omega))
      have zN2 := (hS9.same s11).ne hN2
      have s12 := s11.trans (same_upd (o := .lst (vi (nb n D x) ++ [.int x])) hN2)
      have eN12 : (upd (upd H10 O2 (.lst [.int x])) N2 (.lst (vi (nb n D x) ++ [.int x]))) N2 = some (.lst (vi (nb n D x ++ [x]))) := by rw [upd_same, vi_app]; rfl
      generalize upd (upd H10 O2 (.lst [.int x])) N2 (.lst (vi (nb n D x) ++ [.int x])) = H12 at *
      have hS12 := hS9.same s12
      have fr12 := fr9'.trans (Fr.of s12)
      have eF12 := s12 _ _ eF9
      have ln2 := len x
      have rg2 := rng x xr
      generalize nb n D x ++ [x] = far at *
      -- found[name] = ..
      refine ⟨_, rfl, _, rfl, _, rfl, _, rfl, _, rfl, _, rfl, N2, _, rfl, .inl (SqL.of eN12), s, A, B, c5 + 1, _, rfl, hS12, by omega, ?_, ?_, fun H13 v' hS13 fr13 v0' v1' => ?_⟩
      · rw [List.length_map]; omega
      · rw [List.length_map]; omega
      rw [List.length_map] at v1'
      obtain ⟨x', hx', ex'⟩ := atI_in v0' v1'
      have xr' := rg2 x' hx'
      refine ⟨N2, _, _, _, rfl, rfl, SqL.of (fr13 _ _ zN2.1.symm zN2.2.1.symm eN12), ex', by show 4 ≤ sizeLine; decide, fun a ha => ?_⟩
      have za := hS13.ne ha
      have s14 := same_upd (o := .lst [.int r, .int r, .int x, .int x']) ha
      refine ⟨_, rfl, s, A, B, c5 + 2, _, rfl, hS13.same s14, by omega, by decide, by decide, fun H15 u hS15 fr15 u0 u1 => ?_⟩
      have ea := fr15 a _ za.1.symm za.2.1.symm upd_same
      obtain ⟨v2, ev2, ov2⟩ := four_at (a := r) (b := r) (c := x) (d := x') u0 u1
      have v2r : 0 ≤ v2 ∧ v2 < n := by
        rcases ov2 with e | e | e | e <;> rw [e] <;> assumption
      have eF15 := fr15 _ _ zF.1.symm zF.2.1.symm (s14 _ _ (fr13 _ _ zF.1.symm zF.2.1.symm eF12))
      have fr15' : Fr s A H H15 := ((fr12.trans fr13).trans (Fr.of s14)).trans fr15
      refine ⟨a, _, _, _, rfl, rfl, SqL.of ea, ev2, _, rfl, _, rfl, fo, _, rfl, DPut.k (k := Sum.inr nm) eF15 (by rw [dkI_len, lG]; exact small1000 (by omega)), ?_⟩
      rw [put_new nnew]
      refine ⟨_, _, _, _, _, _, _, c5 + 3, _, rfl, hS15.put zF, by omega, fr15'.put gF, upd_same, ?_, gr.snoc v2r.1 v2r.2⟩
      rw [List.map_append, gn, take_snoc hk, List.map_append]
      rfl
    · rintro σ' H5 ⟨y4, y5, y6, y7, y8, y9, y10, c5, G, rfl, hS5, hc5, fr5, eF5, gn, gr⟩
      rw [List.take_length] at gn
      have ndG : (G.map (·.1)).Nodup := by rw [gn]; exact pl.nodup
      have lG : G.length = P.length := by
        have := congrArg List.length gn
        rw [List.length_map, List.length_map] at this
        exact this
      have hH5 := hH.fr hS fr5
      have hP5 := hP.tk (Tk.fr fr5 hS)
      -- names_here = sorted(found)
      refine ⟨_, rfl, fo, _, G.map (·.1), rfl, .inl eF5, ?_, ?_, fun ys py hp hs hpy => ?_⟩
      · unfold dkI
        rw [dk_keys, dkI_keys]
      · rw [List.length_map]
        omega
      have eys : ys = P.map (·.1) := by
        rw [gn] at hp
        exact sorted_same pl.nm hp hs
      subst eys
      have zY := hS5.ne hpy
      have s6 := same_upd (o := .lst ((P.map (·.1)).map V.str)) hpy
      have eY6 : (upd H5 py (.lst ((P.map (·.1)).map V.str))) py = some (.lst ((P.map (·.1)).map V.str)) := upd_same
      have hS6 := hS5.same s6
      have fr6 := fr5.trans (Fr.of s6)
      have eF6 := s6 _ _ eF5
      have hH6 := hH5.same s6
      have hP6 := hP5.same s6
      generalize upd H5 py (.lst ((P.map (·.1)).map V.str)) = H6 at *
      -- one, other
      refine ⟨_, rfl, _, rfl, _, rfl, py, _, rfl, .inl (SqL.of eY6), s, A, B, c5, _, rfl, hS6, by omega, ?_, ?_, fun H7 v hS7 fr7 v0 v1 => ?_⟩
      · rw [List.length_map, List.length_map]; omega
      · rw [List.length_map, List.length_map]; omega
      rw [List.length_map] at v1
      obtain ⟨one, h1, e1⟩ := at_str v0 v1
      have eY7 := fr7 _ _ zY.1.symm zY.2.1.symm eY6
      refine ⟨py, _, _, _, rfl, rfl, SqL.of eY7, e1, _, rfl, _, rfl, _, rfl, py, _, rfl, .inl (SqL.of eY7), s, A, B, c5 + 1, _, rfl, hS7, by omega, ?_, ?_, fun H8 v' hS8 fr8 v0' v1' => ?_⟩
      · rw [List.length_map, List.length_map]; omega
      · rw [List.length_map, List.length_map]; omega
      rw [List.length_map] at v1'
      obtain ⟨oth', h2, e2⟩ := at_str v0' v1'
      have eY8 := fr8 _ _ zY.1.symm zY.2.1.symm eY7
      refine ⟨py, _, _, _, rfl, rfl, SqL.of eY8, e2, _, _, rfl, ?_⟩
      have fr8' := (fr6.trans fr7).trans fr8
      have eF8 := fr8 _ _ zF.1.symm zF.2.1.symm (fr7 _ _ zF.1.symm zF.2.1.symm eF6)
      have hH8 := hH.fr hS fr8'
      have hP8 := hP.tk (Tk.fr fr8' hS)
      have i1 : one ∈ G.map (·.1) := by rw [gn]; exact h1
      have i2 : oth' ∈ G.map (·.1) := by rw [gn]; exact h2
      obtain ⟨g1, mg1⟩ := key_val i1
      obtain ⟨g2, mg2⟩ := key_val i2
      have val : ∀ {H' : Hp} {nm : Str} {v : Int}, H' fo = some (.dK (dkI G)) → (nm, v) ∈ G → DGet H' fo (.str nm) (some (.int v)) := fun {H' nm v} e m => .inl ⟨_, Sum.inr nm, .inl e, rfl, (valV_dkI ndG m).symm⟩
      dsimp only
      refine seq_by (a := tIfS _ _ _) (fun σ' H' => ∃ (G' : List (Str × Int)), σ' = [some (.ref s), some (.ref h), some (.ref p), some (.ref fo), y4, y5, y6, some (.str one), y8, some (.ref py), some (.str oth')] ∧ StreamAt H' s A B (c5 + 3) ∧ Fr s A H H' ∧ H' py = some (.lst ((P.map (·.1)).map V.str)) ∧ H' fo = some (.dK (dkI G')) ∧ G'.map (·.1) = P.map (·.1) ∧ InR n G') ?_ ?_
      · intro NN hNN
        refine if_by (fun _ H' => StreamAt H' s A B (c5 + 3) ∧ Fr s A H H' ∧ H' py = some (.lst ((P.map (·.1)).map V.str)) ∧ H' fo = some (.dK (dkI G))) ?_ ?_ ?_
        · rintro H10 ⟨hS10, fr10, eY10, eF10⟩
          refine ⟨_, rfl, _, rfl, fo, _, rfl, val eF10 mg2, _, rfl, _, rfl, fo, _, rfl, val eF10 mg1, by show 2 ≤ sizeLine; decide, fun t ht => ⟨t, _, rfl, SqT.of upd_same, rfl, _, _, rfl, ?_⟩⟩
          have s12 := same_upd (o := .tup [.int g2, .int g1]) ht
          have eF12 := s12 _ _ eF10
          refine ⟨_, rfl, _, rfl, fo, _, rfl, DPut.k (k := Sum.inr one) eF12 (by rw [dkI_len, lG]; exact small1000 (by omega)), ?_⟩
          rw [put_old i1]
          have i2' : oth' ∈ (mvd G one g2).map (·.1) := by rw [mvd_names]; exact i2
          refine ⟨_, _, rfl, _, rfl, _, rfl, fo, _, rfl, DPut.k (k := Sum.inr oth') upd_same (by rw [dkI_len, mvd_len, lG]; exact small1000 (by omega)), rfl, ?_⟩
          rw [put_old i2', upd_upd]
          have nYF : py ≠ fo := ne_of eY10 eF10 (by intro z; cases z)
          refine hNN _ _ ⟨_, rfl, (hS10.same s12).put zF, (fr10.trans (Fr.of s12)).put gF, ?_, upd_same, by rw [mvd_names, mvd_names]; exact gn, (gr.mvd (gr _ mg2).1 (gr _ mg2).2).mvd (gr _ mg1).1 (gr _ mg1).2⟩
          rw [upd_ne nYF]
          exact s12 _ _ eY10
        · rintro H10 ⟨hS10, fr10, eY10, eF10⟩
          exact hNN _ _ ⟨G, rfl, hS10, fr10, eY10, eF10, gn, gr⟩
        · intro Q' hQ'
          refine ⟨_, rfl, s, A, B, c5 + 1 + 1, _, rfl, hS8, by omega, by decide, by decide, fun H9 dv hS9 fr9 _ _ => ⟨_, _, rfl, rfl, _, rfl, ?_⟩⟩
          exact hQ' _ _ ⟨hS9, fr8'.trans fr9, fr9 _ _ zY.1.symm zY.2.1.symm eY8, fr9 _ _ zF.1.symm zF.2.1.symm eF8⟩
      clear val mg1 mg2 i1 i2 gn gr ndG lG
      rintro σ' H11 ⟨G', rfl, hS11, fr11, eY11, eF11, gn, gr⟩
      have plG : Pl n G' := ⟨by rw [gn]; exact pl.nm, gr⟩
      have lG : G'.length = P.length := by
        have := congrArg List.length gn
        rw [List.length_map, List.length_map] at this
        exact this
      rw [← gn] at eY11
      refine ⟨_, rfl, py, rfl, ⟨_, SqL.of eY11⟩, fun M hM => lc_list (K := K) (a := py) (xs := (G'.map (·.1)).map V.str) (fun i H' => Same H11 H' ∧ LsAt H' M (G'.take i)) ⟨same_upd hM, .nil upd_same⟩ (fun i H' _ hh => SqL.of (hh.1 _ _ eY11)) ?_ ?_⟩
      · rintro i x H12 hx ⟨s12, x12⟩
        obtain ⟨nm, hnm, rfl⟩ := get_vs hx
        rw [List.getElem?_map] at hnm
        cases hg : G'[i]? with
        | none => rw [hg] at hnm; cases hnm
        | some y =>
          rw [hg] at hnm
          cases hnm
          have my := List.mem_of_getElem? hg
          have ly := lt_of_get hg
          refine ⟨rfl, ?_⟩
          unfold tYes
          refine iteT ⟨_, rfl, _, rfl, _, rfl, fo, _, rfl, .inl ⟨_, Sum.inr y.1, .inl (s12 _ _ eF11), rfl, (valV_dkI plG.nodup (show (y.1, y.2) ∈ G' from my)).symm⟩, by show 2 ≤ sizeLine; decide, fun t ht => ?_⟩
          have s13 := same_upd (o := .tup [.str y.1, .int y.2]) ht
          obtain ⟨acc, a1, a2, a3⟩ := (x12.same s13).snoc (t := t) upd_same
          refine ⟨acc, a1, ?_, same_put (s12.trans s13) hM, ?_⟩
          · rw [a2, List.length_take]
            exact small1000 (by omega)
          · rw [take_snoc hg]
            exact a3
      · rintro H12 ⟨s12, x12⟩
        rw [List.length_map, List.length_map, List.take_length] at x12
        obtain ⟨xs, b1, b2⟩ := x12.tup
        refine ⟨M, _, rfl, SqL.of b1, fun t ob ht od => ?_⟩
        have s13 := s12.trans (same_upd (o := .frz ob (.tup xs)) ht)
        exact q _ t G' ((hS11.same s13).mono (by omega)) (fr11.trans (Fr.of s13)) (b2 t ob ht od) plG gn
end
end Fw
set_option maxHeartbeats 2000000
namespace Fw
open PySem PySem.Spec PyProof.Rows L2
/-! moves that can be made one after another (math) -/
theorem SP.upto {R : Int → Int → Prop} {a b c : Int} {p : List Int} (h : SP R a b p) : c ∈ p → ∃ q, SP R a c q ∧ ∀ x ∈ q, x ∈ p := by
  induction h with
  | one a =>
    intro m
    rw [List.mem_singleton.mp m]
    exact ⟨_, .one a, fun x hx => hx⟩
  | @cons a c' b p r q n ih =>
    intro m
    rcases List.mem_cons.mp m with e | m
    · rw [e]
      exact ⟨_, .one a, fun x hx => by rw [List.mem_singleton.mp hx]; exact List.mem_cons_self⟩
    · obtain ⟨q', hq, sub⟩ := ih m
      refine ⟨_, .cons r hq fun z => n (sub _ z), fun x hx => ?_⟩
      rcases List.mem_cons.mp hx with e | hx
      · rw [e]; exact List.mem_cons_self
      · exact List.mem_cons_of_mem _ (sub x hx)
/-- a way within -/
theorem Wk.within {D : List (Int × Int)} {U : List Int} {g v : Int} (h : Wk D U g v) : ∃ p, SP (adj D) g v p ∧ ∀ x ∈ p, x = g ∨ x ∈ U := by
  induction h with
  | base => exact ⟨_, .one g, fun x hx => .inl (List.mem_singleton.mp hx)⟩
  | @step v o _ r mo ih =>
    obtain ⟨p, hp, hs⟩ := ih
    by_cases m : o ∈ p
    · obtain ⟨q, hq, sub⟩ := hp.upto m
      exact ⟨q, hq, fun x hx => hs x (sub x hx)⟩
    · refine ⟨_, hp.snoc r m, fun x hx => ?_⟩
      rcases List.mem_append.mp hx with hx | hx
      · exact hs x hx
      · rw [List.mem_singleton.mp hx]
        exact .inr mo
theorem SP.walks {D : List (Int × Int)} {U : List Int} {a b : Int} {p : List Int} (h : SP (adj D) a b p) : (∀ x ∈ p.tail, x ∈ U) → Wk D U a b := by
  induction h with
  | one a => exact fun _ => .base
  | @cons a c b p r q n ih =>
    intro hs
    have hs : ∀ x ∈ p, x ∈ U := hs
    exact (Wk.step .base r (hs c q.head)).trans (ih fun x hx => hs x (List.mem_of_mem_tail hx))
theorem cut_tail (p : List Int) (h : 0 < p.length) : cutV (vi p) (some 1) none = vi p.tail := by
  unfold cutV vi
  show ((p.map V.int).drop (min 1 (p.map V.int).length)).take ((p.map V.int).length - min 1 (p.map V.int).length) = _
  rw [List.length_map, show min 1 p.length = 1 by omega, List.take_of_length_le (by rw [List.length_drop, List.length_map]; exact Nat.le_refl _), ← List.map_drop, List.drop_one]
/-- the moves X lead from P to Q -/
inductive Runs (n : Int) (D : List (Int × Int)) : List (Str × Int) → List (Str × Int) → List (Str × Int) → Prop
  | nil (P : List (Str × Int)) : Runs n D P [] P
  | cons {P X Q : List (Str × Int)} {nm : Str} {c r : Int} : (nm, c) ∈ P → r ∈ nb n D c → r ∈ P.map (·.2) → Runs n D (mvd P nm r) X Q → Runs n D P ((nm, r) :: X) Q
theorem mvd_twice (P : List (Str × Int)) (nm : Str) (a b : Int) : mvd (mvd P nm a) nm b = mvd P nm b := by
  unfold mvd
  rw [List.map_map]
  refine List.map_congr_left fun x _ => ?_
  by_cases e : x.1 = nm
  · simp [e]
  · simp [e]
theorem mvd_stay {P : List (Str × Int)} {nm : Str} {c : Int} (nd : (P.map (·.1)).Nodup) (m : (nm, c) ∈ P) : mvd P nm c = P := by
  unfold mvd
  refine (List.map_congr_left fun x hx => ?_).trans (List.map_id P)
  by_cases e : x.1 = nm
  · have := key_uniq nd m (show (nm, x.2) ∈ P from e ▸ hx) rfl
    rw [if_pos e, show c = x.2 from congrArg Prod.snd this]
    rfl
  · rw [if_neg e]
    rfl
theorem mvd_self {P : List (Str × Int)} {nm : Str} {c r : Int} (m : (nm, c) ∈ P) : (nm, r) ∈ mvd P nm r := List.mem_map.mpr ⟨_, m, by simp⟩
theorem mvd_other {P : List (Str × Int)} {nm : Str} {r : Int} {x : Str × Int} (m : x ∈ P) (ne : x.1 ≠ nm) : x ∈ mvd P nm r := List.mem_map.mpr ⟨_, m, by simp [ne]⟩
/-- a way whose rooms are other people's can be gone -/
theorem SP.runs {n : Int} {D : List (Int × Int)} (hF : Forest n D) {nm : Str} {a b : Int} {p : List Int} (h : SP (adj D) a b p) : ∀ {P : List (Str × Int)}, (P.map (·.1)).Nodup → (nm, a) ∈ P → (∀ t ∈ p.tail, ∃ x ∈ P, x.1 ≠ nm ∧ x.2 = t) → Runs n D P (p.tail.map fun t => (nm, t)) (mvd P nm b) := by
  induction h with
  | one a =>
    intro P nd m _
    rw [mvd_stay nd m]
    exact .nil P
  | @cons a c b p r q ni ih =>
    intro P nd m oth
    have oth : ∀ t ∈ p, ∃ x ∈ P, x.1 ≠ nm ∧ x.2 = t := oth
    have ep : p = c :: p.tail := by
      cases q <;> rfl
    show Runs n D P (p.map fun t => (nm, t)) _
    rw [ep, List.map_cons]
    obtain ⟨x, hx, _, ex⟩ := oth c q.head
    refine .cons m (hF.mem_nb.mpr r) (ex ▸ List.mem_map_of_mem (f := (·.2)) hx) ?_
    have := ih (P := mvd P nm c) (by rw [mvd_names]; exact nd) (mvd_self m) fun t ht => by
      obtain ⟨y, hy, ne, ey⟩ := oth t (List.mem_of_mem_tail ht)
      exact ⟨y, mvd_other hy ne, ne, ey⟩
    rw [mvd_twice] at this
    exact this
end Fw
namespace Fw
open PySem PySem.Spec PyProof.Rows L2
theorem int_dec (a b : Int) : decide (V.int a = V.int b) = decide (a = b) := by
  rw [Bool.eq_iff_iff, decide_eq_true_eq, decide_eq_true_eq]
  exact ⟨V.int.inj, fun e => by rw [e]⟩
section
variable {P : Program} {w : World} {K : PySem.W.Frag} {mg : Str → Option Value} {base : Heap}
end
end Fw
set_option maxHeartbeats 4000000
namespace Fw
open PySem PySem.Spec PyProof.Rows L2
/-! tuple(zip(l, m)), l and m lists of one length -/
theorem zip_has_no_len : typeLookup (.type "zip") "__len__" = pure none := am_miss_of_fast (by decide +kernel)
theorem zip_has_no_hint : typeLookup (.type "zip") "__length_hint__" = pure none := am_miss_of_fast (by decide +kernel)
/-- a new list at S with these refs in it -/
abbrev FilledL (h : Heap) (S : Addr) (ts : List Addr) (c : Nat) : Prop := h.get? S = some { cls := .type "list", dict := none, data := .seq (ts.map Value.ref).toArray c, slots := #[] }
/-- what has been poured out of a zip so far: tuples at ts -/
structure Poured (h0 h : Heap) (xs ys : Array Value) (ts : List Addr) : Prop where
  nd : ts.Nodup
  new : ∀ t ∈ ts, h0.objs.size ≤ t ∧ ∃ o, h.get? t = some o
  pair : ∀ (j : Nat) (t : Addr) (x y : Value), ts[j]? = some t → xs[j]? = some x → ys[j]? = some y → IsPair h t x y
  keep : ∀ b o, h0.get? b = some o → h.get? b = some o
/-- the zip's own cells, and the list that is filled -/
structure Jug (z TI TO i1 i2 l1 l2 S : Addr) (n0 : Nat) : Prop where
  D : ZipApart z TI TO i1 i2 l1 l2
  z0 : n0 ≤ z
  t0 : n0 ≤ TO
  a0 : n0 ≤ i1
  b0 : n0 ≤ i2
  s0 : n0 ≤ S
  sz : S ≠ z
  sT : S ≠ TO
  sI : S ≠ TI
  s1 : S ≠ i1
  s2 : S ≠ i2
  l1 : l1 ≠ S
  l2 : l2 ≠ S
/-- the state between two turns -/
structure Turn1 (h0 h : Heap) (z TI TO i1 i2 l1 l2 S : Addr) (xs ys : Array Value) (ts : List Addr) : Prop where
  st : IsZip h z TI TO .none ∨ ∃ T f oT, IsZipHeld h z TI TO T f ∧ h.get? T = some oT ∧ T ≠ z ∧ T ≠ TO ∧ T ≠ i1 ∧ T ≠ i2 ∧ T ≠ S
  ti : IsPair h TI (.ref i1) (.ref i2)
  to : ∃ a b, IsPair h TO a b
  c1 : h.IsListIter i1 l1 ts.length
  c2 : h.IsListIter i2 l2 ts.length
  e1 : h.IsList l1 xs
  e2 : h.IsList l2 ys
  p : Poured h0 h xs ys ts
  out : ∀ t ∈ ts, t ≠ z ∧ t ≠ TO ∧ t ≠ i1 ∧ t ≠ i2 ∧ t ≠ S
section
variable {P : Program} {w : World} {A : Around} {E : Value → Shared → Prop} {s : Shared} {h0 : Heap} {z TI TO i1 i2 l1 l2 S : Addr} {xs ys : Array Value} {ts : List Addr} {c : Nat}
theorem iter_live {h : Heap} {i l : Addr} {k : Nat} (x : h.IsListIter i l k) : i < h.objs.size := by
  obtain ⟨o, e, _⟩ := x
  exact Heap.lt_size e
/-- one more -/
theorem pour_next {Q : Option Value → Shared → Prop} (J : Jug z TI TO i1 i2 l1 l2 S h0.objs.size) (T1 : Turn1 h0 s.heap z TI TO i1 i2 l1 l2 S xs ys ts) (L : FilledL s.heap S ts c) {x y : Value} (hx : xs[ts.length]? = some x) (hy : ys[ts.length]? = some y)
    (hQ : ∀ h' t, Turn1 h0 h' z TI TO i1 i2 l1 l2 S xs ys (ts ++ [t]) → FilledL h' S ts c → Q (some (.ref t)) { s with heap := h' }) : wpAny (model P w) A (pyNext (.ref z)) Q E s := by
  obtain ⟨st, ti, to, c1, c2, e1, e2, p, out⟩ := T1
  have live : ∀ {b o}, s.heap.get? b = some o → s.heap.objs.size ≠ b := fun e => Nat.ne_of_gt (Heap.lt_size e)
  have zl : s.heap.objs.size ≠ z := by
    rcases st with e | ⟨_, _, _, e, _⟩
    · exact live e
    · exact live e
  have tl : s.heap.objs.size ≠ TO := by
    obtain ⟨_, _, e⟩ := to
    exact live e
  have al : s.heap.objs.size ≠ i1 := Nat.ne_of_gt (iter_live c1)
  have bl : s.heap.objs.size ≠ i2 := Nat.ne_of_gt (iter_live c2)
  have sl : s.heap.objs.size ≠ S := live L
  have kz : ∀ {b o}, h0.get? b = some o → b ≠ z ∧ b ≠ TO ∧ b ≠ i1 ∧ b ≠ i2 := fun e => by
    have := Heap.lt_size e
    refine ⟨fun q => ?_, fun q => ?_, fun q => ?_, fun q => ?_⟩ <;> subst q
    · exact absurd J.z0 (Nat.not_le_of_lt this)
    · exact absurd J.t0 (Nat.not_le_of_lt this)
    · exact absurd J.a0 (Nat.not_le_of_lt this)
    · exact absurd J.b0 (Nat.not_le_of_lt this)
  -- whichever way the tuple came
  have fin : ∀ h', (∃ T f oT, IsZipHeld h' z TI TO T f ∧ h'.get? T = some oT ∧ T ≠ z ∧ T ≠ TO ∧ T ≠ i1 ∧ T ≠ i2 ∧ T ≠ S) → (∃ a b, IsPair h' TO a b) → h'.IsListIter i1 l1 (ts.length + 1) → h'.IsListIter i2 l2 (ts.length + 1) → IsPair h' s.heap.objs.size x y → h'.objs.size = s.heap.objs.size + 1 →
      (∀ b o, b ≠ z → b ≠ TO → b ≠ i1 → b ≠ i2 → s.heap.get? b = some o → h'.get? b = some o) → Q (some (.ref s.heap.objs.size)) { s with heap := h' } := by
    intro h' st' to' c1' c2' pr gr kp
    have lst : ∀ {l : Addr} {vs : Array Value}, l ≠ z → l ≠ TO → l ≠ i1 → l ≠ i2 → s.heap.IsList l vs → h'.IsList l vs := fun {l vs} n1 n2 n3 n4 ⟨o, e, r⟩ => ⟨o, kp _ _ n1 n2 n3 n4 e, r⟩
    refine hQ h' s.heap.objs.size ⟨.inr st', kp _ _ J.D.TIz J.D.TITO J.D.TIi1 J.D.TIi2 ti, to', by rw [List.length_append]; exact c1', by rw [List.length_append]; exact c2', lst J.D.l1z J.D.l1TO J.D.l1i1 J.D.l1i2 e1, lst J.D.l2z J.D.l2TO J.D.l2i1 J.D.l2i2 e2, ⟨?_, ?_, ?_, ?_⟩, ?_⟩ (kp _ _ J.sz J.sT J.s1 J.s2 L)
    · rw [List.nodup_append]
      refine ⟨p.nd, by simp, fun a ha b hb e => ?_⟩
      rw [List.mem_singleton] at hb
      obtain ⟨_, o, ho⟩ := p.new a ha
      rw [e, hb] at ho
      exact absurd (Heap.lt_size ho) (Nat.lt_irrefl _)
    · intro t ht
      rcases List.mem_append.mp ht with ht | ht
      · obtain ⟨n1, n2, n3, n4, _⟩ := out t ht
        obtain ⟨g, o, ho⟩ := p.new t ht
        exact ⟨g, o, kp _ _ n1 n2 n3 n4 ho⟩
      · rw [List.mem_singleton.mp ht]
        exact ⟨Nat.le_trans J.s0 (Nat.le_of_lt (Heap.lt_size L)), _, pr⟩
    · intro j t x' y' ht hx' hy'
      by_cases lt : j < ts.length
      · rw [List.getElem?_append_left lt] at ht
        obtain ⟨n1, n2, n3, n4, _⟩ := out t (List.mem_of_getElem? ht)
        exact kp _ _ n1 n2 n3 n4 (p.pair j t x' y' ht hx' hy')
      · rw [List.getElem?_append_right (Nat.le_of_not_lt lt)] at ht
        have ej : j - ts.length = 0 := by
          cases q : j - ts.length with
          | zero => rfl
          | succ m => rw [q] at ht; cases ht
        have ej : j = ts.length := by omega
        subst ej
        rw [Nat.sub_self] at ht
        cases ht
        rw [hx] at hx'
        rw [hy] at hy'
        cases hx'
        cases hy'
        exact pr
    · intro b o e
      obtain ⟨n1, n2, n3, n4⟩ := kz e
      exact kp b o n1 n2 n3 n4 (p.keep b o e)
    · intro t ht
      rcases List.mem_append.mp ht with ht | ht
      · exact out t ht
      · rw [List.mem_singleton.mp ht]
        exact ⟨zl, tl, al, bl, sl⟩
  obtain ⟨a, b, hto⟩ := to
  rcases st with hz | ⟨T, f, oT, hz, hT, n1, n2, n3, n4, n5⟩
  · exact wpAny_pyNext_zip_item J.D hz ti hto c1 c2 e1 e2 hx hy fun h' z' t' c1' c2' pr gr kp => fin h' ⟨_, false, _, z', pr, zl, tl, al, bl, sl⟩ ⟨_, _, t'⟩ c1' c2' pr gr kp
  · exact wpAny_pyNext_zip_item_held J.D hz hT ti c1 c2 e1 e2 hx hy fun h' z' c1' c2' pr gr kp => fin h' ⟨T, true, _, z', kp _ _ n1 n3 n4 hT, n1, n2, n3, n4, n5⟩ ⟨_, _, kp _ _ J.D.TOz J.D.TOi1 J.D.TOi2 hto⟩ c1' c2' pr gr fun b o m1 _ m3 m4 => kp b o m1 m3 m4
/-- no more -/
theorem pour_stop {Q : Option Value → Shared → Prop} (calm : A.handled = none) (J : Jug z TI TO i1 i2 l1 l2 S h0.objs.size) (T1 : Turn1 h0 s.heap z TI TO i1 i2 l1 l2 S xs ys ts) (L : FilledL s.heap S ts c) (hx : xs[ts.length]? = none)
    (hQ : ∀ h', Poured h0 h' xs ys ts → FilledL h' S ts c → Q none { s with heap := h' }) : wpAny (model P w) A (pyNext (.ref z)) Q E s := by
  obtain ⟨st, ti, to, c1, c2, e1, e2, p, out⟩ := T1
  have fin : ∀ h', (∀ b o, b ≠ z → b ≠ TO → b ≠ i1 → b ≠ i2 → s.heap.get? b = some o → h'.get? b = some o) → Q none { s with heap := h' } := by
    intro h' kp
    refine hQ h' ⟨p.nd, fun t ht => ⟨(p.new t ht).1, ?_⟩, fun j t x y ht hx' hy' => ?_, fun b o e => ?_⟩ (kp _ _ J.sz J.sT J.s1 J.s2 L)
    · obtain ⟨n1, n2, n3, n4, _⟩ := out t ht
      obtain ⟨g, o, ho⟩ := p.new t ht
      exact ⟨o, kp _ _ n1 n2 n3 n4 ho⟩
    · obtain ⟨n1, n2, n3, n4, _⟩ := out t (List.mem_of_getElem? ht)
      exact kp _ _ n1 n2 n3 n4 (p.pair j t x y ht hx' hy')
    · have := Heap.lt_size e
      refine kp b o (fun q => ?_) (fun q => ?_) (fun q => ?_) (fun q => ?_) (p.keep b o e) <;> subst q
      · exact absurd J.z0 (Nat.not_le_of_lt this)
      · exact absurd J.t0 (Nat.not_le_of_lt this)
      · exact absurd J.a0 (Nat.not_le_of_lt this)
      · exact absurd J.b0 (Nat.not_le_of_lt this)
  obtain ⟨a, b, hto⟩ := to
  rcases st with hz | ⟨T, f, oT, hz, hT, _⟩
  · exact wpAny_pyNext_zip_end calm J.D hz ti hto c1 c2 e1 e2 (.inl hx) fun h' kp => fin h' kp
  · exact wpAny_pyNext_zip_end_held calm J.D hz hT ti c1 c2 e1 e2 (.inl hx) fun h' kp => fin h' fun b o m1 _ m3 m4 => kp b o m1 m3 m4
/-- a write to the list leaves all else -/
theorem Turn1.off {h h' : Heap} (J : Jug z TI TO i1 i2 l1 l2 S h0.objs.size) (T1 : Turn1 h0 h z TI TO i1 i2 l1 l2 S xs ys ts) (kp : ∀ b o, b ≠ S → h.get? b = some o → h'.get? b = some o) : Turn1 h0 h' z TI TO i1 i2 l1 l2 S xs ys ts := by
  obtain ⟨st, ti, ⟨a, b, hto⟩, ⟨o1, g1, r1⟩, ⟨o2, g2, r2⟩, ⟨o3, g3, r3⟩, ⟨o4, g4, r4⟩, p, out⟩ := T1
  refine ⟨?_, kp _ _ J.sI.symm ti, ⟨a, b, kp _ _ J.sT.symm hto⟩, ⟨o1, kp _ _ J.s1.symm g1, r1⟩, ⟨o2, kp _ _ J.s2.symm g2, r2⟩, ⟨o3, kp _ _ J.l1 g3, r3⟩, ⟨o4, kp _ _ J.l2 g4, r4⟩, ⟨p.nd, fun t ht => ?_, fun j t x y ht hx hy => ?_, fun b o e => ?_⟩, out⟩
  · rcases st with e | ⟨T, f, oT, e, hT, n1, n2, n3, n4, n5⟩
    · exact .inl (kp _ _ J.sz.symm e)
    · exact .inr ⟨T, f, oT, kp _ _ J.sz.symm e, kp _ _ n5 hT, n1, n2, n3, n4, n5⟩
  · obtain ⟨g, o, e⟩ := p.new t ht
    exact ⟨g, o, kp _ _ (out t ht).2.2.2.2 e⟩
  · exact kp _ _ (out t (List.mem_of_getElem? ht)).2.2.2.2 (p.pair j t x y ht hx hy)
  · refine kp b o (fun q => ?_) (p.keep b o e)
    subst q
    exact absurd J.s0 (Nat.not_le_of_lt (Heap.lt_size e))
/-- all of it -/
theorem pour_all {R : Result → Shared → Prop} {res : Value} (calm : A.handled = none) (J : Jug z TI TO i1 i2 l1 l2 S h0.objs.size) (ey : xs.size = ys.size) (zs : xs.size ≤ 1000) : ∀ (k : Nat) (s : Shared) (ts : List Addr) (c : Nat), xs.size - ts.length = k → ts.length ≤ xs.size →
    Turn1 h0 s.heap z TI TO i1 i2 l1 l2 S xs ys ts → FilledL s.heap S ts c → (∀ h' ts' c', ts'.length = xs.size → Poured h0 h' xs ys ts' → FilledL h' S ts' c' → R (.ok (.ret res)) { s with heap := h' }) →
    codeAny (model P w) A (.builtin "list.extend.loop" ⟨[.ref S, .ref z, res], []⟩) R s
  | 0, s, ts, c, hk, hl, T1, L, fin => by
    refine codeAny_builtin PySem.F.entry_extend_loop ?_
    rw [Around.under_plainId PySem.F.plain_extend_loop _]
    show wpAny _ _ (pyNext (.ref z) >>= _) _ _ s
    exact wpAny_bind (pour_stop (A := A.in1) calm J T1 L (Array.getElem?_eq_none (by omega)) fun h' p' L' => wpAny_pure (fin h' ts c (by omega) p' L'))
  | k + 1, s, ts, c, hk, hl, T1, L, fin => by
    have lx : ts.length < xs.size := by omega
    refine codeAny_builtin PySem.F.entry_extend_loop ?_
    rw [Around.under_plainId PySem.F.plain_extend_loop _]
    show wpAny _ _ (pyNext (.ref z) >>= _) _ _ s
    refine wpAny_bind (pour_next (A := A.in1) J T1 L (Array.getElem?_eq_getElem lx) (Array.getElem?_eq_getElem (ey ▸ lx)) fun h' t T2 L2 => ?_)
    have zs' : ((ts.map Value.ref).toArray.push (Value.ref t)).size ≤ sizeLine + 1 := by
      rw [Array.size_push, List.size_toArray, List.length_map, sizeLine_eq]
      omega
    show wpAny _ _ (updateSeq S (·.push (Value.ref t)) >>= _) _ _ _
    have L3 := Heap.get?_update_self (Obj.mapSeq (·.push (Value.ref t))) L2 rfl
    have e3 : (ts.map Value.ref).toArray.push (Value.ref t) = ((ts ++ [t]).map Value.ref).toArray := by simp
    have L4 : FilledL (h'.update S (Obj.mapSeq (·.push (Value.ref t)))) S (ts ++ [t]) (if ((ts.map Value.ref).toArray.push (Value.ref t)).size == (ts.map Value.ref).toArray.size then c else c + 1) := by
      refine L3.trans ?_
      rw [← e3]
      rfl
    refine wpAny_bind (wpAny_updateSeq L2 rfl (wpAny_pure ⟨plainId_quiet PySem.F.plain_extend_loop _, ?_⟩) (by rw [List.size_toArray, List.length_map, sizeLine_eq]; omega) zs')
    exact pour_all calm J ey zs k { s with heap := h'.update S (Obj.mapSeq (·.push (Value.ref t))) } (ts ++ [t]) _ (by rw [List.length_append]; show _ - (_ + 1) = _; omega) (by rw [List.length_append]; show _ + 1 ≤ _; omega) (T2.off J fun b o nb e => (Heap.get?_update_other _ _ (Ne.symm nb)).trans e) L4 fin
theorem one_touch {n : Nat} {o : Obj} {Q : Unit → Shared → Prop} (e : s.heap.get? n = some o) (ho : o = { cls := .type "list", dict := none, data := .seq #[] 0, slots := #[] })
    (hQ : ∀ h' c, FilledL h' n [] c → (∀ b u, b ≠ n → s.heap.get? b = some u → h'.get? b = some u) → Q () { s with heap := h' }) : wpAny (model P w) A (Builtin.List.listTouch (.ref n)) Q E s := by
  subst ho
  show wpAny _ _ (updateSeq n (·.push .none) >>= fun _ => updateSeq n (·.pop)) _ _ s
  have u1 := Heap.get?_update_self (Obj.mapSeq (·.push Value.none)) e rfl
  have u2 := Heap.get?_update_self (Obj.mapSeq (·.pop)) u1 rfl
  refine wpAny_bind (wpAny_updateSeq e rfl (wpAny_updateSeq u1 rfl (hQ _ _ u2 fun b u nb h => ?_)))
  rw [Heap.get?_update_other _ _ (Ne.symm nb), Heap.get?_update_other _ _ (Ne.symm nb)]
  exact h
/-- what a zip gives is gathered -/
theorem gather_zip {Q : List Value → Shared → Prop} (calm : A.handled = none) (D : ZipApart z TI TO i1 i2 l1 l2) (lo : h0.objs.size ≤ z ∧ h0.objs.size ≤ TO ∧ h0.objs.size ≤ i1 ∧ h0.objs.size ≤ i2) (hz : IsZip s.heap z TI TO .none) (ti : IsPair s.heap TI (.ref i1) (.ref i2)) (to : ∃ a b, IsPair s.heap TO a b)
    (c1 : s.heap.IsListIter i1 l1 0) (c2 : s.heap.IsListIter i2 l2 0) (e1 : s.heap.IsList l1 xs) (e2 : s.heap.IsList l2 ys) (kp : ∀ b o, h0.get? b = some o → s.heap.get? b = some o) (sz0 : h0.objs.size ≤ s.heap.objs.size) (ey : xs.size = ys.size) (zs : xs.size ≤ 1000)
    (hQ : ∀ h' ts, ts.length = xs.size → Poured h0 h' xs ys ts → Q (ts.map Value.ref) { s with heap := h' }) : wpAny (model P w) A (collect (.ref z)) Q E s := by
  have ne : ∀ {b o}, s.heap.get? b = some o → s.heap.objs.size ≠ b := fun e => Nat.ne_of_gt (Heap.lt_size e)
  have J : Jug z TI TO i1 i2 l1 l2 s.heap.objs.size h0.objs.size := by
    obtain ⟨_, _, to⟩ := to
    obtain ⟨_, g1, _⟩ := c1
    obtain ⟨_, g2, _⟩ := c2
    obtain ⟨_, g3, _⟩ := e1
    obtain ⟨_, g4, _⟩ := e2
    exact ⟨D, lo.1, lo.2.1, lo.2.2.1, lo.2.2.2, sz0, ne hz, ne to, ne ti, ne g1, ne g2, (ne g3).symm, (ne g4).symm⟩
  let new : Obj := { cls := .type "list", data := .seq ([] : List Value).toArray }
  let s1 : Shared := { s with heap := s.heap.push new }
  have g0 : s1.heap.get? s.heap.objs.size = some new := Heap.get?_push_size _ rfl
  have up : ∀ b o, s.heap.get? b = some o → s1.heap.get? b = some o := fun b o e => Heap.get?_push_of_some _ e
  have zT : s1.TypeIs (.ref z) "zip" := ⟨_, up _ _ hz, rfl⟩
  have start : ∀ h', (∀ b u, b ≠ s.heap.objs.size → s1.heap.get? b = some u → h'.get? b = some u) → Turn1 h0 h' z TI TO i1 i2 l1 l2 s.heap.objs.size xs ys [] := fun h' k => by
    have k : ∀ b u, s.heap.get? b = some u → h'.get? b = some u := fun b u e => k b u (ne e).symm (up b u e)
    obtain ⟨a, b, to⟩ := to
    obtain ⟨o1, g1, r1⟩ := c1
    obtain ⟨o2, g2, r2⟩ := c2
    obtain ⟨o3, g3, r3⟩ := e1
    obtain ⟨o4, g4, r4⟩ := e2
    exact ⟨.inl (k _ _ hz), k _ _ ti, ⟨a, b, k _ _ to⟩, ⟨o1, k _ _ g1, r1⟩, ⟨o2, k _ _ g2, r2⟩, ⟨o3, k _ _ g3, r3⟩, ⟨o4, k _ _ g4, r4⟩, ⟨List.nodup_nil, fun t h => (nomatch h), fun j t x y h => (nomatch h), fun b o e => k _ _ (kp b o e)⟩, fun t h => (nomatch h)⟩
  -- into a new list
  have load : ∀ h' ts c, ts.length = xs.size → Poured h0 h' xs ys ts → FilledL h' s.heap.objs.size ts c → wpAny (model P w) A (PySem.load s.heap.objs.size >>= fun o => match o.data with | .seq vs _ => pure vs.toList | _ => unsupported "internal:collect") Q E { s with heap := h' } := fun h' ts c lt p L =>
    wpAny_bind (wpAny_load L (wpAny_pure (by simpa using hQ h' ts lt p)))
  unfold collect
  refine wpAny_bind (wpAny_runValue (codeAny_builtin PySem.F.entry_proto_collect ?_))
  rw [Around.under_plainId PySem.F.plain_proto_collect _]
  refine wpAny_bind (wpAny_newObj_type (wpAny_pure ⟨plainId_quiet PySem.F.plain_list_iadd _, codeAny_builtin PySem.F.entry_list_iadd ?_⟩))
  rw [Around.under_plainId PySem.F.plain_list_iadd _]
  show wpAny _ _ (Builtin.List.listExtendWith (.ref s.heap.objs.size) (.ref z) (.ref s.heap.objs.size)) _ _ s1
  unfold Builtin.List.listExtendWith Builtin.List.listLengthHint
  refine wpAny_bind (wpAny_typeOf zT ?_)
  have no : (Builtin.List.listSameRef (.ref s.heap.objs.size) (.ref z) || (Value.type "zip" == Value.type "list") || (Value.type "zip" == Value.type "tuple")) = false := by
    simp only [Builtin.List.listSameRef, show (s.heap.objs.size == z) = false from beq_false_of_ne J.sz]
    decide
  rw [if_neg (by rw [no]; decide)]
  refine wpAny_bind (wpAny_pyIter_zip (up _ _ hz) (wpAny_bind (wpAny_holding (wpAny_bind (wpAny_specialOf zT zip_has_no_len (wpAny_bind (wpAny_specialOf zT zip_has_no_hint (wpAny_pure ?_))))))))
  refine wpAny_bind (wpAny_rule (wpAny_bind (one_touch (s := s1) g0 rfl fun h2 c L k => ?_)))
  refine wpAny_pure ⟨plainId_quiet PySem.F.plain_extend_loop _, pour_all calm J ey zs xs.size { s1 with heap := h2 } [] c rfl (Nat.zero_le _) (start h2 k) L fun h' ts c' lt p L' => ?_⟩
  exact load h' ts c' lt p L'
open AutoSeq1 (wpAny_loadPart') in
theorem tuple_zip {Q : Value → Shared → Prop} (calm : A.handled = none) (D : ZipApart z TI TO i1 i2 l1 l2) (lo : h0.objs.size ≤ z ∧ h0.objs.size ≤ TO ∧ h0.objs.size ≤ i1 ∧ h0.objs.size ≤ i2) (hz : IsZip s.heap z TI TO .none) (ti : IsPair s.heap TI (.ref i1) (.ref i2)) (to : ∃ a b, IsPair s.heap TO a b)
    (c1 : s.heap.IsListIter i1 l1 0) (c2 : s.heap.IsListIter i2 l2 0) (e1 : s.heap.IsList l1 xs) (e2 : s.heap.IsList l2 ys) (kp : ∀ b o, h0.get? b = some o → s.heap.get? b = some o) (sz0 : h0.objs.size ≤ s.heap.objs.size) (ey : xs.size = ys.size) (zs : xs.size ≤ 1000)
    (hQ : ∀ h' ts, ts.length = xs.size → Poured h0 h' xs ys ts → Q (.ref h'.objs.size) { s with heap := h'.push { cls := .type "tuple", data := .seq (ts.map Value.ref).toArray } }) : wpAny (model P w) A (call (.type "tuple") [.ref z]) Q E s := by
  refine callType_codes (Q₁ := fun v y => y.TypeIs v "tuple" ∧ Q v y) PySem.F.called_tuple (PySem.F.typeCall_tuple_1 _) PySem.F.entry_object_init (codeAny_of_tree ?_) fun v y h => ⟨h.1, PySem.F.args_object_init_2 v _, object_init_meets PySem.F.called_tuple.init.lookup PySem.F.called_tuple.made (by decide) P w A.in1 _ y ⟨h.1, rfl, h.2⟩⟩
  refine wpAny_bind (wpAny_of_eq (PySem.F.newCall_tuple_1 _) (wpAny_pure ⟨plainId_quiet PySem.F.plain_tuple_new _, codeAny_builtin PySem.F.entry_tuple_new ?_⟩))
  rw [Around.under_plainId PySem.F.plain_tuple_new _]
  have zT : s.TypeIs (.ref z) "zip" := ⟨_, hz, rfl⟩
  have f1 := sub_tuple_self
  have f2 := init_tuple_lookup
  have f3 := madeHere_tuple
  wp_walk using wpAny_typeOf zT, gather_zip (A := A.in1.in1) calm D lo hz ti to c1 c2 e1 e2 kp sz0 ey zs
  rintro h' ts lt p
  have fit : (ts.map Value.ref).toArray.size ≤ sizeLine := by rw [List.size_toArray, List.length_map, sizeLine_eq]; omega
  show wpAny _ _ (Builtin.Tuple.tupleExact (ts.map Value.ref).toArray >>= fun v => ret v) _ _ _
  unfold Builtin.Tuple.tupleExact
  refine wpAny_bind (wpAny_newObj_type ?_ fit)
  exact wpAny_pure ⟨⟨_, Heap.get?_push_size _ rfl, rfl⟩, hQ h' ts lt p⟩
end
end Fw
set_option maxHeartbeats 4000000
namespace Fw
open PySem PySem.Spec PyProof.Rows L2
/-! tuple(zip(l, m)) as a rule -/
/-- pairs that came about are told one by one -/
theorem pairs_told {X : Cx} {pins : List (Addr × Obj)} {σ : L2.St} {h' : Heap} : ∀ (zs : List (Addr × V × V)) (H : Hp) (s : Shared), Inv X pins σ H s → (zs.map (·.1)).Nodup →
    (∀ z ∈ zs, s.heap.get? z.1 = none ∧ H z.1 = none ∧ ∃ u v, IsPair h' z.1 u v ∧ RelV z.2.1 u ∧ RelV z.2.2 v) → (∀ b o, s.heap.get? b = some o → h'.get? b = some o) →
    ∃ H', Same H H' ∧ (∀ z ∈ zs, H' z.1 = some (.tup [z.2.1, z.2.2])) ∧ Inv X pins σ H' { s with heap := h' }
  | [], H, s, I, _, _, k => ⟨H, Same.refl _, fun z h => (nomatch h), I.kept (t' := s.toks) k⟩
  | z :: zs, H, s, I, nd, hz, k => by
    rw [List.map_cons, List.nodup_cons] at nd
    obtain ⟨n1, n2, u, v, pr, ru, rv⟩ := hz z List.mem_cons_self
    obtain ⟨G, g1, g2⟩ := restrict h' fun b => decide (b = z.1) || (s.heap.get? b).isSome
    have gz : IsPair G z.1 u v := (g1 z.1 (by simp)).trans pr
    have gk : ∀ b o, s.heap.get? b = some o → G.get? b = some o := fun b o e => (g1 b (by rw [e]; simp)).trans (k b o e)
    have gh : ∀ b o, G.get? b = some o → h'.get? b = some o := fun b o e => by
      cases q : (decide (b = z.1) || (s.heap.get? b).isSome) with
      | true => exact (g1 b q).symm.trans e
      | false => rw [g2 b q] at e; cases e
    have new : ObjOk X.prog X.w (upd H z.1 (.tup [z.2.1, z.2.2])) G z.1 (.tup [z.2.1, z.2.2]) := ⟨by show 2 ≤ sizeLine; decide, [u, v], .cons ru (.cons rv .nil), ⟨_, gz, rfl, _, rfl⟩⟩
    have I1 := I.laidN (h' := G) (t' := s.toks) gk n1 n2 new
    obtain ⟨H', s', a', I'⟩ := pairs_told zs (upd H z.1 (.tup [z.2.1, z.2.2])) { s with heap := G } I1 nd.2 (fun y hy => by
      obtain ⟨m1, m2, r⟩ := hz y (List.mem_cons_of_mem _ hy)
      have ne : y.1 ≠ z.1 := fun e => nd.1 (by rw [← e]; exact List.mem_map_of_mem (f := (·.1)) hy)
      refine ⟨g2 y.1 ?_, by rw [upd_ne ne]; exact m2, r⟩
      rw [m1, decide_eq_false ne]
      rfl) gh
    refine ⟨H', (same_upd n2).trans s', fun y hy => ?_, I'⟩
    rcases List.mem_cons.mp hy with rfl | hy
    · exact s' _ _ upd_same
    · exact a' y hy
def tTZ (K : PySem.W.Frag) (ta : TA) : TE := fun σ H Q => ta σ H fun vs H1 => ∃ (a b : Addr) (xs ys : List V), vs = [.ref a, .ref b] ∧ SqL K H1 a xs ∧ SqL K H1 b ys ∧ xs.length = ys.length ∧ xs.length ≤ 1000 ∧
  ∀ H2 l (zs : List (Addr × V × V)), Same H1 H2 → zs.map (·.2) = xs.zip ys → (∀ z ∈ zs, H2 z.1 = some (.tup [z.2.1, z.2.2])) → H2 l = none → Q (.ref l) (upd H2 l (.tup (zs.map fun z => V.ref z.1)))
theorem pe_tupleZip {X : Cx} {K : PySem.W.Frag} (hK : X.K = K) {e e2 : Expr} {ta : TA} {p pz pos pos2 : Pos} (hc : X.calm = true) (hg : Gl X "tuple") (hm : X.mg "tuple" = none) (hgz : Gl X "zip") (hmz : X.mg "zip" = none) (ha : PA X [e, e2] ta)
    (hs : starEach [e, e2] X.env = (false, eval e X.env) :: starEach [e2] X.env := by rfl) (hpl : (backTo pos2 (starEach [e2] X.env)).any (·.1) = false := by rfl) (hs1 : starEach [.Call (.Name "zip" pz) [e, e2] [] pos2] X.env = (false, eval (.Call (.Name "zip" pz) [e, e2] [] pos2) X.env) :: starEach [] X.env := by rfl) (hpl1 : (backTo pos (starEach [] X.env)).any (·.1) = false := by rfl) :
    PE X (.Call (.Name "tuple" p) [.Call (.Name "zip" pz) [e, e2] [] pos2] [] pos) (tTZ K ta) := by
  subst hK
  refine ⟨fun pins s σ H Q I h => ?_⟩
  refine wpAny_Call_Name_kw (ld_blt I hg hm boot_tuple ?_)
  refine PyProof.Rows.callWith_type1 (args_cons ?_ hs1) hs1 hpl1
  refine Call_ (ld_blt I hgz hmz PyProof.Rows.boot_zip (PyProof.Rows.callWith_type1 (thn (ha.run pos2 pins s σ H _ I h) fun us s1 ⟨vs, H1, I1, r1, q1⟩ => ?_) hs hpl))
  obtain ⟨a, b, xs, ys, rfl, hx, hy, ex, lx, q⟩ := q1
  obtain ⟨u, v, rfl, ru, rv⟩ := vals2 r1
  obtain rfl : u = Value.ref a := ru
  obtain rfl : v = Value.ref b := rv
  obtain ⟨its, rx, p1, _⟩ := I1.list hx
  obtain ⟨its2, ry, p2, _⟩ := I1.list hy
  have l1 := rx.length
  have l2 := ry.length
  refine call_zip_2 p1.isList p2.isList fun h' hz hTI hTO h1 h2 hsz hk => args_nil ?_
  have c1 := p1.isList
  have c2 := p2.isList
  obtain ⟨o1, g1, k1⟩ := id c1
  obtain ⟨o2, g2, k2⟩ := id c2
  refine tuple_zip (h0 := s1.heap) (xs := its.toArray) (ys := its2.toArray) (I1.ok.hd hc) (PySem.W.ktu_apart s1.heap.objs.size a b p1.lt p2.lt) ⟨Nat.le_add_right _ _, Nat.le_add_right _ _, Nat.le_refl _, Nat.le_add_right _ _⟩ hz hTI ⟨_, _, hTO⟩ h1 h2 ⟨o1, hk _ _ g1, k1⟩ ⟨o2, hk _ _ g2, k2⟩ hk (by show _ ≤ h'.objs.size; omega) (by rw [List.size_toArray, List.size_toArray]; omega) (by rw [List.size_toArray]; omega) ?_
  intro h2' ts lt P
  rw [List.size_toArray] at lt
  let zs : List (Addr × V × V) := ts.zip (xs.zip ys)
  have e1 : zs.map (·.1) = ts := List.map_fst_zip (by rw [List.length_zip]; omega)
  have e2 : zs.map (·.2) = xs.zip ys := List.map_snd_zip (by rw [List.length_zip]; omega)
  have I2 : ∃ H2, Same H1 H2 ∧ (∀ z ∈ zs, H2 z.1 = some (.tup [z.2.1, z.2.2])) ∧ Inv X pins σ H2 { s1 with heap := h2' } := pairs_told zs H1 s1 I1 (by rw [e1]; exact P.nd) (fun z hz => by
    have hm : z.1 ∈ ts := by rw [← e1]; exact List.mem_map_of_mem (f := (·.1)) hz
    obtain ⟨n0, _⟩ := P.new z.1 hm
    refine ⟨Heap.get?_none_of_le n0, I1.hok.fresh n0, ?_⟩
    obtain ⟨j, hj⟩ := List.mem_iff_getElem?.mp hz
    obtain ⟨t1, t2⟩ := List.getElem?_zip_eq_some.mp hj
    obtain ⟨t2, t3⟩ := List.getElem?_zip_eq_some.mp t2
    obtain ⟨u, hu, ru⟩ := rx.get t2
    obtain ⟨v, hv, rv⟩ := ry.get t3
    exact ⟨u, v, P.pair j z.1 u v t1 (by simpa using hu) (by simpa using hv), ru, rv⟩) P.keep
  obtain ⟨H2, s2, a2, I2⟩ := I2
  have fr := I2.hok.fresh (Nat.le_refl _)
  have rl : Vals (zs.map fun z => V.ref z.1) (ts.map Value.ref) := by
    rw [← e1, List.map_map]
    have : ∀ l : List (Addr × V × V), Vals (l.map fun z => V.ref z.1) (l.map (Value.ref ∘ (·.1))) := fun l => by
      induction l with
      | nil => exact .nil
      | cons x l ih => exact .cons rfl ih
    exact this zs
  have new : ObjOk X.prog X.w (upd H2 h2'.objs.size (.tup (zs.map fun z => V.ref z.1))) (h2'.push { cls := .type "tuple", data := .seq (ts.map Value.ref).toArray }) h2'.objs.size (.tup (zs.map fun z => V.ref z.1)) := by
    refine ⟨?_, _, rl, ⟨_, Heap.get?_push_size _ rfl, rfl, _, rfl⟩⟩
    rw [rl.length, List.length_map, lt]
    exact Nat.le_of_lt (small1000 (by omega))
  exact ⟨.ref h2'.objs.size, _, I2.laid (t' := s1.toks) (fun b o e => Heap.get?_push_of_some _ e) (Nat.le_refl _) new, rfl, q H2 _ zs s2 e2 a2 fr⟩
end Fw
set_option maxHeartbeats 4000000
namespace Fw
open PySem PySem.Spec PyProof.Rows L2
/-! a placement with two rooms exchanged -/
theorem swap_in {xs : List Int} {i j : Nat} {a b : Int} (ha : a ∈ xs) (hb : b ∈ xs) : ∀ x ∈ (xs.set i b).set j a, x ∈ xs := fun x hx => by
  rcases List.mem_or_eq_of_mem_set hx with h | h
  · rcases List.mem_or_eq_of_mem_set h with h | h
    · exact h
    · rw [h]; exact hb
  · rw [h]; exact ha
theorem ixN_to {n : Nat} {i : Int} (h0 : 0 ≤ i) (h1 : i < (n : Nat)) : ixN n i = some i.toNat := by
  unfold ixN
  rw [if_pos h0, if_pos h1]
theorem vi_set (xs : List Int) (i : Nat) (a : Int) : (vi xs).set i (.int a) = vi (xs.set i a) := List.map_set.symm
theorem PlAt.zip {H : Hp} {l : Addr} {zs : List (Addr × V × V)} {ns : List Str} {rs : List Int} (ln : ns.length = rs.length) (e : zs.map (·.2) = (ns.map V.str).zip (vi rs)) (a : ∀ z ∈ zs, H z.1 = some (.tup [z.2.1, z.2.2])) (hl : H l = some (.tup (zs.map fun z => V.ref z.1))) : PlAt H l (ns.zip rs) := by
  have lz : zs.length = ns.length := by
    have := congrArg List.length e
    rw [List.length_map, List.length_zip, List.length_map, List.length_map] at this
    omega
  have l1 : (ns.zip rs).length = zs.length := by rw [List.length_zip]; omega
  have m1 : ((zs.map (·.1)).zip (ns.zip rs)).map (·.1) = zs.map (·.1) := List.map_fst_zip (by rw [List.length_map]; omega)
  have m2 : ((zs.map (·.1)).zip (ns.zip rs)).map (·.2) = ns.zip rs := List.map_snd_zip (by rw [List.length_map]; omega)
  refine ⟨(zs.map (·.1)).zip (ns.zip rs), .inl ?_, m2.symm, fun q hq => ?_⟩
  · rw [hl]
    have := congrArg (List.map V.ref) m1
    rw [List.map_map, List.map_map] at this
    exact congrArg (fun l => some (HO.tup l)) this.symm
  · obtain ⟨k, hk⟩ := List.mem_iff_getElem?.mp hq
    obtain ⟨k1, k2⟩ := List.getElem?_zip_eq_some.mp hk
    obtain ⟨k2, k3⟩ := List.getElem?_zip_eq_some.mp k2
    rw [List.getElem?_map] at k1
    cases ez : zs[k]? with
    | none => rw [ez] at k1; cases k1
    | some z =>
      rw [ez] at k1
      have z1 : z.1 = q.1 := Option.some.inj k1
      have e2 : (zs.map (·.2))[k]? = some z.2 := by rw [List.getElem?_map, ez]; rfl
      rw [e] at e2
      obtain ⟨b1, b2⟩ := List.getElem?_zip_eq_some.mp e2
      rw [List.getElem?_map, k2] at b1
      rw [List.getElem?_map, k3] at b2
      have b1 : V.str q.2.1 = z.2.1 := Option.some.inj b1
      have b2 : V.int q.2.2 = z.2.2 := Option.some.inj b2
      rw [← z1, a z (List.mem_of_getElem? ez), b1, b2]
section
variable {P : Program} {w : World} {K : PySem.W.Frag} {mg : Str → Option Value} {base : Heap}
end
end Fw
set_option maxHeartbeats 4000000
namespace Fw
open PySem PySem.Spec PyProof.Rows L2
/-! set(l) of a list of numbers, in the order that the set keeps -/
abbrev bareSet (w : World) : Obj := { cls := .type "set", dict := none, data := .set #[] 0 (.fresh 0 0 (!w.params.followText "set-order")) }
section
variable {P : Program} {w : World} {A : Around} {E : Value → Shared → Prop} {s : Shared}
/-- a set is made; what is put in is another thing's business -/
theorem set_made {v : Value} {Q : Value → Shared → Prop} (fill : codeAny (model P w) A.in1 (.call (.builtin "set.__init__") ⟨[.ref s.heap.objs.size, v], []⟩) (wants (fun r z => r = .none ∧ Q (.ref s.heap.objs.size) z) E) { s with heap := s.heap.push (bareSet w) }) :
    wpAny (model P w) A (call (.type "set") [v]) Q E s := by
  obtain ⟨_, _, line⟩ := F.called_set.mro
  have f1 := F.called_set.made
  have f2 := F.called_set.sub
  have f3 := F.called_set.notType
  have f4 := F.called_set.canCreate
  have f5 := F.typeCall_set_1 v
  refine wpAny_call (codeAny_of_tree ?_)
  show wpAny _ _ (callAny (.type "set") _) _ _ _
  refine wpAny_pure ⟨Code.quiet_builtin _ (by decide +kernel), codeAny_builtin F.entry_type_call ?_⟩
  rw [Around.under_plain (weight_type_call_type "set" [v] []) rfl]
  repeat (any_goals (first | assumption | wp_step))
  refine codeAny_mono (code_set_led1 v (E := E) (Q₁ := fun o z => o = .ref s.heap.objs.size ∧ z = { s with heap := s.heap.push (bareSet w) }) ⟨rfl, rfl⟩) fun r z hr => ?_
  match r, hr with
  | .error e, no => exact no
  | .ok (.ret o), ⟨e1, e2⟩ =>
    subst e1
    subst e2
    have at0 : (s.heap.push (bareSet w)).get? s.heap.objs.size = some (bareSet w) := Heap.get?_push_size _ rfl
    have ty : Shared.TypeIs { s with heap := s.heap.push (bareSet w) } (.ref s.heap.objs.size) "set" := ⟨_, at0, rfl⟩
    have g1 := F.called_set.init.lookup
    have g2 := F.called_set.init.bind (.ref s.heap.objs.size)
    repeat (any_goals (first | assumption | wp_step))
    refine codeAny_mono fill fun r2 z2 got => ?_
    match r2, got with
    | .error e, no => exact no
    | .ok (.ret u), ⟨e3, q⟩ =>
      subst e3
      repeat (any_goals (first | assumption | wp_step))
/-- the numbers of a list are put in -/
theorem fill_list {l : Addr} {items : Array Value} {ns : List Int} {Q : Value → Shared → Prop} (calm : A.handled = none) (hl : s.heap.IsList l items) (hi : IntsAre items.toList ns) (hb : ns.length + 1 < scanBound)
    (h : ∀ h' tk c, SetR w h' s.heap.objs.size (fun j => decide (j ∈ ns)) c → c ≤ ns.length → (∀ b o, s.heap.get? b = some o → h'.get? b = some o) → Q (.ref s.heap.objs.size) { s with heap := h', toks := tk }) :
    codeAny (model P w) A.in1 (.call (.builtin "set.__init__") ⟨[.ref s.heap.objs.size, .ref l], []⟩) (wants (fun r z => r = .none ∧ Q (.ref s.heap.objs.size) z) E) { s with heap := s.heap.push (bareSet w) } := by
  have sz : items.size = ns.length := by
    have := IntsAre.length hi
    rw [Array.length_toList] at this
    exact this
  obtain ⟨⟨cls, dd, data, sl⟩, gl, e1, nl, e2⟩ := hl
  simp only at e1 e2
  subst e1
  subst e2
  have lt : l < s.heap.objs.size := Heap.lt_size gl
  have s0 : (s.heap.push (bareSet w)).get? s.heap.objs.size = some (bareSet w) := Heap.get?_push_size _ rfl
  have ty : Shared.TypeIs { s with heap := s.heap.push (bareSet w) } (.ref s.heap.objs.size) "set" := ⟨_, s0, rfl⟩
  have gl1 : (s.heap.push (bareSet w)).get? l = some { cls := .type "list", dict := dd, data := .seq items nl, slots := sl } := Heap.get?_push_of_some _ gl
  have il1 : (s.heap.push (bareSet w)).IsList l items := ⟨_, gl1, rfl, nl, rfl⟩
  have sz1 : (s.heap.push (bareSet w)).objs.size = s.heap.objs.size + 1 := Heap.size_push ..
  refine codeAny_call_builtin F.called_set.init.plain F.entry_set_init (check_set_init_1 ty ?_)
  have n1 := F.sub_list_set
  have n2 := F.sub_list_frozenset
  have n3 : (Value.type "list" == Value.type "dict") = false := by decide
  unfold Builtin.«set.__init__» noKeywords Builtin.Frozenset.updateFrom
  generalize hPI : pyIter = PI
  wp_walk
  subst hPI
  refine wpAny_pyIter_list il1 (wpAny_bind (wpAny_runValue ?_))
  have c3 : A.in1.in1.in1.handled = none := by simp [calm]
  have apart : l ≠ (s.heap.push (bareSet w)).objs.size := by
    rw [sz1]
    exact Nat.ne_of_lt (Nat.lt_succ_of_lt lt)
  have off : s.heap.objs.size ∉ [(s.heap.push (bareSet w)).objs.size, l] := by
    rw [sz1]
    simp only [List.mem_cons, List.not_mem_nil, or_false, not_or]
    exact ⟨Nat.ne_of_lt (Nat.lt_succ_self _), Nat.ne_of_gt lt⟩
  have each : ∀ (i : Nat) (v : Value), items[i]? = some v → ∃ k t, ns[i]? = some k ∧ v = .int k t := fun i v hv => by
    have il : i < ns.length := by rw [← sz]; exact (Array.getElem?_eq_some_iff.mp hv).1
    obtain ⟨t, e⟩ := IntsAre.int_at hi i v (by rw [Array.getElem?_toList]; exact hv)
    refine ⟨ns[i], t, List.getElem?_eq_getElem il, ?_⟩
    rw [e, List.getD_eq_getElem?_getD, List.getElem?_eq_getElem il] <;> rfl
  refine set_update_ints ((Walks.list c3 _ l apart items).toS) s.heap.objs.size off ns sz hb each (items.size - 0) 0 _ (by omega) (Nat.zero_le _) ⟨⟨_, Heap.get?_push_size _ rfl, rfl, rfl⟩, il1.push _⟩ ⟨0, Nat.le_refl 0, setR_new_at (Heap.get?_push_of_some _ s0)⟩ ?_
  intro z c mv lc R
  obtain ⟨zh, zg, zd, zt, zo⟩ := z
  cases (show zg = s.gens from mv.gens)
  cases (show zd = s.drawn from mv.drawn)
  cases (show zo = s.os from mv.os)
  show wpAny _ _ _ _ _ _
  refine wpAny_pure ?_
  show wpAny _ _ (ret Value.none) _ _ _
  rw [sz] at lc
  refine wpAny_pure ⟨rfl, h zh zt c R lc fun b o e => mv.heap b o ?_ (Heap.get?_push_of_some _ (Heap.get?_push_of_some _ e))⟩
  have lb := Heap.lt_size e
  simp only [List.mem_cons, List.not_mem_nil, or_false, not_or]
  exact ⟨Nat.ne_of_lt lb, by rw [sz1]; exact Nat.ne_of_lt (Nat.lt_succ_of_lt lb)⟩
end
theorem call_setL {X : Cx} (K : PySem.W.Frag) (w : World) (hK : X.K = K) (hw : X.w = w) (hc : X.calm = true) : CallR X (.type "set") (fun xs H Q => ∃ (l : Addr) (ns : List Int), xs = [.ref l] ∧ SqL K H l (vi ns) ∧ ns.length ≤ 100 ∧ ∀ p c, H p = none → c ≤ ns.length → Q (.ref p) (upd H p (SetO w p (fun j => decide (j ∈ ns)) c))) := by
  subst hK
  subst hw
  intro pins s σ H xs us Q I r q
  obtain ⟨l, ns, rfl, hq, hl, q⟩ := q
  obtain ⟨u, rfl, ru⟩ := vals1 r
  obtain rfl : u = Value.ref l := ru
  obtain ⟨its, rv, pl, hz⟩ := I.list hq
  refine set_made (fill_list (ns := ns) (I.ok.hd hc) pl.isList (by simpa using ints_of_vals rv) (by unfold scanBound; omega) fun h' tk c R lc k => ?_)
  exact ⟨.ref s.heap.objs.size, _, I.laid (t' := tk) (o := SetO X.w s.heap.objs.size (fun j => decide (j ∈ ns)) c) k (Nat.le_refl _) (setO_new R), rfl, q _ c (I.hok.fresh (Nat.le_refl _)) lc⟩
theorem cr_sortedSetW {X : Cx} (w : World) (hw : X.w = w) (hc : X.calm = true) : CallR X (.builtin "sorted") (rSortedSet w) := by
  subst hw
  exact cr_sortedSet hc
end Fw
set_option maxHeartbeats 2000000
namespace Fw
open PySem PySem.Spec PyProof.Rows L2
/-- l != [], whatever lies in l -/
def rNeL0 (K : PySem.W.Frag) : R2 := fun x y H Q => ∃ (a b : Addr) (xs : List V), x = .ref a ∧ y = .ref b ∧ SqL K H a xs ∧ SqL K H b [] ∧ Q (.bl (!xs.isEmpty)) H
theorem op_neL0 {X : Cx} (hu : X.A.units < cLine) : OpR X (compareOp .NotEq) (rNeL0 X.K) := by
  rintro pn z σ H _ _ v u Q J rx ry ⟨a, b, xs, rfl, rfl, ha, hb, q⟩
  cases (show v = Value.ref a from rx)
  cases (show u = Value.ref b from ry)
  obtain ⟨ia, ra, pa, _⟩ := J.list ha
  obtain ⟨_, rb, pb, _⟩ := J.list hb
  cases rb
  match xs, ra with
  | [], .nil => exact SeqAt.RcNeAt.lists (e := fun _ => true) pa.isList pb.isList rfl hu (fun j h1 _ => absurd h1 (by simp)) X.prog X.w _ _ ⟨.bl false, H, J, rfl, q⟩
  | _ :: _, .cons _ _ => exact SeqAt.RcNeAt.lists_lengths pa.isList pb.isList (by simp) hu X.prog X.w _ _ ⟨.bl true, H, J, rfl, q⟩
/-! ### placements compared -/
theorem eqvAll_pp : ∀ (R G : List (Str × Int)), PyData.eqvAll (R.map pp) (G.map pp) = decide (R = G)
  | [], [] => rfl
  | [], _ :: _ => by rw [List.map_nil, List.map_cons, PyData.eqvAll]; rfl
  | _ :: _, [] => by rw [List.map_nil, List.map_cons, PyData.eqvAll]; rfl
  | x :: R, y :: G => by
    rw [List.map_cons, List.map_cons, PyData.eqvAll, eqvAll_pp R G]
    obtain ⟨x1, x2⟩ := x
    obtain ⟨y1, y2⟩ := y
    simp only [pp, PyData.eqv, PyData.eqvAll, Bool.and_true]
    rw [Bool.eq_iff_iff]
    simp
theorem eqv_pld (R G : List (Str × Int)) : PyData.eqv (pld R) (pld G) = decide (R = G) := by
  unfold pld
  rw [PyData.eqv]
  exact eqvAll_pp R G
end Fw
set_option maxHeartbeats 2000000
namespace Fw
open PySem PySem.Spec PyProof.Rows L2
/-! pieces and which of them are solvable (math) -/
/-- everybody in these rooms is in their target room -/
def Stl (P G : List (Str × Int)) (C : List Int) : Prop := ∀ nm c t, (nm, c) ∈ P → c ∈ C → (nm, t) ∈ G → t = c
/-- the person of r goes next to a -/
def Ahd (D : List (Int × Int)) (P G : List (Str × Int)) (r a : Int) : Prop := ∃ nm t q, (nm, r) ∈ P ∧ (nm, t) ∈ G ∧ SP (adj D) r t (r :: a :: q)
/-- the rooms without one of them -/
def cut (C : List Int) (r : Int) : List Int := C.filter fun x => !decide (x = r)
theorem mem_cut {C : List Int} {r x : Int} : x ∈ cut C r ↔ x ∈ C ∧ x ≠ r := by
  unfold cut
  rw [List.mem_filter, Bool.not_eq_true', decide_eq_false_iff_not]
theorem cut_up {C : List Int} {r : Int} (h : C.Pairwise (· < ·)) : (cut C r).Pairwise (· < ·) := h.filter _
theorem cut_len {C : List Int} {r : Int} (h : r ∈ C) : (cut C r).length < C.length := by
  unfold cut
  have : (C.filter fun x => !decide (x = r)).length + (C.filter fun x => decide (x = r)).length = C.length := by
    clear h
    induction C with
    | nil => rfl
    | cons x C ih =>
      by_cases e : x = r
      · rw [List.filter_cons_of_neg (by simpa using e), List.filter_cons_of_pos (by simpa using e), List.length_cons, List.length_cons]
        omega
      · rw [List.filter_cons_of_pos (by simpa using e), List.filter_cons_of_neg (by simpa using e), List.length_cons, List.length_cons]
        omega
  have p : 0 < (C.filter fun x => decide (x = r)).length := List.length_pos_of_mem (List.mem_filter.mpr ⟨h, decide_eq_true rfl⟩)
  omega
theorem cut_lenle (C : List Int) (r : Int) : (cut C r).length ≤ C.length := List.length_filter_le _ _
theorem up_len {L C : List Int} (h : L.Pairwise (· < ·)) (s : ∀ x ∈ L, x ∈ C) : L.length ≤ C.length := by
  have nd : L.Nodup := List.nodup_iff_pairwise_ne.mpr (h.imp fun {a b} z => by omega)
  clear h
  induction L generalizing C with
  | nil => exact Nat.zero_le _
  | cons x L ih =>
    have nd := List.nodup_cons.mp nd
    have i := ih (C := C.erase x) (fun y hy => (List.mem_erase_of_ne (show y ≠ x from fun e => nd.1 (e ▸ hy))).mpr (s y (List.mem_cons_of_mem _ hy))) nd.2
    have e := List.length_erase_of_mem (s x (List.mem_cons_self ..))
    have p := List.length_pos_of_mem (s x (List.mem_cons_self ..))
    rw [List.length_cons]
    omega
/-- solvable, by the definition -/
inductive Sol (D : List (Int × Int)) (P G : List (Str × Int)) : List Int → Prop
  | still {C : List Int} : Stl P G C → Sol D P G C
  | leave {C : List Int} {r : Int} : r ∈ fre D P G C → (∀ s ∈ cut C r, ∀ L, IsC D (cut C r) s L → (∀ a, Ahd D P G r a → a ∉ L) → Sol D P G L) → Sol D P G C
/-- a connected set of rooms, one person in each, nobody of them outside -/
structure Pce (D : List (Int × Int)) (P G : List (Str × Int)) (C : List Int) : Prop where
  up : C.Pairwise (· < ·)
  who : ∀ r ∈ C, ∃ nm, (nm, r) ∈ P ∧ ∀ nm', (nm', r) ∈ P → nm' = nm
  con : ∀ a ∈ C, ∀ b ∈ C, Wk D C a b
  tgt : ∀ nm c t, (nm, c) ∈ P → c ∈ C → (nm, t) ∈ G → t ∈ C
theorem SP.hd {R : Int → Int → Prop} {a b : Int} {p : List Int} (h : SP R a b p) : ∃ q, p = a :: q := by
  cases h with
  | one => exact ⟨[], rfl⟩
  | cons r q n => exact ⟨_, rfl⟩
/-- a way that is more than one room -/
theorem SP.two {R : Int → Int → Prop} {a b : Int} {p : List Int} (h : SP R a b p) (n : b ≠ a) : ∃ c q, p = a :: c :: q ∧ R a c := by
  cases h with
  | one => exact absurd rfl n
  | cons r q _ =>
    obtain ⟨q', rfl⟩ := q.hd
    exact ⟨_, q', rfl, r⟩
section
variable {n : Int} {D : List (Int × Int)} {P G : List (Str × Int)} {C L : List Int} {r s : Int}
open Classical in
theorem fre_mem (h : r ∈ fre D P G C) : r ∈ C ∧ ∀ nm c t, (nm, c) ∈ P → c ∈ C → (nm, t) ∈ G → r ≠ t ∧ ¬ pas D c t r := by
  unfold fre at h
  obtain ⟨h1, h2⟩ := List.mem_filter.mp h
  exact ⟨h1, of_decide_eq_true h2⟩
open Classical in
theorem mem_fre (h : r ∈ C) (f : ∀ nm c t, (nm, c) ∈ P → c ∈ C → (nm, t) ∈ G → r ≠ t ∧ ¬ pas D c t r) : r ∈ fre D P G C := by
  unfold fre
  exact List.mem_filter.mpr ⟨h, decide_eq_true f⟩
theorem IsC.sub' (hs : s ∈ C) (h : IsC D C s L) {v : Int} (m : v ∈ L) : v ∈ C := by
  rcases ((h.mem v).mp m).mem with e | e
  · rw [e]; exact hs
  · exact e
theorem IsC.closed (h : IsC D C s L) {a b : Int} (ma : a ∈ L) (w : Wk D C a b) : Wk D L a b ∧ b ∈ L := by
  induction w with
  | base => exact ⟨.base, ma⟩
  | @step v o k ad mo ih =>
    have mo' : o ∈ L := (h.mem o).mpr (.step ((h.mem v).mp ih.2) ad mo)
    exact ⟨.step ih.1 ad mo', mo'⟩
/-- what is left of a piece without a free room are pieces -/
theorem Pce.cut (pc : Pce D P G C) (fr : r ∈ fre D P G C) (hs : s ∈ cut C r) (ic : IsC D (cut C r) s L) : Pce D P G L := by
  obtain ⟨rC, fr⟩ := fre_mem fr
  have sub : ∀ v ∈ L, v ∈ C := fun v m => (mem_cut.mp (ic.sub' hs m)).1
  have both : ∀ a ∈ L, ∀ b ∈ L, Wk D (Fw.cut C r) a b := fun a ha b hb => (((ic.mem a).mp ha).symm hs).trans ((ic.mem b).mp hb)
  refine ⟨ic.up, fun v m => pc.who v (sub v m), fun a ha b hb => (ic.closed ha (both a ha b hb)).1, fun nm c t h1 h2 h3 => ?_⟩
  have cC := sub c h2
  have tC := pc.tgt nm c t h1 cC h3
  obtain ⟨p, hp, ins⟩ := (pc.con c cC t tC).within
  obtain ⟨z1, z2⟩ := fr nm c t h1 cC h3
  have cr := (mem_cut.mp (ic.sub' hs h2)).2
  have off : ∀ x ∈ p, x ∈ Fw.cut C r := fun x hx => mem_cut.mpr ⟨(ins x hx).elim (fun e => e ▸ cC) id, fun e => z2 ⟨p, hp, e ▸ hx, fun e => cr e.symm, z1⟩⟩
  exact (ic.closed h2 (hp.walks fun x hx => off x (List.mem_of_mem_tail hx))).2
/-- where the person of a free room goes -/
theorem Pce.ahead (pc : Pce D P G C) (sub : ∀ x ∈ P.map (·.1), x ∈ G.map (·.1)) (fr : r ∈ fre D P G C) : ∃ nm t a q, (nm, r) ∈ P ∧ (nm, t) ∈ G ∧ SP (adj D) r t (r :: a :: q) ∧ a ∈ C := by
  obtain ⟨rC, fr⟩ := fre_mem fr
  obtain ⟨nm, m, _⟩ := pc.who r rC
  obtain ⟨y, hy, e⟩ := List.mem_map.mp (sub nm (List.mem_map_of_mem (f := (·.1)) m))
  have mt : (nm, y.2) ∈ G := by rw [← e]; exact hy
  obtain ⟨z1, _⟩ := fr nm r y.2 m rC mt
  obtain ⟨p, hp, ins⟩ := (pc.con r rC _ (pc.tgt nm r y.2 m rC mt)).within
  obtain ⟨a, q, rfl, _⟩ := hp.two fun e => z1 e.symm
  refine ⟨nm, y.2, a, q, m, mt, hp, (ins a (by simp)).elim (fun e => e ▸ rC) id⟩
theorem Pce.ahd_one (pc : Pce D P G C) (hF : Forest n D) (nd : (G.map (·.1)).Nodup) (rC : r ∈ C) {a b : Int} (h : Ahd D P G r a) (k : Ahd D P G r b) : a = b := by
  obtain ⟨nm, m, u⟩ := pc.who r rC
  obtain ⟨x, t, q, x1, x2, x3⟩ := h
  obtain ⟨y, t', q', y1, y2, y3⟩ := k
  obtain rfl := u _ x1
  obtain rfl := u _ y1
  obtain rfl : t = t' := congrArg Prod.snd (key_uniq nd x2 y2 rfl)
  have := hF.uniq _ _ _ _ x3 y3
  injection this with _ this
  injection this
end
end Fw
set_option maxHeartbeats 4000000
namespace Fw
open PySem PySem.Spec PyProof.Rows L2
/-! which pieces are solvable: the program's own defs -/
open Classical in
noncomputable def stlB (P G : List (Str × Int)) (C : List Int) : Bool := decide (Stl P G C)
open Classical in
noncomputable def solB (D : List (Int × Int)) (P G : List (Str × Int)) (C : List Int) : Bool := decide (Sol D P G C)
/-- what is left of C without r is solvable -/
def Lve (D : List (Int × Int)) (P G : List (Str × Int)) (C : List Int) (r : Int) : Prop := ∀ s ∈ cut C r, ∀ L, IsC D (cut C r) s L → (∀ a, Ahd D P G r a → a ∉ L) → Sol D P G L
open Classical in
noncomputable def lveB (D : List (Int × Int)) (P G : List (Str × Int)) (C : List Int) (r : Int) : Bool := decide (Lve D P G C r)
open Classical in
theorem stlB_iff {P G : List (Str × Int)} {C : List Int} : stlB P G C = true ↔ Stl P G C := by unfold stlB; rw [decide_eq_true_eq]
open Classical in
theorem solB_iff {D : List (Int × Int)} {P G : List (Str × Int)} {C : List Int} : solB D P G C = true ↔ Sol D P G C := by unfold solB; rw [decide_eq_true_eq]
open Classical in
theorem lveB_iff {D : List (Int × Int)} {P G : List (Str × Int)} {C : List Int} {r : Int} : lveB D P G C r = true ↔ Lve D P G C r := by unfold lveB; rw [decide_eq_true_eq]
theorem sol_iff {D : List (Int × Int)} {P G : List (Str × Int)} {C : List Int} : Sol D P G C ↔ Stl P G C ∨ ∃ r ∈ fre D P G C, Lve D P G C r := by
  constructor
  · intro h
    cases h with
    | still h => exact .inl h
    | leave h k => exact .inr ⟨_, h, k⟩
  · rintro (h | ⟨r, h, k⟩)
    · exact .still h
    · exact .leave h k
theorem Pce.len {n : Int} {D : List (Int × Int)} {P G : List (Str × Int)} {C : List Int} (pc : Pce D P G C) (pl : Pl n P) (n1 : n ≤ 8) : C.length ≤ 8 := by
  have := up_len pc.up (C := rg n) fun x hx => by
    obtain ⟨nm, m, _⟩ := pc.who x hx
    exact mem_rg.mpr (pl.rm _ m)
  rw [rg_len] at this
  omega
theorem inside_all {P : List (Str × Int)} {nm : Str} {r : Int} (m : (nm, r) ∈ P) (u : ∀ nm', (nm', r) ∈ P → nm' = nm) : ∃ q, inside P [r] = nm :: q := by
  have h : nm ∈ inside P [r] := mem_inside' m (List.mem_singleton.mpr rfl)
  match e : inside P [r], h with
  | x :: q, _ =>
    have : x ∈ inside P [r] := by rw [e]; exact List.mem_cons_self ..
    obtain ⟨c, h1, h2⟩ := inside_get this
    rw [List.mem_singleton.mp h2] at h1
    exact ⟨q, by rw [u x h1]⟩
section
variable {P : Program} {w : World} {K : PySem.W.Frag} {mg : Str → Option Value} {base : Heap}
def spAllAt (K : PySem.W.Frag) : Sp := fun vs H Q _ => ∃ (p g rl : Addr) (n : Int) (P G : List (Str × Int)) (C : List Int), vs = [.ref p, .ref g, .ref rl] ∧ PlAt H p P ∧ Pl n P ∧ P.length ≤ 100 ∧ PlAt H g G ∧ Pl n G ∧ (∀ x ∈ P.map (·.1), x ∈ G.map (·.1)) ∧ SqT K H rl (vi C) ∧ ∀ H', Same H H' → Q (.bl (stlB P G C)) H'
abbrev nAllAt : List Str := ["placement", "target", "rooms", "name"]
theorem scAllAt : FnScope nAllAt ["placement", "target", "rooms"] (defScope sAllAt) := ⟨rfl, rfl, rfl, by decide +kernel, rfl, by decide +kernel, by decide +kernel⟩
abbrev pAllAt : List Str := ["placement", "target", "rooms"]
theorem ok_allat {f : Addr} {fd : FuncData} {k : Nat} (F : Fun K "all_at_target" "all_at_target" sAllAt f fd) (T : Nm mg) (Cpeople_within : Cal P w K mg base (k + 1) "people_within" pPWi (spPWi K)) (Croom_of : Cal P w K mg base (k + 1) "room_of" pRoomOf spRoomOf) : FnOk P w K mg base CX0 (k + 2) f fd pAllAt (spAllAt K) := by
  refine F.ok scAllAt (fun vs H Q E h => ?_) (fun cdv A outer s H vs Q E hr h => ?_)
  · obtain ⟨p, g, rl, n, P, G, C, rfl, _⟩ := h
    rfl
  · obtain ⟨p, g, rl, n, P, G, C, rfl, hP, pl, lP, hG, plG, sub, hC, q⟩ := h
    refine ⟨_, (pss_one (ps_ret (pe_callB (cr_all rfl) (by rfl) T.all (by decide +kernel) (pa_cons (pe_lc (own := [("name", 3)]) (g := gName 3) (by rfl) scAllAt.nd (pi_tupK K rfl (pe_cal Cpeople_within hr (by rfl) (pa_cons (pv 0) (pa_cons (pv 2) pa_nil))))
 (blkOk_by (own := [("name", 3)]) (N := nAllAt) (sc := defScope sAllAt) (by decide +kernel))
 (fun _ _ _ _ _ => (pg_name (i := 3) scAllAt.nd rfl (.inl rfl))) (fun _ _ _ _ _ => pts_nil) (fun _ _ _ _ _ => (pe_cmpR op_eq (pe_cal Croom_of hr (by rfl) (pa_cons (pv 1) (pa_cons (pv 3) pa_nil))) (pe_cal Croom_of hr (by rfl) (pa_cons (pv 0) (pa_cons (pv 3) pa_nil))) (nomark _)))) pa_nil)))), ?_⟩
    refine ⟨_, rfl, _, rfl, p, rl, P, C, rfl, hP, hC, lP, fun H1 u s1 e1 => ?_⟩
    refine ⟨u, rfl, ⟨_, SqT.of e1⟩, fun L hL => lc_tup (K := K) (a := u) (xs := (inside P C).map V.str) (fun i H' => Same H1 H' ∧ ∃ bs : List Bool, H' L = some (.lst (bs.map V.bl)) ∧ bs.length = i ∧ (bs.all id = true ↔ ∀ nm ∈ (inside P C).take i, ∀ c t, (nm, c) ∈ P → (nm, t) ∈ G → t = c))
      ⟨same_upd hL, [], upd_same, rfl, ⟨fun _ nm h => (by cases h), fun _ => rfl⟩⟩ (fun i H' _ hh => SqT.of (hh.1 _ _ e1)) ?_ ?_⟩
    · rintro i x H2 hx ⟨s2, bs, eb, lb, hb⟩
      obtain ⟨nm, hn, rfl⟩ : ∃ nm, (inside P C)[i]? = some nm ∧ x = .str nm := by
        rw [List.getElem?_map] at hx
        cases e : (inside P C)[i]? with
        | none => rw [e] at hx; cases hx
        | some v => rw [e] at hx; exact ⟨v, rfl, (Option.some.inj hx).symm⟩
      obtain ⟨c, mc, _⟩ := inside_get (List.mem_of_getElem? hn)
      obtain ⟨t, mt⟩ := key_val (sub nm (List.mem_map_of_mem (f := (·.1)) mc))
      have il := lt_of_get hn
      have i2 := inside_len P C
      have s02 := s1.trans s2
      refine ⟨rfl, ?_⟩
      unfold tYes
      refine iteT ⟨_, rfl, _, rfl, g, G, nm, t, rfl, hG.same s02, mt, plG.nodup, _, rfl, _, rfl, p, P, nm, c, rfl, hP.same s02, mc, pl.nodup, rfl, _, eb, ?_, same_put s2 hL, bs ++ [decide (t = c)], ?_, ?_, ?_⟩
      · rw [List.length_map]
        exact small1000 (by omega)
      · rw [upd_same, List.map_append]
        show some (HO.lst (_ ++ [V.bl (decide (V.int t = V.int c))])) = _
        rw [int_dec]
        rfl
      · rw [List.length_append, lb]
        rfl
      · rw [List.all_append, Bool.and_eq_true, hb, take_snoc hn]
        constructor
        · rintro ⟨a1, a2⟩ nm' h' c' t' h1 h2
          rcases List.mem_append.mp h' with h' | h'
          · exact a1 nm' h' c' t' h1 h2
          · rw [List.mem_singleton.mp h'] at h1 h2
            have e1 : t' = t := congrArg Prod.snd (key_uniq plG.nodup h2 mt rfl)
            have e2 : c' = c := congrArg Prod.snd (key_uniq pl.nodup h1 mc rfl)
            rw [e1, e2]
            simpa using a2
        · intro a
          refine ⟨fun nm' h' => a nm' (List.mem_append_left _ h'), ?_⟩
          have := a nm (List.mem_append_right _ (List.mem_singleton.mpr rfl)) c t mc mt
          simpa using this
    · rintro H2 ⟨s2, bs, eb, lb, hb⟩
      rw [List.length_map, List.take_length] at hb
      refine ⟨L, bs, rfl, SqL.of eb, ?_⟩
      have : bs.all id = stlB P G C := by
        rw [Bool.eq_iff_iff, hb, stlB_iff]
        constructor
        · intro a nm c t h1 h2 h3
          exact a nm (mem_inside' h1 h2) c t h1 h3
        · intro a nm h c t h1 h3
          obtain ⟨c', h4, h5⟩ := inside_get h
          have e2 : c' = c := congrArg Prod.snd (key_uniq pl.nodup h4 h1 rfl)
          exact a nm c t h1 (e2 ▸ h5) h3
      rw [this]
      exact q _ (s1.trans s2)
/-- the next room of somebody who has a way to go -/
def spNextP : Sp := fun vs H Q _ => ∃ (h p g : Addr) (n : Int) (D : List (Int × Int)) (P G : List (Str × Int)) (nm : Str) (r t a : Int) (q : List Int), vs = [.ref h, .ref p, .ref g, .str nm] ∧ HouseAt H h n D ∧ Forest n D ∧ n ≤ 8 ∧ PlAt H p P ∧ Pl n P ∧ PlAt H g G ∧ Pl n G ∧ (nm, r) ∈ P ∧ (nm, t) ∈ G ∧ SP (adj D) r t (r :: a :: q) ∧ ∀ H', Same H H' → Q (.int a) H'
abbrev nNextT : List Str := ["house", "placement", "target", "name", "path"]
theorem scNextT : FnScope nNextT ["house", "placement", "target", "name"] (defScope sNextT) := ⟨rfl, rfl, rfl, by decide +kernel, rfl, by decide +kernel, by decide +kernel⟩
theorem ok_nextP {f : Addr} {fd : FuncData} {k : Nat} (F : Fun K "next_toward_target" "next_toward_target" sNextT f fd) (T : Nm mg) (Cpath_to_target : Cal P w K mg base (k + 4) "path_to_target" pPTgt spPTgt) : FnOk P w K mg base CX0 (k + 5) f fd pPTgt spNextP := by
  refine F.ok scNextT (fun vs H Q E h => ?_) (fun cdv A outer s H vs Q E hr h => ?_)
  · obtain ⟨h, p, g, n, D, P, G, nm, r, t, a, q, rfl, _⟩ := h
    rfl
  · obtain ⟨h, p, g, n, D, P, G, nm, r, t, a, w, rfl, hH, hF, n1, hP, pl, hG, plG, mr, mt, sp, q⟩ := h
    refine ⟨_, (pss_cons (ps_set (i := 4) scNextT.nd rfl (.inl rfl) (pe_cal Cpath_to_target hr (by rfl) (pa_cons (pv 0) (pa_cons (pv 1) (pa_cons (pv 2) (pa_cons (pv 3) pa_nil))))))
      (pss_cons (ps_if (PW.pt (pw_or (pt_cmp (pc_isN (pv 4))) (pw_or1 (pt_cmpR op_eq (pe_callB (call_lenK K rfl) (by rfl) T.len (by decide +kernel) (pa_cons (pv 4) pa_nil)) pe_int (nomark _)))))
      (pss_one (ps_ret pe_non))
      pss_nil)
      (pss_one (ps_ret (pe_ix (ix_tupK K rfl) (pv 4) pe_int (fun _ _ => rfl)))))), ?_⟩
    refine ⟨_, rfl, _, rfl, _, rfl, _, rfl, h, p, g, n, D, P, G, nm, r, t, rfl, hH, hF, n1, hP, pl, hG, plG, mr, mt, fun H1 s1 no => absurd sp (no _), fun H1 u w' s1 sp' lw e1 => ?_⟩
    obtain rfl := hF.uniq _ _ _ _ sp' sp
    refine ⟨_, rfl, _, rfl, iteF ⟨_, rfl, u, _, rfl, .inr (SqT.of e1), rfl, _, rfl, ?_⟩⟩
    exact iteF ⟨_, rfl, u, _, _, _, rfl, rfl, SqT.of e1, atI1, q _ s1⟩
def spAhead : Sp := fun vs H Q _ => ∃ (h p g : Addr) (n : Int) (D : List (Int × Int)) (P G : List (Str × Int)) (nm : Str) (r t a : Int) (q : List Int), vs = [.ref h, .ref p, .ref g, .int r] ∧ HouseAt H h n D ∧ Forest n D ∧ n ≤ 8 ∧ PlAt H p P ∧ Pl n P ∧ P.length ≤ 100 ∧ PlAt H g G ∧ Pl n G ∧ (nm, r) ∈ P ∧ (∀ nm', (nm', r) ∈ P → nm' = nm) ∧ (nm, t) ∈ G ∧ SP (adj D) r t (r :: a :: q) ∧ ∀ H', Same H H' → Q (.int a) H'
abbrev nAhead : List Str := ["house", "placement", "target", "room"]
theorem scAhead : FnScope nAhead ["house", "placement", "target", "room"] (defScope sAhead) := ⟨rfl, rfl, rfl, by decide +kernel, rfl, by decide +kernel, by decide +kernel⟩
abbrev pAhead : List Str := ["house", "placement", "target", "room"]
theorem ok_ahead {f : Addr} {fd : FuncData} {k : Nat} (F : Fun K "room_ahead" "room_ahead" sAhead f fd) (Cnext_toward_target : Cal P w K mg base (k + 5) "next_toward_target" pPTgt spNextP) (Cpeople_in : Cal P w K mg base (k + 5) "people_in" pPIn spPIn) : FnOk P w K mg base CX0 (k + 6) f fd pAhead spAhead := by
  refine F.ok scAhead (fun vs H Q E h => ?_) (fun cdv A outer s H vs Q E hr h => ?_)
  · obtain ⟨h, p, g, n, D, P, G, nm, r, t, a, q, rfl, _⟩ := h
    rfl
  · obtain ⟨h, p, g, n, D, P, G, nm, r, t, a, w, rfl, hH, hF, n1, hP, pl, lP, hG, plG, mr, un, mt, sp, q⟩ := h
    refine ⟨_, (pss_one (ps_ret (pe_cal Cnext_toward_target hr (by rfl) (pa_cons (pv 0) (pa_cons (pv 1) (pa_cons (pv 2) (pa_cons (pe_ix (ix_tupK K rfl) (pe_cal Cpeople_in hr (by rfl) (pa_cons (pv 1) (pa_cons (pv 3) pa_nil))) pe_int (fun _ _ => rfl)) pa_nil))))))), ?_⟩
    refine ⟨_, rfl, _, rfl, _, rfl, _, rfl, _, rfl, p, P, r, rfl, hP, lP, fun H1 u s1 e1 => ?_⟩
    obtain ⟨w', ew⟩ := inside_all mr un
    rw [ew] at e1
    exact ⟨u, _, _, _, rfl, rfl, SqT.of e1, atI0, h, p, g, n, D, P, G, nm, r, t, a, w, rfl, hH.same s1, hF, n1, hP.same s1, pl, hG.same s1, plG, mr, mt, sp, fun H2 s2 => q _ (s1.trans s2)⟩
end
end Fw
set_option maxHeartbeats 4000000
namespace Fw
open PySem PySem.Spec PyProof.Rows L2
/-! which pieces are solvable: the law's own defs -/
/-- l == [], whatever lies in l -/
def rEqL0 (K : PySem.W.Frag) : R2 := fun x y H Q => ∃ (a b : Addr) (xs : List V), x = .ref a ∧ y = .ref b ∧ SqL K H a xs ∧ SqL K H b [] ∧ Q (.bl xs.isEmpty) H
theorem op_eqL0 {X : Cx} (hu : X.A.units < cLine) : OpR X (compareOp .Eq) (rEqL0 X.K) := by
  rintro pn z σ H _ _ v u Q J rx ry ⟨a, b, xs, rfl, rfl, ha, hb, q⟩
  cases (show v = Value.ref a from rx)
  cases (show u = Value.ref b from ry)
  obtain ⟨ia, ra, pa, _⟩ := J.list ha
  obtain ⟨_, rb, pb, _⟩ := J.list hb
  cases rb
  match xs, ra with
  | [], .nil => exact SeqAt.RcAt.lists (e := fun _ => true) pa.isList pb.isList rfl hu (fun j h1 _ => absurd h1 (by simp)) X.prog X.w _ _ ⟨.bl true, H, J, rfl, q⟩
  | _ :: _, .cons _ _ => exact SeqAt.RcAt.lists_lengths pa.isList pb.isList (by simp) hu X.prog X.w _ _ ⟨.bl false, H, J, rfl, q⟩
/-- who of C is not in their target room -/
def awy (P G : List (Str × Int)) (C : List Int) : List Str := (P.filter fun x => decide (x.2 ∈ C) && !decide ((x.1, x.2) ∈ G)).map (·.1)
theorem awy_snoc {P G : List (Str × Int)} {C : List Int} {k : Nat} {nm : Str} {c : Int} (h : P[k]? = some (nm, c)) : awy (P.take (k + 1)) G C = awy (P.take k) G C ++ if (decide (c ∈ C) && !decide ((nm, c) ∈ G)) = true then [nm] else [] := by
  unfold awy
  rw [take_snoc h, filter_snoc, List.map_append]
  congr 1
  dsimp only
  split <;> rfl
theorem awy_len (P G : List (Str × Int)) (C : List Int) : (awy P G C).length ≤ P.length := by
  unfold awy
  rw [List.length_map]
  exact List.length_filter_le _ _
theorem awy_stl {P G : List (Str × Int)} {C : List Int} (nd : (G.map (·.1)).Nodup) (sub : ∀ x ∈ P.map (·.1), x ∈ G.map (·.1)) : ((awy P G C).map V.str).isEmpty = stlB P G C := by
  rw [Bool.eq_iff_iff, stlB_iff, List.isEmpty_iff, List.map_eq_nil_iff]
  unfold awy
  rw [List.map_eq_nil_iff, List.filter_eq_nil_iff]
  constructor
  · intro a nm c t h1 h2 h3
    have := a (nm, c) h1
    rw [Bool.and_eq_true, decide_eq_true_eq, Bool.not_eq_true', decide_eq_false_iff_not, not_and, Classical.not_not] at this
    exact congrArg Prod.snd (key_uniq nd h3 (this h2) rfl)
  · intro a x hx z
    rw [Bool.and_eq_true, decide_eq_true_eq, Bool.not_eq_true', decide_eq_false_iff_not] at z
    obtain ⟨t, mt⟩ := key_val (sub x.1 (List.mem_map_of_mem (f := (·.1)) hx))
    have := a x.1 x.2 t hx z.1 mt
    subst this
    exact z.2 mt
section
variable {P : Program} {w : World} {K : PySem.W.Frag} {mg : Str → Option Value} {base : Heap}
def spLStill (K : PySem.W.Frag) : Sp := fun vs H Q _ => ∃ (p g rl : Addr) (P G : List (Str × Int)) (C : List Int), vs = [.ref p, .ref g, .ref rl] ∧ PlAt H p P ∧ P.length ≤ 100 ∧ PlD H g G ∧ (G.map (·.1)).Nodup ∧ G.length ≤ 100 ∧ (∀ x ∈ P.map (·.1), x ∈ G.map (·.1)) ∧ SqT K H rl (vi C) ∧ ∀ H', Same H H' → Q (.bl (stlB P G C)) H'
abbrev nLStill : List Str := ["_law_placement", "_law_target", "_law_piece", "_law_homes", "_law_name", "_law_room"]
theorem scLStill : FnScope nLStill ["_law_placement", "_law_target", "_law_piece"] (defScope sLStill) := ⟨rfl, rfl, rfl, by decide +kernel, rfl, by decide +kernel, by decide +kernel⟩
abbrev pLStill : List Str := ["_law_placement", "_law_target", "_law_piece"]
theorem ok_lstill {f : Addr} {fd : FuncData} {k : Nat} (F : Fun K "_law_still" "_law_still" sLStill f fd) (Tdict : mg "dict" = none) : FnOk P w K mg base CX0 (k + 1) f fd pLStill (spLStill K) := by
  refine F.ok scLStill (fun vs H Q E h => ?_) (fun cdv A outer s H vs Q E hr h => ?_)
  · obtain ⟨p, g, rl, P, G, C, rfl, _⟩ := h
    rfl
  · obtain ⟨p, g, rl, P, G, C, rfl, hP, lP, hG, nd, lG, sub, hC, q⟩ := h
    refine ⟨_, (pss_cons (ps_set (i := 3) scLStill.nd rfl (.inr rfl) (pe_callTy (call_dictT rfl) (by rfl) Tdict (by decide +kernel) (pa_cons (pv 1) pa_nil)))
      (pss_one (ps_ret (pe_cmpR (op_eqL0 (Nat.lt_of_succ_lt (hu_of hr))) (pe_lc (own := [("_law_name", 4), ("_law_room", 5)]) (g := gTup K 2 (gCons (gName 4) (gCons (gName 5) gNil))) (by rfl) scLStill.nd (pi_tupK K rfl (pv 0))
 (blkOk_by (own := [("_law_name", 4), ("_law_room", 5)]) (N := nLStill) (sc := defScope sLStill) (by decide +kernel))
 (fun _ _ _ _ _ => (pg_tup (by rfl) (pgs_cons (pg_name (i := 4) scLStill.nd rfl (.inl rfl)) (pgs_cons (pg_name (i := 5) scLStill.nd rfl (.inl rfl)) pgs_nil)))) (fun _ _ _ _ _ => pts_one (PW.pt (pw_and (pt_cmpR (op_inK K rfl) (pv 5) (pv 2) (by rfl)) (pw_and1 (pt_cmpR op_ne (pe_dget (hu_of hr) (pv 3) (pv 4) (fun _ _ => rfl)) (pv 5) (nomark _)))))) (fun _ _ _ _ _ => (pv 4))) (pe_lst pa_nil) (nomark _))))), ?_⟩
    refine ⟨_, rfl, g, G, rfl, hG, nd, by omega, fun d hd => ?_⟩
    have s0 := same_upd (o := .dK (dkI G)) hd
    have ed : (upd H d (.dK (dkI G))) d = some (.dK (dkI G)) := upd_same
    generalize upd H d (.dK (dkI G)) = H0 at *
    have hP0 := hP.same s0
    refine ⟨_, rfl, p, rfl, hP0.sq, fun L hL => lc_pl hP0 (fun i H' => Same H0 H' ∧ H' L = some (.lst ((awy (P.take i) G C).map V.str))) ⟨same_upd hL, upd_same⟩ (fun _ _ h => Tk.of h.1) ?_ ?_⟩
    · rintro i nm c H1 hi ⟨s1, e1⟩
      obtain ⟨t, mt⟩ := key_val (sub nm (List.mem_map_of_mem (f := (·.1)) (List.mem_of_getElem? hi)))
      refine ⟨rfl, _, rfl, _, rfl, rl, _, rfl, .inr (sqT_same (s0.trans s1) hC), rfl, flat_vi _, _, rfl, ?_⟩
      rw [if_neg (by decide), inV_vi, awy_snoc hi]
      by_cases cC : c ∈ C
      · rw [decide_eq_true cC]
        refine iteT ⟨_, rfl, _, rfl, d, _, rfl, .inl ⟨_, Sum.inr nm, .inl (s1 _ _ ed), rfl, (valV_dkI nd mt).symm⟩, _, rfl, rfl, _, rfl, ?_⟩
        have e2 : (!decide (V.int t = V.int c)) = (true && !decide ((nm, c) ∈ G)) := by
          rw [int_dec, Bool.true_and]
          congr 1
          rw [Bool.eq_iff_iff, decide_eq_true_eq, decide_eq_true_eq]
          exact ⟨fun e => e ▸ mt, fun m => congrArg Prod.snd (key_uniq nd mt m rfl)⟩
        rw [e2]
        refine ite2 (fun z => ?_) (fun z => ?_)
        · rw [if_pos z]
          refine ⟨_, rfl, _, e1, ?_, same_put s1 hL, ?_⟩
          · rw [List.length_map]
            have := awy_len (P.take i) G C
            rw [List.length_take] at this
            exact small1000 (by omega)
          · rw [upd_same, List.map_append]
            rfl
        · rw [if_neg z, List.append_nil]
          exact ⟨s1, e1⟩
      · rw [decide_eq_false cC, Bool.false_and, if_neg Bool.false_ne_true, List.append_nil]
        exact iteF ⟨s1, e1⟩
    · rintro H1 ⟨s1, e1⟩
      rw [List.take_length] at e1
      refine ⟨Nat.zero_le _, fun N hN => ⟨L, N, _, rfl, rfl, SqL.of (same_upd hN _ _ e1), SqL.of upd_same, ?_⟩⟩
      rw [awy_stl nd sub]
      exact q _ ((s0.trans s1).trans (same_upd hN))
def spLCLeft (K : PySem.W.Frag) : Sp := fun vs H Q _ => ∃ (h rl : Addr) (n : Int) (D : List (Int × Int)) (C : List Int) (r : Int), vs = [.ref h, .ref rl, .int r] ∧ HouseAt H h n D ∧ Forest n D ∧ n ≤ 8 ∧ SqT K H rl (vi C) ∧ (∀ x ∈ C, 0 ≤ x ∧ x < n) ∧ C.length ≤ 8 ∧
  ∀ H' l Cs, Same H H' → H l = none → H' l = some (.lst (refs Cs)) → TupsAt H' Cs → Regs D (cut C r) (Cs.map (·.2)) → Cs.length ≤ 8 → Q (.ref l) H'
abbrev nLCLeft : List Str := ["_law_house", "_law_piece", "_law_room", "_law_rest", "_law_one"]
theorem scLCLeft : FnScope nLCLeft ["_law_house", "_law_piece", "_law_room"] (defScope sLCLeft) := ⟨rfl, rfl, rfl, by decide +kernel, rfl, by decide +kernel, by decide +kernel⟩
abbrev pLCLeft : List Str := ["_law_house", "_law_piece", "_law_room"]
theorem ok_lcleft {f : Addr} {fd : FuncData} {k : Nat} (F : Fun K "_law_components_left" "_law_components_left" sLCLeft f fd) (T : Nm mg) (Tset : mg "set" = none) (C_law_connected : Cal P w K mg base (k + 1) "_law_connected" pConn (spConn K)) : FnOk P w K mg base CX0 (k + 2) f fd pLCLeft (spLCLeft K) := by
  refine F.ok scLCLeft (fun vs H Q E h => ?_) (fun cdv A outer s H vs Q E hr h => ?_)
  · obtain ⟨h, rl, n, D, C, r, rfl, _⟩ := h
    rfl
  · obtain ⟨h, rl, n, D, C, r, rfl, hH, hF, n1, hC, rg, lC, q⟩ := h
    refine ⟨_, (pss_cons (ps_set (i := 3) scLCLeft.nd rfl (.inr rfl) (pe_lc (own := [("_law_one", 4)]) (g := gName 4) (by rfl) scLCLeft.nd (pi_tupK K rfl (pv 1))
 (blkOk_by (own := [("_law_one", 4)]) (N := nLCLeft) (sc := defScope sLCLeft) (by decide +kernel))
 (fun _ _ _ _ _ => (pg_name (i := 4) scLCLeft.nd rfl (.inl rfl))) (fun _ _ _ _ _ => pts_one (pt_cmpR op_ne (pv 4) (pv 2) (nomark _))) (fun _ _ _ _ _ => (pv 4))))
      (pss_one (ps_ret (pe_callB (cr_sortedTV rfl) (by rfl) T.sorted (by decide +kernel) (pa_cons (pe_callTy (cr_setOfT rfl hr.units) (by rfl) Tset (by decide +kernel) (pa_cons (pe_lc (own := [("_law_one", 4)]) (g := gName 4) (by rfl) scLCLeft.nd (pi_listK K rfl (pv 3))
 (blkOk_by (own := [("_law_one", 4)]) (N := nLCLeft) (sc := defScope sLCLeft) (by decide +kernel))
 (fun _ _ _ _ _ => (pg_name (i := 4) scLCLeft.nd rfl (.inl rfl))) (fun _ _ _ _ _ => pts_nil) (fun _ _ _ _ _ => (pe_cal C_law_connected hr (by rfl) (pa_cons (pv 0) (pa_cons (pv 3) (pa_cons (pv 4) pa_nil)))))) pa_nil)) pa_nil))))), ?_⟩
    refine ⟨_, rfl, rl, rfl, ⟨_, hC⟩, fun L hL => lc_tup (K := K) (a := rl) (xs := vi C) (fun i H' => Same H H' ∧ H' L = some (.lst (vi (cut (C.take i) r)))) ⟨same_upd hL, upd_same⟩ (fun i H' _ hh => sqT_same hh.1 hC) ?_ ?_⟩
    · rintro i x H1 hx ⟨s1, e1⟩
      obtain ⟨y, hy, rfl⟩ := get_vi hx
      have es : cut (C.take (i + 1)) r = cut (C.take i) r ++ if (!decide (y = r)) = true then [y] else [] := by
        unfold cut
        rw [take_snoc hy, filter_snoc]
      refine ⟨rfl, _, rfl, _, rfl, rfl, _, rfl, ?_⟩
      rw [int_dec, es]
      refine ite2 (fun c => ?_) (fun c => ?_)
      · rw [if_pos c]
        refine ⟨_, rfl, _, e1, ?_, same_put s1 hL, ?_⟩
        · rw [List.length_map]
          have h1 := cut_lenle (C.take i) r
          rw [List.length_take] at h1
          exact small1000 (by omega)
        · rw [upd_same, vi_app]
          rfl
      · rw [if_neg c, List.append_nil]
        exact ⟨s1, e1⟩
    rintro H1 ⟨s1, e1⟩
    rw [List.length_map, List.take_length] at e1
    have lR : (cut C r).length ≤ 8 := Nat.le_trans (cut_lenle C r) lC
    have rR : ∀ x ∈ cut C r, 0 ≤ x ∧ x < n := fun x hx => rg x (mem_cut.mp hx).1
    generalize cut C r = R at *
    refine ⟨_, rfl, L, rfl, ⟨_, SqL.of e1⟩, fun M hM => lc_list (K := K) (a := L) (xs := vi R) (fun j H2 => ∃ ks : List (Addr × List Int), Same H1 H2 ∧ H2 M = some (.lst (refs ks)) ∧ TupsAt H2 ks ∧ ks.length = j ∧ (∀ c ∈ ks, ∃ r ∈ R, IsC D R r c.2) ∧ ∀ r ∈ R.take j, ∃ c ∈ ks, IsC D R r c.2)
      ⟨[], same_upd hM, upd_same, fun c hc => (by cases hc), rfl, fun c hc => (by cases hc), fun r hr => (by simp at hr)⟩ (fun j H2 _ hh => ?_) ?_ ?_⟩
    · obtain ⟨ks, s2, _⟩ := hh
      exact SqL.of (s2 _ _ e1)
    · rintro j x H2 hx ⟨ks, s2, e2, hT, hl, h1, h2⟩
      obtain ⟨r, er, rfl⟩ := get_vi hx
      have hj : j < R.length := lt_of_get er
      have mr := List.mem_of_getElem? er
      refine ⟨rfl, ?_⟩
      unfold tYes
      refine iteT ?_
      refine ⟨_, rfl, _, rfl, _, rfl, h, L, n, D, R, r, rfl, hH.same (s1.trans s2), hF, n1, .inl (SqL.of (s2 _ _ e1)), (rR r mr).1, (rR r mr).2, fun H3 t l s3 et hC ll => ?_⟩
      have e3 := s3 _ _ e2
      refine ⟨_, e3, by unfold refs; rw [List.length_map]; exact small1000 (by omega), ks ++ [(t, l)], same_put (s2.trans s3) hM, ?_, fun c hc => ?_, ?_, fun c hc => ?_, fun x hx => ?_⟩
      · rw [upd_same]
        unfold refs
        rw [List.map_append]
        rfl
      · rcases List.mem_append.mp hc with hc | hc
        · have z := hT.same s3 c hc
          exact ⟨(upd_ne (ne_of z.1 e3 (by intro q; cases q))).trans z.1, z.2⟩
        · rw [List.mem_singleton.mp hc]
          exact ⟨(upd_ne (ne_of et e3 (by intro q; cases q))).trans et, ll⟩
      · rw [List.length_append, List.length_singleton, hl]
      · rcases List.mem_append.mp hc with hc | hc
        · exact h1 c hc
        · rw [List.mem_singleton.mp hc]
          exact ⟨r, mr, hC⟩
      · rcases (take_succ_mem er).mp hx with hx | hx
        · obtain ⟨c, hc, z⟩ := h2 x hx
          exact ⟨c, List.mem_append_left _ hc, z⟩
        · rw [hx]
          exact ⟨(t, l), List.mem_append_right _ (List.mem_singleton.mpr rfl), hC⟩
    · rintro H2 ⟨ks, s2, e2, hT, hl, h1, h2⟩
      rw [List.length_map] at hl h2
      rw [List.take_length] at h2
      refine ⟨M, ks, rfl, SqL.of e2, fun p hp => SqT.of (hT p hp).1, by omega, fun a S ha m1 m2 => ?_⟩
      have sa : Same H2 (upd H2 a (SetTO P w a S)) := same_upd ha
      refine ⟨a, S, rfl, upd_same, fun p hp => ⟨SqT.of (sa _ _ (hT p (m1 p hp)).1), ?_⟩, fun S' p mm up hp => ?_⟩
      · obtain ⟨r, _, hC⟩ := h1 p (m1 p hp)
        intro e
        have := hC.has
        rw [e] at this
        cases this
      · have sb := sa.trans (same_upd (o := .lst (S'.map fun q => V.ref q.1)) hp)
        have rgs : Regs D R (S'.map (·.2)) := by
          refine ⟨up, fun l => ⟨fun hl => ?_, fun hl => ?_⟩⟩
          · obtain ⟨c, hc, rfl⟩ := List.mem_map.mp hl
            obtain ⟨r, hr', hC⟩ := h1 c (m1 c ((mm c).mp hc))
            exact ⟨r, hr', hC⟩
          · obtain ⟨r, hr', hC⟩ := hl
            obtain ⟨c, hc, hC2⟩ := h2 r hr'
            obtain ⟨c2, hc2, e2⟩ := List.mem_map.mp (m2 c hc)
            rw [hC.one hC2, ← e2]
            exact List.mem_map_of_mem ((mm c2).mpr hc2)
        have few : S'.length ≤ 8 := by
          have := sum_ge (S'.map (·.2)) fun C hC => by
            obtain ⟨r, _, hC⟩ := (rgs.mem C).mp hC
            exact List.length_pos_of_mem hC.has
          have tot := rgs.flat_nodup
          have sub : ∀ x ∈ (S'.map (·.2)).flatten, x ∈ R := fun x hx => by
            obtain ⟨l, hl, hx⟩ := List.mem_flatten.mp hx
            obtain ⟨r, hr', hC⟩ := (rgs.mem l).mp hl
            exact hC.sub' hr' hx
          have := nodup_le tot sub
          rw [List.length_flatten] at this
          rw [List.length_map] at *
          omega
        refine q _ p S' ((s1.trans s2).trans sb) (((s1.trans s2).trans sa).free hp) upd_same (fun c hc => hT.same sb c (m1 c ((mm c).mp hc))) rgs few
def spLNextR : Sp := fun vs H Q _ => ∃ (h p g : Addr) (n : Int) (D : List (Int × Int)) (P G : List (Str × Int)) (nm : Str) (r t a : Int) (q : List Int), vs = [.ref h, .ref p, .ref g, .int r] ∧ HouseAt H h n D ∧ Forest n D ∧ n ≤ 8 ∧ PlAt H p P ∧ Pl n P ∧ P.length ≤ 100 ∧ PlD H g G ∧ Pl n G ∧ G.length ≤ 100 ∧ (nm, r) ∈ P ∧ (∀ nm', (nm', r) ∈ P → nm' = nm) ∧ (nm, t) ∈ G ∧ SP (adj D) r t (r :: a :: q) ∧ ∀ H', Same H H' → Q (.int a) H'
abbrev nLNextR : List Str := ["_law_house", "_law_placement", "_law_target", "_law_room", "_law_homes", "_law_name", "_law_one", "_law_here"]
theorem scLNextR : FnScope nLNextR ["_law_house", "_law_placement", "_law_target", "_law_room"] (defScope sLNextR) := ⟨rfl, rfl, rfl, by decide +kernel, rfl, by decide +kernel, by decide +kernel⟩
abbrev pLNextR : List Str := ["_law_house", "_law_placement", "_law_target", "_law_room"]
theorem ok_lnextr {f : Addr} {fd : FuncData} {k : Nat} (F : Fun K "_law_next_room" "_law_next_room" sLNextR f fd) (T : Nm mg) (Tdict : mg "dict" = none) (C_law_path : Cal P w K mg base (k + 2) "_law_path" ["_law_house", "_law_one", "_law_other"] spPath) : FnOk P w K mg base CX0 (k + 3) f fd pLNextR spLNextR := by
  refine F.ok scLNextR (fun vs H Q E h => ?_) (fun cdv A outer s H vs Q E hr h => ?_)
  · obtain ⟨h, p, g, n, D, P, G, nm, r, t, a, q, rfl, _⟩ := h
    rfl
  · obtain ⟨h, p, g, n, D, P, G, nm, r, t, a, w', rfl, hH, hF, n1, hP, pl, lP, hG, plG, lG, mr, un, mt, sp, q⟩ := h
    refine ⟨_, (pss_cons (ps_set (i := 4) scLNextR.nd rfl (.inl rfl) (pe_callTy (call_dictT rfl) (by rfl) Tdict (by decide +kernel) (pa_cons (pv 2) pa_nil)))
      (pss_cons (ps_set (i := 5) scLNextR.nd rfl (.inl rfl) (pe_ix (ix_listK K rfl) (pe_lc (own := [("_law_one", 6), ("_law_here", 7)]) (g := gTup K 2 (gCons (gName 6) (gCons (gName 7) gNil))) (by rfl) scLNextR.nd (pi_tupK K rfl (pv 1))
 (blkOk_by (own := [("_law_one", 6), ("_law_here", 7)]) (N := nLNextR) (sc := defScope sLNextR) (by decide +kernel))
 (fun _ _ _ _ _ => (pg_tup (by rfl) (pgs_cons (pg_name (i := 6) scLNextR.nd rfl (.inl rfl)) (pgs_cons (pg_name (i := 7) scLNextR.nd rfl (.inl rfl)) pgs_nil)))) (fun _ _ _ _ _ => pts_one (pt_cmpR op_eq (pv 7) (pv 3) (nomark _))) (fun _ _ _ _ _ => (pv 6))) pe_int (fun _ _ => rfl)))
      (pss_one (ps_ret (pe_ix (ix_tupK K rfl) (pe_op op_catA (pe_cal C_law_path hr (by rfl) (pa_cons (pv 0) (pa_cons (pv 3) (pa_cons (pe_dget (hu_of hr) (pv 4) (pv 5) (fun _ _ => rfl)) pa_nil)))) (pe_tup (pa_cons pe_non pa_nil))) pe_int (fun _ _ => rfl)))))), ?_⟩
    refine ⟨_, rfl, g, G, rfl, hG, plG.nodup, by omega, fun d hd => ?_⟩
    have s0 := same_upd (o := .dK (dkI G)) hd
    have ed : (upd H d (.dK (dkI G))) d = some (.dK (dkI G)) := upd_same
    generalize upd H d (.dK (dkI G)) = H0 at *
    have hP0 := hP.same s0
    refine ⟨_, rfl, p, rfl, hP0.sq, fun L hL => lc_pl hP0 (fun i H' => Same H0 H' ∧ H' L = some (.lst ((inside (P.take i) [r]).map V.str))) ⟨same_upd hL, upd_same⟩ (fun _ _ h => Tk.of h.1) ?_ ?_⟩
    · rintro i nm c H1 hi ⟨s1, e1⟩
      refine ⟨rfl, _, rfl, _, rfl, rfl, _, rfl, ?_⟩
      rw [inside_snoc hi, int_dec]
      refine ite2 (fun z => ?_) (fun z => ?_)
      · rw [if_pos (List.mem_singleton.mpr (of_decide_eq_true z))]
        refine ⟨_, rfl, _, e1, ?_, same_put s1 hL, ?_⟩
        · rw [List.length_map]
          have := inside_len (P.take i) [r]
          rw [List.length_take] at this
          exact small1000 (by omega)
        · rw [upd_same, List.map_append]
          rfl
      · rw [if_neg fun m => z (decide_eq_true (List.mem_singleton.mp m)), List.append_nil]
        exact ⟨s1, e1⟩
    rintro H1 ⟨s1, e1⟩
    rw [List.take_length] at e1
    obtain ⟨u, eu⟩ := inside_all mr un
    rw [eu] at e1
    have s01 := s0.trans s1
    refine ⟨L, _, _, _, rfl, rfl, SqL.of e1, atI0, _, rfl, _, rfl, _, rfl, _, rfl, d, _, rfl, .inl ⟨_, Sum.inr nm, .inl (s1 _ _ ed), rfl, (valV_dkI plG.nodup mt).symm⟩, h, n, D, r, t, rfl, hH.same s01, hF, n1, (pl.rm _ mr).1, (pl.rm _ mr).2, (plG.rm _ mt).1, (plG.rm _ mt).2, fun H3 s3 no => absurd sp (no _), fun H3 tt w2 s3 sp' lw e3 => ?_⟩
    obtain rfl := hF.uniq _ _ _ _ sp' sp
    refine ⟨by show 1 ≤ sizeLine; decide, fun t1 ht1 => ⟨tt, t1, _, _, rfl, rfl, SqT.of (same_upd ht1 _ _ e3), SqT.of upd_same, ?_, fun e => (by cases e), fun _ e => (by cases e), fun _ _ t2 ht2 => ?_⟩⟩
    · rw [List.length_map]
      refine Nat.le_trans (Nat.add_le_add_right lw _) ?_
      show 9 ≤ sizeLine
      decide
    · exact ⟨t2, _, _, _, rfl, rfl, SqT.of upd_same, atI1, q _ (((s01.trans s3).trans (same_upd ht1)).trans (same_upd ht2))⟩
def spLSolv (K : PySem.W.Frag) (d : Nat) : Sp := fun vs H Q _ => ∃ (h p g rl : Addr) (n : Int) (D : List (Int × Int)) (P G : List (Str × Int)) (C : List Int), vs = [.ref h, .ref p, .ref g, .ref rl] ∧ HouseAt H h n D ∧ Forest n D ∧ 0 ≤ n ∧ n ≤ 8 ∧ PlAt H p P ∧ Pl n P ∧ P.length ≤ 60 ∧ PlD H g G ∧ Pl n G ∧ G.length ≤ 100 ∧ (∀ x ∈ P.map (·.1), x ∈ G.map (·.1)) ∧ SqT K H rl (vi C) ∧ Pce D P G C ∧ C.length < d ∧ ∀ H', Same H H' → Q (.bl (solB D P G C)) H'
abbrev nLSolv : List Str := ["_law_house", "_law_placement", "_law_target", "_law_piece", "_law_room", "_law_there", "_law_some", "_law_one"]
theorem scLSolv : FnScope nLSolv ["_law_house", "_law_placement", "_law_target", "_law_piece"] (defScope sLSolv) := ⟨rfl, rfl, rfl, by decide +kernel, rfl, by decide +kernel, by decide +kernel⟩
abbrev pLSolv : List Str := ["_law_house", "_law_placement", "_law_target", "_law_piece"]
/-- those of them that a is not in -/
def offA (Cs : List (Addr × List Int)) (a : Int) : List (Addr × List Int) := Cs.filter fun c => !decide (a ∈ c.2)
open Classical in
/-- those of them that are not solvable -/
noncomputable def bad (D : List (Int × Int)) (P G : List (Str × Int)) (Cs : List (Addr × List Int)) : List (Addr × List Int) := Cs.filter fun c => !solB D P G c.2
theorem ok_lsolv {f : Addr} {fd : FuncData} {k d : Nat} (F : Fun K "_law_solvable" "_law_solvable" sLSolv f fd) (C_law_still : Cal P w K mg base k "_law_still" pLStill (spLStill K)) (C_law_free : Cal P w K mg base k "_law_free" pLFree (spLFree K)) (C_law_next_room : Cal P w K mg base k "_law_next_room" pLNextR spLNextR) (C_law_components_left : Cal P w K mg base k "_law_components_left" pLCLeft (spLCLeft K)) (C_law_solvable : Cal P w K mg base k "_law_solvable" pLSolv (spLSolv K d)) : FnOk P w K mg base CX0 (k + 1) f fd pLSolv (spLSolv K (d + 1)) := by
  refine F.ok scLSolv (fun vs H Q E h => ?_) (fun cdv A outer s H vs Q E hr h => ?_)
  · obtain ⟨h, p, g, rl, n, D, P, G, C, rfl, _⟩ := h
    rfl
  · obtain ⟨h, p, g, rl, n, D, P, G, C, rfl, hH, hF, n0, n1, hP, pl, lP, hG, plG, lG, sub, hC, pc, lC, q⟩ := h
    refine ⟨_, (pss_cons (ps_if (pt_val (pe_cal C_law_still hr (by rfl) (pa_cons (pv 1) (pa_cons (pv 2) (pa_cons (pv 3) pa_nil)))))
      (pss_one (ps_ret pe_bl))
      pss_nil)
      (pss_cons (ps_for PassesOwn.never rfl (pi_listK K rfl (pe_cal C_law_free hr (by rfl) (pa_cons (pv 0) (pa_cons (pv 1) (pa_cons (pv 2) (pa_cons (pv 3) pa_nil)))))) (pg_name (i := 4) scLSolv.nd rfl (.inl rfl))
      (pss_cons (ps_set (i := 5) scLSolv.nd rfl (.inr rfl) (pe_cal C_law_next_room hr (by rfl) (pa_cons (pv 0) (pa_cons (pv 1) (pa_cons (pv 2) (pa_cons (pv 4) pa_nil))))))
       (pss_cons (ps_setLc (i := 6) (own := [("_law_one", 7)]) (g := gName 7) (by rfl) scLSolv.nd rfl rfl (sw_true rfl rfl rfl (by decide +kernel)) (pi_listK K rfl (pe_cal C_law_components_left hr (by rfl) (pa_cons (pv 0) (pa_cons (pv 3) (pa_cons (pv 4) pa_nil)))))
 (blkOk_by (own := [("_law_one", 7)]) (N := nLSolv) (sc := defScope sLSolv) (by decide +kernel))
 (fun _ _ _ _ _ => (pg_name (i := 7) scLSolv.nd rfl (.inl rfl))) (fun _ _ _ _ _ => pts_one (pt_cmpR (op_notInK K rfl) (pv 5) (pv 7) (by rfl))) (fun _ _ _ _ _ => (pv 7)))
       (pss_one (ps_if (pt_cmpR (op_eqL0 (Nat.lt_of_succ_lt (hu_of hr))) (pe_lc (own := [("_law_one", 7)]) (g := gName 7) (by rfl) scLSolv.nd (pi_listK K rfl (pv 6))
 (blkOk_by (own := [("_law_one", 7)]) (N := nLSolv) (sc := defScope sLSolv) (by decide +kernel))
 (fun _ _ _ _ _ => (pg_name (i := 7) scLSolv.nd rfl (.inl rfl))) (fun _ _ _ _ _ => pts_one (pt_not (pt_val (pe_cal C_law_solvable hr (by rfl) (pa_cons (pv 0) (pa_cons (pv 1) (pa_cons (pv 2) (pa_cons (pv 7) pa_nil)))))))) (fun _ _ _ _ _ => (pv 7))) (pe_lst pa_nil) (nomark _))
       (pss_one (ps_ret pe_bl))
       pss_nil)))))
      (pss_one (ps_ret pe_bl)))), ?_⟩
    refine ⟨_, rfl, _, rfl, _, rfl, p, g, rl, P, G, C, rfl, hP, by omega, hG, plG.nodup, lG, sub, hC, fun H1 s1 => ⟨_, rfl, ?_⟩⟩
    by_cases st : Stl P G C
    · rw [stlB_iff.mpr st]
      refine iteT ?_
      rw [solB_iff.mpr (.still st)] at q
      exact q _ s1
    rw [Bool.eq_false_iff.mpr fun z => st (stlB_iff.mp z)]
    have l8 := pc.len pl n1
    refine iteF ⟨_, rfl, _, rfl, _, rfl, _, rfl, h, p, g, rl, n, D, P, G, C, rfl, hH.same s1, hF, n1, hP.same s1, pl, lP, hG.same s1, plG, lG, sub, sqT_same s1 hC, by omega, fun H2 tt s2 _ et => ?_⟩
    have s12 := s1.trans s2
    refine ⟨tt, rfl, ⟨_, SqL.of et⟩, for_list (K := K) (a := tt) (xs := vi (fre D P G C)) (fun i σ' H' => ∃ y4 y5 y6 y7, σ' = [some (.ref h), some (.ref p), some (.ref g), some (.ref rl), y4, y5, y6, y7] ∧ Same H2 H' ∧ ∀ r ∈ (fre D P G C).take i, ¬ Lve D P G C r)
      ⟨_, _, _, _, rfl, Same.refl _, fun c hc => nomatch hc⟩ (fun i σ' H' _ hh => ?_) ?_ ?_⟩
    · obtain ⟨_, _, _, _, _, s', _⟩ := hh
      exact SqL.of (s' _ _ et)
    · rintro i x σ' H3 hx ⟨y4, y5, y6, y7, rfl, s3, all⟩
      obtain ⟨r, hr', rfl⟩ := get_vi hx
      have fr := List.mem_of_getElem? hr'
      have rC := (fre_mem fr).1
      obtain ⟨nm, t, a, w', m1, m2, sp, aC⟩ := pc.ahead sub fr
      obtain ⟨nm', mw, un⟩ := pc.who r rC
      have e0 := un nm m1
      have ahd : Ahd D P G r a := ⟨nm, t, w', m1, m2, sp⟩
      have only : ∀ b, Ahd D P G r b → b = a := fun b hb => pc.ahd_one hF plG.nodup rC hb ahd
      have s03 := s12.trans s3
      refine ⟨_, rfl, _, rfl, _, rfl, _, rfl, h, p, g, n, D, P, G, nm, r, t, a, w', rfl, hH.same s03, hF, n1, hP.same s03, pl, by omega, hG.same s03, plG, lG, m1, fun x hx => (un x hx).trans e0.symm, m2, sp, fun H4 s4 => ?_⟩
      have s04 := s03.trans s4
      refine ⟨_, rfl, _, rfl, _, rfl, h, rl, n, D, C, r, rfl, hH.same s04, hF, n1, sqT_same s04 hC, fun x hx => by obtain ⟨nm, m, _⟩ := pc.who x hx; exact pl.rm _ m, l8, fun H5 l Cs s5 nl el tps rgs few => ?_⟩
      refine ⟨l, rfl, ⟨_, SqL.of el⟩, fun M hM => lc_list (K := K) (a := l) (xs := refs Cs) (fun j H' => Same H5 H' ∧ H' M = some (.lst (refs (offA (Cs.take j) a)))) ⟨same_upd hM, upd_same⟩ (fun j H' _ hh => SqL.of (hh.1 _ _ el)) ?_ ?_⟩
      · rintro j x H6 hx ⟨s6, e6⟩
        obtain ⟨c, hc, rfl⟩ := get_refs hx
        have mc := List.mem_of_getElem? hc
        have lj := lt_of_get hc
        refine ⟨rfl, _, rfl, _, rfl, c.1, _, rfl, .inr (SqT.of (s6 _ _ (tps c mc).1)), rfl, flat_vi _, _, rfl, ?_⟩
        have es : offA (Cs.take (j + 1)) a = offA (Cs.take j) a ++ if (!decide (a ∈ c.2)) = true then [c] else [] := by
          unfold offA
          rw [take_snoc hc, filter_snoc]
        rw [if_pos rfl, inV_vi, es]
        refine ite2 (fun z => ?_) (fun z => ?_)
        · rw [if_pos z]
          refine ⟨_, rfl, _, e6, ?_, same_put s6 hM, ?_⟩
          · unfold refs
            rw [List.length_map]
            have := List.length_filter_le (fun c : Addr × List Int => !decide (a ∈ c.2)) (Cs.take j)
            rw [List.length_take] at this
            unfold offA
            exact small1000 (by omega)
          · rw [upd_same]
            unfold refs
            rw [List.map_append]
            rfl
        · rw [if_neg z, List.append_nil]
          exact ⟨s6, e6⟩
      rintro H6 ⟨s6, e6⟩
      rw [show (refs Cs).length = Cs.length by unfold refs; rw [List.length_map], List.take_length] at e6
      have mo : ∀ c ∈ offA Cs a, c ∈ Cs ∧ a ∉ c.2 := fun c hc => by
        unfold offA at hc
        obtain ⟨h1, h2⟩ := List.mem_filter.mp hc
        exact ⟨h1, by simpa using h2⟩
      have lo : (offA Cs a).length ≤ 8 := Nat.le_trans (List.length_filter_le _ _) few
      have s06 := (s04.trans s5).trans s6
      refine ⟨_, rfl, M, rfl, ⟨_, SqL.of e6⟩, fun N hN => lc_list (K := K) (a := M) (xs := refs (offA Cs a)) (fun j H' => Same H6 H' ∧ H' N = some (.lst (refs (bad D P G ((offA Cs a).take j))))) ⟨same_upd hN, upd_same⟩ (fun j H' _ hh => SqL.of (hh.1 _ _ e6)) ?_ ?_⟩
      · rintro j x H7 hx ⟨s7, e7⟩
        obtain ⟨c, hc, rfl⟩ := get_refs hx
        have mc := List.mem_of_getElem? hc
        obtain ⟨mc1, mc2⟩ := mo c mc
        have lj := lt_of_get hc
        obtain ⟨ss, hs, ic⟩ := (rgs.mem c.2).mp (List.mem_map_of_mem (f := (·.2)) mc1)
        have lc : c.2.length < d := by
          have h1 := up_len ic.up fun v hv => ic.sub' hs hv
          have h2 := cut_len rC
          omega
        have s07 := s06.trans s7
        refine ⟨rfl, _, rfl, _, rfl, _, rfl, _, rfl, h, p, g, c.1, n, D, P, G, c.2, rfl, hH.same s07, hF, n0, n1, hP.same s07, pl, lP, hG.same s07, plG, lG, sub, SqT.of ((s6.trans s7) _ _ (tps c mc1).1), pc.cut fr hs ic, lc, fun H8 s8 => ⟨_, rfl, ?_⟩⟩
        have es : bad D P G ((offA Cs a).take (j + 1)) = bad D P G ((offA Cs a).take j) ++ if (!solB D P G c.2) = true then [c] else [] := by
          unfold bad
          rw [take_snoc hc, filter_snoc]
        rw [es]
        refine ite2 (fun z => ?_) (fun z => ?_)
        · rw [if_pos z]
          refine ⟨_, rfl, _, s8 _ _ e7, ?_, same_put (s7.trans s8) hN, ?_⟩
          · unfold refs
            rw [List.length_map]
            have := List.length_filter_le (fun c : Addr × List Int => !solB D P G c.2) ((offA Cs a).take j)
            rw [List.length_take] at this
            unfold bad
            exact small1000 (by omega)
          · rw [upd_same]
            unfold refs
            rw [List.map_append]
            rfl
        · rw [if_neg z, List.append_nil]
          exact ⟨s7.trans s8, s8 _ _ e7⟩
      rintro H7 ⟨s7, e7⟩
      rw [show (refs (offA Cs a)).length = (offA Cs a).length by unfold refs; rw [List.length_map], List.take_length] at e7
      refine ⟨Nat.zero_le _, fun O hO => ⟨N, O, _, rfl, rfl, SqL.of (same_upd hO _ _ e7), SqL.of upd_same, _, rfl, ?_⟩⟩
      have em : (refs (bad D P G (offA Cs a))).isEmpty = lveB D P G C r := by
        rw [Bool.eq_iff_iff, lveB_iff, List.isEmpty_iff]
        unfold refs bad
        rw [List.map_eq_nil_iff, List.filter_eq_nil_iff]
        constructor
        · intro al ss hs L ic no
          obtain ⟨c, hc, rfl⟩ := List.mem_map.mp ((rgs.mem L).mpr ⟨ss, hs, ic⟩)
          have := al c (List.mem_filter.mpr ⟨hc, by simpa using no a ahd⟩)
          rw [Bool.not_eq_true, Bool.not_eq_false'] at this
          exact solB_iff.mp this
        · intro al c hc z
          obtain ⟨mc1, mc2⟩ := mo c hc
          obtain ⟨ss, hs, ic⟩ := (rgs.mem c.2).mp (List.mem_map_of_mem (f := (·.2)) mc1)
          have := solB_iff.mpr (al ss hs c.2 ic fun b hb => by rw [only b hb]; exact mc2)
          rw [this] at z
          cases z
      rw [em]
      have s08 := (s06.trans s7).trans (same_upd (o := .lst []) hO)
      by_cases lv : Lve D P G C r
      · rw [lveB_iff.mpr lv]
        refine iteT ?_
        rw [solB_iff.mpr (.leave fr lv)] at q
        exact q _ s08
      · rw [Bool.eq_false_iff.mpr fun z => lv (lveB_iff.mp z)]
        refine iteF ⟨_, _, _, _, rfl, (((s3.trans s4).trans s5).trans (s6.trans s7)).trans (same_upd hO), fun c' hc' => ?_⟩
        rw [take_snoc hr'] at hc'
        rcases List.mem_append.mp hc' with hc' | hc'
        · exact all c' hc'
        · rw [List.mem_singleton.mp hc']
          exact lv
    · rintro σ' H3 ⟨y4, y5, y6, y7, rfl, s3, all⟩
      rw [List.length_map, List.take_length] at all
      have : solB D P G C = false := Bool.eq_false_iff.mpr fun z => by
        rcases sol_iff.mp (solB_iff.mp z) with st' | ⟨r, fr, lv⟩
        · exact st st'
        · exact all r fr lv
      rw [← this]
      exact q _ (s12.trans s3)
theorem cal_lsolv (dS : DefE K mg "_law_solvable" sLSolv pLSolv) (C_law_still : Cal P w K mg base 4 "_law_still" pLStill (spLStill K)) (C_law_free : Cal P w K mg base 4 "_law_free" pLFree (spLFree K)) (C_law_next_room : Cal P w K mg base 4 "_law_next_room" pLNextR spLNextR) (C_law_components_left : Cal P w K mg base 4 "_law_components_left" pLCLeft (spLCLeft K)) : ∀ d, Cal P w K mg base (d + 4) "_law_solvable" pLSolv (spLSolv K d)
  | 0 => by
    obtain ⟨f, fd, x⟩ := dS
    refine x.cal ⟨fun vs H Q E h => ?_, fun vs H Q E _ _ _ _ _ _ _ _ _ h => ?_⟩
    all_goals
      obtain ⟨_, _, _, _, _, _, _, _, _, _, _, _, _, _, _, _, _, _, _, _, _, _, _, lC, _⟩ := h
      omega
  | d + 1 => dS.cal fun _ _ x => ok_lsolv x.F (C_law_still.up (by omega)) (C_law_free.up (by omega)) (C_law_next_room.up (by omega)) (C_law_components_left.up (by omega)) (cal_lsolv dS C_law_still C_law_free C_law_next_room C_law_components_left d)
end
end Fw
set_option maxHeartbeats 4000000
namespace Fw
open PySem PySem.Spec PyProof.Rows L2
/-! tuples without attributes of their own: displays, parts, sums; a placement of several regions -/
section
variable {X : Cx} {pins : List (Addr × Obj)} {σ : L2.St} {H : Hp} {s : Shared}
/-- a tuple that is laid, its object told -/
theorem lay_fz {xs : List V} {its : List Value} (I : Inv X pins σ H s) (z : xs.length ≤ sizeLine) (r : Vals xs its) : ∃ ob : Obj, ob.dict = none ∧ Inv X pins σ (upd H s.heap.objs.size (.frz ob (.tup xs))) { s with heap := s.heap.push { cls := .type "tuple", data := .seq its.toArray } } := by
  have ok : ObjOk X.prog X.w (upd H s.heap.objs.size (.frz { cls := .type "tuple", data := .seq its.toArray } (.tup xs))) (s.heap.push { cls := .type "tuple", data := .seq its.toArray }) s.heap.objs.size (.frz { cls := .type "tuple", data := .seq its.toArray } (.tup xs)) :=
    ⟨Heap.get?_push_size _ rfl, z, its, r, IsTup.new _ _⟩
  exact ⟨_, rfl, I.laid (t' := s.toks) (fun b o e => Heap.get?_push_of_some _ e) (Nat.le_refl _) ok⟩
def tTupF (t : TA) : TE := fun σ H Q => t σ H fun xs H1 => xs.length ≤ sizeLine ∧ ∀ (p : Addr) (ob : Obj), H1 p = none → ob.dict = none → Q (.ref p) (upd H1 p (.frz ob (.tup xs)))
theorem pe_tupF {es : List Expr} {t : TA} {x1} {pos : Pos} (h : PA X es t) : PE X (.Tuple es x1 pos) (tTupF t) := by
  refine ⟨fun pins s σ H Q I hq => wpAny_Tuple_spliced (thn (h.run pos pins s σ H _ I hq) fun us z a => ?_)⟩
  obtain ⟨xs, H1, J, rel, small, q⟩ := a
  obtain ⟨ob, od, J2⟩ := lay_fz J small rel
  refine ⟨Nat.le_trans (Nat.le_of_eq rel.length.symm) small, .ref z.heap.objs.size, _, J2, rfl, q _ ob ?_ od⟩
  exact J.hok.fresh (Nat.le_refl _)
def rCatF (K : PySem.W.Frag) : R2 := fun x y H Q => ∃ (a b : Addr) (xs ys : List V), x = .ref a ∧ y = .ref b ∧ SqT K H a xs ∧ SqT K H b ys ∧ xs.length + ys.length ≤ sizeLine ∧
  (xs = [] → Q (.ref b) H) ∧ (xs ≠ [] → ys = [] → Q (.ref a) H) ∧ (xs ≠ [] → ys ≠ [] → ∀ (p : Addr) (ob : Obj), H p = none → ob.dict = none → Q (.ref p) (upd H p (.frz ob (.tup (xs ++ ys)))))
theorem op_catF : OpR X (binaryOp .Add) (rCatF X.K) := by
  intro pins s σ H x y v u Q I rx ry h
  obtain ⟨a, b, xs, ys, ex, ey, ha, hb, small, q0, q1, q2⟩ := h
  by_cases nx : xs = []
  · exact op_catA pins s σ H x y v u Q I rx ry ⟨a, b, xs, ys, ex, ey, ha, hb, small, q0, fun n => absurd nx n, fun n => absurd nx n⟩
  by_cases ny : ys = []
  · exact op_catA pins s σ H x y v u Q I rx ry ⟨a, b, xs, ys, ex, ey, ha, hb, small, q0, q1, fun _ n => absurd ny n⟩
  subst ex
  subst ey
  cases (show v = Value.ref a from rx)
  cases (show u = Value.ref b from ry)
  obtain ⟨its, r1, p1, _⟩ := I.tuple ha
  obtain ⟨jts, r2, p2, _⟩ := I.tuple hb
  obtain ⟨ob, od, J⟩ := lay_fz I (by rw [List.length_append]; exact small) (r1.append r2)
  exact HT.cat_tup p1 p2 (fun z => nx (r1.nil_iff.mp z)) (fun z => absurd (r2.nil_iff.mp z) ny) (fun _ => ⟨.ref s.heap.objs.size, _, J, rfl, q2 nx ny _ ob (I.hok.fresh (Nat.le_refl _)) od⟩) (by rw [← r1.length, ← r2.length]; exact small)
end
/-- placements put together -/
def rCatD : R2 := fun x y H Q => ∃ (a b : Addr) (A B : List (Str × Int)), x = .ref a ∧ y = .ref b ∧ PlD H a A ∧ PlD H b B ∧ A.length + B.length ≤ 1000 ∧ ∀ H' p, Same H H' → PlD H' p (A ++ B) → Q (.ref p) H'
theorem op_catD {X : Cx} : OpR X (binaryOp .Add) rCatD := by
  intro pins s σ H x y v u Q I rx ry h
  obtain ⟨a, b, A, B, ex, ey, hA, hB, small, q⟩ := h
  obtain ⟨ps, o1, d1, e1, rfl, m1⟩ := id hA
  obtain ⟨qs, o2, d2, e2, rfl, m2⟩ := id hB
  rw [List.length_map, List.length_map] at small
  refine op_catF pins s σ H x y v u Q I rx ry ⟨a, b, _, _, ex, ey, .inl (.inr ⟨_, e1⟩), .inl (.inr ⟨_, e2⟩), by rw [List.length_map, List.length_map]; exact Nat.le_of_lt (small1000 small), fun z => ?_, fun _ z => ?_, fun _ _ p ob hp od => ?_⟩
  · rw [List.map_eq_nil_iff] at z
    exact q _ b (Same.refl _) (by rw [z]; exact hB)
  · rw [List.map_eq_nil_iff] at z
    exact q _ a (Same.refl _) (by rw [z, List.map_nil, List.append_nil]; exact hA)
  · have sm := same_upd (o := .frz ob (.tup (ps.map (fun q => V.ref q.1) ++ qs.map fun q => V.ref q.1))) hp
    refine q _ p sm ⟨ps ++ qs, ob, od, by rw [upd_same, List.map_append], by rw [List.map_append], fun z hz => ?_⟩
    rcases List.mem_append.mp hz with hz | hz
    · exact sm _ _ (m1 z hz)
    · exact sm _ _ (m2 z hz)
/-- a part of a placement, not the whole -/
def rSlD : V → Option Int → Option Int → Hp → VK → Prop := fun x lo hi H Q => ∃ (a : Addr) (A : List (Str × Int)), x = .ref a ∧ PlD H a A ∧ A.length ≤ 1000 ∧ ¬ (HT.sIx A.length 0 lo = 0 ∧ HT.sIx A.length A.length hi = A.length) ∧ ∀ H' p, Same H H' → PlD H' p ((A.drop (HT.sIx A.length 0 lo)).take (HT.sIx A.length A.length hi - HT.sIx A.length 0 lo)) → Q (.ref p) H'
theorem sl_D {X : Cx} : SlR X rSlD := by
  intro pins s σ H x v vl vu lo hi sl Q I rx hs pl pu h
  obtain ⟨a, A, ex, hA, small, part, q⟩ := h
  obtain ⟨ps, o1, d1, e1, rfl, m1⟩ := id hA
  rw [List.length_map] at part small
  subst ex
  cases (show v = Value.ref a from rx)
  have sq : SqT X.K H a (ps.map fun q => V.ref q.1) := .inl (.inr ⟨_, e1⟩)
  obtain ⟨its, r, ht, _⟩ := I.tuple sq
  have ln : its.toArray.size = ps.length := by rw [List.size_toArray, ← r.length, List.length_map]
  have rc := (r.drop (HT.sIx ps.length 0 lo)).take (HT.sIx ps.length ps.length hi - HT.sIx ps.length 0 lo)
  obtain ⟨ob, od, J⟩ := lay_fz I (by
    rw [List.length_take, List.length_drop, List.length_map]
    exact Nat.le_trans (Nat.min_le_right _ _) (Nat.le_trans (Nat.sub_le _ _) (Nat.le_of_lt (small1000 small)))) rc
  refine ⟨"tuple", _, PyProof.Rows.slot_tuple_getitem.lookup, ht.typeIs, HT.getItem_tuple_cut ht hs pl pu (by rw [ln]; exact part) ?_ (by rw [ln]; exact Nat.le_of_lt (small1000 small))⟩
  rw [ln]
  have sm := same_upd (o := .frz ob (.tup (((ps.map fun q => V.ref q.1).drop (HT.sIx ps.length 0 lo)).take (HT.sIx ps.length ps.length hi - HT.sIx ps.length 0 lo)))) (I.hok.fresh (Nat.le_refl _))
  refine ⟨.ref s.heap.objs.size, _, J, rfl, q _ _ sm ⟨(ps.drop (HT.sIx ps.length 0 lo)).take (HT.sIx ps.length ps.length hi - HT.sIx ps.length 0 lo), ob, od, ?_, ?_, fun z hz => sm _ _ (m1 z (List.mem_of_mem_drop (List.mem_of_mem_take hz)))⟩⟩
  · rw [upd_same, List.map_take, List.map_drop]
  · rw [List.length_map, List.map_take, List.map_drop]
section
variable {P : Program} {w : World} {K : PySem.W.Frag} {mg : Str → Option Value} {base : Heap}
def spLCross : Sp := fun vs H Q _ => ∃ (s A B h : Addr) (c : Nat) (n : Int) (D : List (Int × Int)), vs = [.ref s, .ref h] ∧ StreamAt H s A B c ∧ c < 2 ^ 28 ∧ HouseAt H h n D ∧ Forest n D ∧ 1 ≤ n ∧ n ≤ 8 ∧
  ∀ H' l p g P G, StreamAt H' s A B (c + 120) → Fr s A H H' → H' l = some (.lst [.ref p, .ref g]) → PlAt H' p P → Pl n P → P.length ≤ 8 → (P.map (·.2)).Pairwise (· < ·) → PlD H' g G → Pl n G → G.map (·.1) = P.map (·.1) → Q (.ref l) H'
abbrev nLCross : List Str := ["_law_stream_here", "_law_house", "_law_held", "_law_room", "_law_rooms", "_law_placement", "_law_target", "_law_spot", "_law_one"]
theorem scLCross : FnScope nLCross ["_law_stream_here", "_law_house"] (defScope sLCross) := ⟨rfl, rfl, rfl, by decide +kernel, rfl, by decide +kernel, by decide +kernel⟩
abbrev pLCross : List Str := ["_law_stream_here", "_law_house"]
theorem ok_lcross {f : Addr} {fd : FuncData} {k : Nat} (F : Fun K "_law_crossing" "_law_crossing" sLCross f fd) (T : Nm mg) (Tset : mg "set" = none) (C_law_draw : Cal P w K mg base (k + 2) "_law_draw" pDraw spDraw) (C_law_names : Cal P w K mg base (k + 2) "_law_names" pDraw spNames) (C_law_near_target : Cal P w K mg base (k + 2) "_law_near_target" ["_law_stream_here", "_law_house", "_law_placement"] spLNear) : FnOk P w K mg base CX0 (k + 3) f fd pLCross spLCross := by
  refine F.ok scLCross (fun vs H Q E h => ?_) (fun cdv A outer s H vs Q E hr h => ?_)
  · obtain ⟨s, A, B, h, c, n, D, rfl, _⟩ := h
    rfl
  · obtain ⟨s, A, B, h, c, n, D, rfl, hS, hc, hH, hF, n0, n1, q⟩ := h
    refine ⟨_, (pss_cons (ps_set (i := 2) scLCross.nd rfl (.inl rfl) (pe_op op_cat (pe_lc (own := [("_law_room", 3)]) (g := gName 3) (by rfl) scLCross.nd (pi_range1 (by rfl) T.range (pa_cons (pe_ix (ix_tupK K rfl) (pv 1) pe_int (fun _ _ => rfl)) pa_nil))
 (blkOk_by (own := [("_law_room", 3)]) (N := nLCross) (sc := defScope sLCross) (by decide +kernel))
 (fun _ _ _ _ _ => (pg_name (i := 3) scLCross.nd rfl (.inl rfl))) (fun _ _ _ _ _ => pts_one (pt_cmpR op_gt (pe_cal C_law_draw hr (by rfl) (pa_cons (pv 0) (pa_cons pe_int pa_nil))) pe_int (nomark _))) (fun _ _ _ _ _ => (pv 3))) (pe_lst (pa_cons pe_int pa_nil))))
      (pss_cons (ps_set (i := 4) scLCross.nd rfl (.inl rfl) (pe_callB (cr_sortedSetW w rfl rfl) (by rfl) T.sorted (by decide +kernel) (pa_cons (pe_callTy (call_setL K w rfl rfl rfl) (by rfl) Tset (by decide +kernel) (pa_cons (pv 2) pa_nil)) pa_nil)))
      (pss_cons (ps_set (i := 5) scLCross.nd rfl (.inl rfl) (pe_tupleZip rfl rfl (by rfl) T.tuple (by rfl) T.zip (pa_cons (pe_cal C_law_names hr (by rfl) (pa_cons (pv 0) (pa_cons (pe_callB (call_lenK K rfl) (by rfl) T.len (by decide +kernel) (pa_cons (pv 4) pa_nil)) pa_nil))) (pa_cons (pv 4) pa_nil))))
      (pss_cons (ps_set (i := 6) scLCross.nd rfl (.inl rfl) (pe_cal C_law_near_target hr (by rfl) (pa_cons (pv 0) (pa_cons (pv 1) (pa_cons (pv 5) pa_nil)))))
      (pss_cons (ps_set (i := 7) scLCross.nd rfl (.inl rfl) (pe_cal C_law_draw hr (by rfl) (pa_cons (pv 0) (pa_cons (pe_callB (call_lenK K rfl) (by rfl) T.len (by decide +kernel) (pa_cons (pv 4) pa_nil)) pa_nil))))
      (pss_cons (ps_set (i := 8) scLCross.nd rfl (.inl rfl) (pe_tup (pa_cons (pe_ix (ix_tupK K rfl) (pe_ix (ix_tupK K rfl) (pv 6) (pv 7) (fun _ _ => rfl)) pe_int (fun _ _ => rfl)) (pa_cons (pe_cal C_law_draw hr (by rfl) (pa_cons (pv 0) (pa_cons (pe_ix (ix_tupK K rfl) (pv 1) pe_int (fun _ _ => rfl)) pa_nil))) pa_nil))))
      (pss_one (ps_ret (pe_lst (pa_cons (pv 5) (pa_cons (pe_op op_catD (pe_op op_catD (pe_slice sl_D (pv 6) po_none (po_some (pv 7))) (pe_tupF (pa_cons (pv 8) pa_nil))) (pe_slice sl_D (pv 6) (po_some (pe_op op_add (pv 7) pe_int)) po_none)) pa_nil))))))))))), ?_⟩
    obtain ⟨qd, eh⟩ := hH.room0
    refine ⟨_, rfl, h, _, _, _, rfl, rfl, SqT.of eh, atI0, n, rfl, by omega, by omega, fun L hL => ?_⟩
    have zL := hS.ne hL
    refine lc_range (lo := 0) (n := n.toNat) (fun i H' => ∃ R : List Int, StreamAt H' s A B (c + i) ∧ Fr s A H H' ∧ H' L = some (.lst (vi R)) ∧ R.length ≤ i ∧ ∀ x ∈ R, 0 ≤ x ∧ x < i) ⟨[], hS.same (same_upd hL), Fr.of (same_upd hL), upd_same, Nat.le_refl _, fun x hx => nomatch hx⟩ ?_ ?_
    · rintro i H1 hi ⟨R, hS1, fr1, e1, l1, m1⟩
      refine ⟨rfl, _, rfl, s, A, B, _, 4, rfl, hS1, by omega, by decide, by decide, fun H2 v hS2 fr2 v0 v1 => ⟨_, _, rfl, rfl, _, rfl, ?_⟩⟩
      have e2 := fr2 _ _ zL.1.symm zL.2.1.symm e1
      refine ite2 (fun z => ?_) (fun z => ?_)
      · refine ⟨_, rfl, _, e2, ?_, R ++ [0 + (i : Int)], hS2.put zL, (fr1.trans fr2).put hL, ?_, ?_, fun x hx => ?_⟩
        · rw [List.length_map]
          exact small1000 (by omega)
        · rw [upd_same, vi_app]
          rfl
        · rw [List.length_append, List.length_singleton]
          omega
        · rcases List.mem_append.mp hx with hx | hx
          · have := m1 x hx
            omega
          · rw [List.mem_singleton.mp hx]
            omega
      · exact ⟨R, hS2.mono (by omega), fr1.trans fr2, e2, by omega, fun x hx => by have := m1 x hx; omega⟩
    rintro H1 ⟨R, hS1, fr1, e1, l1, m1⟩
    refine ⟨by show 1 ≤ sizeLine; decide, fun M hM => ⟨L, M, _, _, rfl, rfl, same_upd hM _ _ e1, upd_same, ?_, fun N hN => ?_⟩⟩
    · rw [List.length_map, List.length_singleton]
      exact Nat.le_of_lt (small1000 (by omega))
    have s1 : Same H1 (upd (upd H1 M (.lst [V.int 0])) N (.lst (vi R ++ [V.int 0]))) := (same_upd hM).trans (same_upd hN)
    have eN : (upd (upd H1 M (.lst [V.int 0])) N (.lst (vi R ++ [V.int 0]))) N = some (.lst (vi (R ++ [0]))) := by
      rw [upd_same, vi_app]
      rfl
    generalize upd (upd H1 M (.lst [V.int 0])) N (.lst (vi R ++ [V.int 0])) = H2 at *
    have rR : ∀ x ∈ R ++ [0], 0 ≤ x ∧ x < n := fun x hx => by
      rcases List.mem_append.mp hx with hx | hx
      · have := m1 x hx
        omega
      · rw [List.mem_singleton.mp hx]
        omega
    refine ⟨_, rfl, N, R ++ [0], rfl, SqL.of eN, by rw [List.length_append, List.length_singleton]; omega, fun S1 c1 hS1' lc1 => ?_⟩
    have s2 := s1.trans (same_upd (o := SetO w S1 (fun j => decide (j ∈ R ++ [0])) c1) hS1')
    have eS1 : (upd H2 S1 (SetO w S1 (fun j => decide (j ∈ R ++ [0])) c1)) S1 = some (SetO w S1 (fun j => decide (j ∈ R ++ [0])) c1) := upd_same
    generalize upd H2 S1 (SetO w S1 (fun j => decide (j ∈ R ++ [0])) c1) = H3 at *
    rw [List.length_append, List.length_singleton] at lc1
    refine ⟨S1, _, _, rfl, eS1, by omega, fun ks p1 up1 mem1 ll1 hp1 => ?_⟩
    have s3 := s2.trans (same_upd (o := .lst (vi ks)) hp1)
    have ep1 : (upd H3 p1 (.lst (vi ks))) p1 = some (.lst (vi ks)) := upd_same
    generalize upd H3 p1 (.lst (vi ks)) = H4 at *
    have rk : ∀ x ∈ ks, 0 ≤ x ∧ x < n := fun x hx => rR x (of_decide_eq_true ((mem1 x).mp hx))
    have lk : ks.length ≤ 8 := by
      have := up_len up1 (C := rg n) fun x hx => mem_rg.mpr (rk x hx)
      rw [rg_len] at this
      omega
    have pk : 0 < ks.length := List.length_pos_of_mem ((mem1 0).mpr (decide_eq_true (List.mem_append_right _ (List.mem_singleton.mpr rfl))))
    have hS4 := hS1.same s3
    have fr4 := fr1.trans (Fr.of s3)
    have zp := (hS1.same s2).ne hp1
    clear s3 s2 s1 eS1 eN hS1' hp1 hN hM e1 zL
    have lv : ((vi ks).length : Int) = (ks.length : Int) := by rw [List.length_map]
    refine ⟨_, rfl, _, rfl, p1, _, rfl, .inl (SqL.of ep1), s, A, B, _, _, rfl, hS4, by omega, by omega, by omega, fun H5 l5 nsn hS5 fr5 hl5 e5 ln5 nm5 => ?_⟩
    have ep5 := fr5 _ _ zp.1.symm zp.2.1.symm ep1
    have ln : nsn.length = ks.length := by omega
    refine ⟨_, rfl, l5, p1, nsn.map V.str, vi ks, rfl, SqL.of e5, SqL.of ep5, by rw [List.length_map, List.length_map]; exact ln, by rw [List.length_map]; omega, fun H6 l6 zs s6 ez tz hl6 => ?_⟩
    have s7 := same_upd (o := .tup (zs.map fun z => V.ref z.1)) hl6
    have hP7 : PlAt (upd H6 l6 (.tup (zs.map fun z => V.ref z.1))) l6 (nsn.zip ks) := PlAt.zip ln ez (fun z hz => s7 _ _ (tz z hz)) upd_same
    have nmP : (nsn.zip ks).map (·.1) = nsn := List.map_fst_zip (by omega)
    have rmP : (nsn.zip ks).map (·.2) = ks := List.map_snd_zip (by omega)
    have lP : (nsn.zip ks).length = ks.length := by rw [List.length_zip]; omega
    have s67 := s6.trans s7
    have hS7 := hS5.same s67
    have fr7 := (fr4.trans fr5).trans (Fr.of s67)
    have ep7 := s67 _ _ ep5
    generalize upd H6 l6 (.tup (zs.map fun z => V.ref z.1)) = H7 at *
    have pl : Pl n (nsn.zip ks) := ⟨by rw [nmP]; exact nm5, fun x hx => rk x.2 (by rw [← rmP]; exact List.mem_map_of_mem (f := (·.2)) hx)⟩
    generalize hPe : nsn.zip ks = PP at *
    have neP : PP ≠ [] := fun e => by rw [e] at lP; simp at lP; omega
    refine ⟨_, rfl, _, rfl, _, rfl, s, A, B, h, l6, _, n, D, PP, rfl, hS7, by omega, hH.fr hS fr7, hF, n0, n1, hP7, pl, by omega, neP, fun H8 g G hS8 fr8 hG8 plG nmG => ?_⟩
    have lG : G.length = ks.length := by
      have := congrArg List.length nmG
      rw [List.length_map, List.length_map] at this
      omega
    have ep8 := fr8 _ _ zp.1.symm zp.2.1.symm ep7
    have hP8 := hP7.tk (Tk.fr fr8 hS7)
    have fr78 := fr7.trans fr8
    refine ⟨_, rfl, _, rfl, p1, _, rfl, .inl (SqL.of ep8), s, A, B, _, _, rfl, hS8, by omega, by omega, by omega, fun H9 v hS9 fr9 v0 v1 => ?_⟩
    have hG9 := hG8.fr hS8 fr9
    have hP9 := hP8.tk (Tk.fr fr9 hS8)
    have fr79 := fr78.trans fr9
    have jv : v.toNat < G.length := by omega
    obtain ⟨qs, ob, od, eg, eG, mg⟩ := id hG9
    have jq : v.toNat < qs.length := by rw [eG, List.length_map] at jv; exact jv
    have atv : atI (qs.map fun q => V.ref q.1) v = some (.ref qs[v.toNat].1) := by
      have := atI_nat (xs := qs.map fun q => V.ref q.1) (j := v.toNat) (v := V.ref qs[v.toNat].1) (by rw [List.getElem?_map, List.getElem?_eq_getElem jq]; rfl)
      rw [show ((v.toNat : Nat) : Int) = v by omega] at this
      exact this
    have eg9 := SqT.of (K := K) (mg _ (List.getElem_mem jq))
    obtain ⟨qd9, eh9⟩ := (hH.fr hS fr79).room0
    refine ⟨_, rfl, _, rfl, g, _, _, _, rfl, rfl, .inl (.inr ⟨_, eg⟩), atv, qs[v.toNat].1, _, _, _, rfl, rfl, eg9, atI0, _, rfl, _, rfl, h, _, _, _, rfl, rfl, SqT.of eh9, atI0, s, A, B, _, n, rfl, hS9, by omega, by omega, by omega, fun H10 d hS10 fr10 d0 d1 => ⟨by show 2 ≤ sizeLine; decide, fun t1 ht1 => ?_⟩⟩
    have fr11 := (fr79.trans fr10).trans (Fr.of (same_upd (o := .tup [.str qs[v.toNat].2.1, .int d]) ht1))
    have hS11 := hS10.same (same_upd (o := .tup [.str qs[v.toNat].2.1, .int d]) ht1)
    have hG11 := (hG9.fr hS9 fr10).same (same_upd (o := .tup [.str qs[v.toNat].2.1, .int d]) ht1)
    have hP11 := (hP9.tk (Tk.fr fr10 hS9)).same (same_upd (o := .tup [.str qs[v.toNat].2.1, .int d]) ht1)
    have et1 : (upd H10 t1 (.tup [.str qs[v.toNat].2.1, .int d])) t1 = some (.tup [.str qs[v.toNat].2.1, .int d]) := upd_same
    generalize upd H10 t1 (.tup [.str qs[v.toNat].2.1, .int d]) = H11 at *
    have eGv : G[v.toNat]? = some qs[v.toNat].2 := by rw [eG, List.getElem?_map, List.getElem?_eq_getElem jq]; rfl
    generalize hq0 : qs[v.toNat] = q0 at *
    have i1 : HT.sIx G.length 0 none = 0 := rfl
    have i2 : HT.sIx G.length G.length (some v) = v.toNat := by
      unfold HT.sIx
      dsimp only
      rw [if_neg (by omega)]
      omega
    have i3 : HT.sIx G.length 0 (some (v + 1)) = v.toNat + 1 := by
      unfold HT.sIx
      dsimp only
      rw [if_neg (by omega)]
      omega
    have i4 : HT.sIx G.length G.length none = G.length := rfl
    refine ⟨_, rfl, _, rfl, _, rfl, _, rfl, g, G, rfl, hG11, by omega, by rw [i1, i2]; omega, fun H12 g1 s12 hg1 => ?_⟩
    rw [i1, i2, Nat.sub_zero, List.drop_zero] at hg1
    refine ⟨_, rfl, by show 1 ≤ sizeLine; decide, fun t2 ob2 ht2 od2 => ?_⟩
    have s13 := same_upd (o := .frz ob2 (.tup [.ref t1])) ht2
    have h2 : PlD (upd H12 t2 (.frz ob2 (.tup [.ref t1]))) t2 [(q0.2.1, d)] := ⟨[(t1, q0.2.1, d)], ob2, od2, upd_same, rfl, fun z hz => by
      rw [List.mem_singleton.mp hz]
      exact s13 _ _ (s12 _ _ et1)⟩
    refine ⟨g1, t2, G.take v.toNat, [(q0.2.1, d)], rfl, rfl, hg1.same s13, h2, by rw [List.length_take]; simp; omega, fun H14 g3 s14 hg3 => ?_⟩
    have s1114 := s12.trans (s13.trans s14)
    refine ⟨_, rfl, _, rfl, _, _, rfl, rfl, _, rfl, g, G, rfl, hG11.same s1114, by omega, by rw [i3]; omega, fun H15 g4 s15 hg4 => ?_⟩
    rw [i3, i4, List.take_of_length_le (by rw [List.length_drop]; exact Nat.le_refl _)] at hg4
    have lg3 : (G.take v.toNat ++ [(q0.2.1, d)]).length + (G.drop (v.toNat + 1)).length ≤ 1000 := by
      rw [List.length_append, List.length_take, List.length_drop, List.length_singleton]
      omega
    refine ⟨g3, g4, _, _, rfl, rfl, hg3.same s15, hg4, lg3, fun H16 g5 s16 hg5 => ⟨by show 2 ≤ sizeLine; decide, fun l hl => ?_⟩⟩
    have sL := same_upd (o := .lst [.ref l6, .ref g5]) hl
    have sE := (s1114.trans (s15.trans s16)).trans sL
    have split : G = G.take v.toNat ++ q0.2 :: G.drop (v.toNat + 1) := by
      have h0 := (List.getElem?_eq_some_iff.mp eGv)
      obtain ⟨hlt, he⟩ := h0
      rw [← he, List.getElem_cons_drop, List.take_append_drop]
    have nmG' : ((G.take v.toNat ++ [(q0.2.1, d)]) ++ G.drop (v.toNat + 1)).map (·.1) = PP.map (·.1) := by
      rw [← nmG]
      conv => rhs; rw [split]
      simp
    refine q _ l l6 g5 PP _ ((hS11.same sE).mono (by omega)) (fr11.trans (Fr.of sE)) upd_same (hP11.same sE) pl (by omega) (by rw [rmP]; exact up1) (hg5.same sL) ⟨by rw [nmG']; exact pl.nm, fun x hx => ?_⟩ nmG'
    rcases List.mem_append.mp hx with hx | hx
    · rcases List.mem_append.mp hx with hx | hx
      · exact plG.rm x (List.mem_of_mem_take hx)
      · rw [List.mem_singleton.mp hx]
        exact ⟨d0, d1⟩
    · exact plG.rm x (List.mem_of_mem_drop hx)
end
end Fw
set_option maxHeartbeats 2000000
namespace Fw
open PySem PySem.Spec PyProof.Rows L2
/-! where pieces come from (math) -/
theorem Wk.doors {D D' : List (Int × Int)} {R : List Int} {a b : Int} (h : Wk D R a b) (m : ∀ x y, adj D x y → adj D' x y) : Wk D' R a b := by
  induction h with
  | base => exact .base
  | step _ ad mo ih => exact .step ih (m _ _ ad) mo
theorem Wk.wider {D : List (Int × Int)} {R R' : List Int} {a b : Int} (h : Wk D R a b) (m : ∀ x ∈ R, x ∈ R') : Wk D R' a b := by
  induction h with
  | base => exact .base
  | step _ ad mo ih => exact .step ih ad (m _ mo)
/-- a forest has fewer doors than rooms; with one less only, it is connected -/
theorem Grown.conn {U : List Int} {E : List (Int × Int)} (g : Grown U E) : (U = [] → E = []) ∧ (U ≠ [] → E.length + 1 ≤ U.length) ∧ (E.length + 1 = U.length → ∀ a ∈ U, ∀ b ∈ U, Wk E U a b) := by
  induction g with
  | nil => exact ⟨fun _ => rfl, fun h => absurd rfl h, fun _ a ha => nomatch ha⟩
  | @room U E v g nv ih =>
    obtain ⟨i0, i1, i2⟩ := ih
    refine ⟨fun h => (nomatch h), fun _ => ?_, fun e a ha b hb => ?_⟩
    · by_cases z : U = []
      · rw [i0 z, z]
        exact Nat.le_refl _
      · have := i1 z
        rw [List.length_cons]
        omega
    · by_cases z : U = []
      · rw [z] at ha hb
        rw [List.mem_singleton.mp ha, List.mem_singleton.mp hb]
        exact .base
      · have := i1 z
        rw [List.length_cons] at e
        omega
  | @door U E v u a b g nv mu e ih =>
    obtain ⟨i0, i1, i2⟩ := ih
    have z : U ≠ [] := fun z => by rw [z] at mu; cases mu
    have i1 := i1 z
    refine ⟨fun h => (nomatch h), fun _ => ?_, fun ee x hx y hy => ?_⟩
    · rw [List.length_cons, List.length_cons]
      omega
    · rw [List.length_cons, List.length_cons] at ee
      have i2 := i2 (by omega)
      have up : ∀ x y, adj E x y → adj ((a, b) :: E) x y := fun x y h => h.imp (List.mem_cons_of_mem _) (List.mem_cons_of_mem _)
      have uv : adj ((a, b) :: E) u v := by
        rcases minmax u v a b e with ⟨rfl, rfl, _⟩ | ⟨rfl, rfl, _⟩
        · exact .inl (List.mem_cons_self ..)
        · exact .inr (List.mem_cons_self ..)
      have old : ∀ x ∈ U, ∀ y ∈ U, Wk ((a, b) :: E) (v :: U) x y := fun x hx y hy => ((i2 x hx y hy).doors up).wider fun z hz => List.mem_cons_of_mem _ hz
      have to : ∀ x ∈ U, Wk ((a, b) :: E) (v :: U) x v := fun x hx => .step (old x hx u mu) uv (List.mem_cons_self ..)
      have from' : ∀ y ∈ U, Wk ((a, b) :: E) (v :: U) v y := fun y hy => (Wk.step .base (adj_symm uv) (List.mem_cons_of_mem _ mu)).trans (old u mu y hy)
      rcases List.mem_cons.mp hx with rfl | hx' <;> rcases List.mem_cons.mp hy with rfl | hy'
      · exact .base
      · exact from' y hy'
      · exact to x hx'
      · exact old x hx' y hy'
theorem Grown.nodupU {U : List Int} {E : List (Int × Int)} (g : Grown U E) : U.Nodup := by
  induction g with
  | nil => exact List.nodup_nil
  | room v g nv ih => exact List.nodup_cons.mpr ⟨nv, ih⟩
  | door v u a b g nv mu e ih => exact List.nodup_cons.mpr ⟨nv, ih⟩
theorem same_len {xs ys : List Int} (nx : xs.Nodup) (ny : ys.Nodup) (h : ∀ x, x ∈ xs ↔ x ∈ ys) : xs.length = ys.length :=
  Nat.le_antisymm (subset_len nx fun x hx => (h x).mp hx) (subset_len ny fun x hx => (h x).mpr hx)
/-- a house with one door less than rooms is connected -/
theorem Forest.conn {n : Int} {D : List (Int × Int)} (f : Forest n D) (e : D.length + 1 = n.toNat) : ∀ a ∈ rg n, ∀ b ∈ rg n, Wk D (rg n) a b := by
  obtain ⟨U, E, g, mu, pm, _, _⟩ := f
  have l1 : U.length = n.toNat := by
    rw [← rg_len n]
    exact same_len g.nodupU (rg_nodup n) fun x => by rw [mu, mem_rg]
  have l2 := pm.length_eq
  intro a ha b hb
  have := g.conn.2.2 (by omega) a ((mu a).mpr (mem_rg.mp ha)) b ((mu b).mpr (mem_rg.mp hb))
  refine (this.doors fun x y h => ?_).wider fun x hx => mem_rg.mpr ((mu x).mp hx)
  rw [adj_perm pm]
  exact h
/-- the whole of a full house -/
theorem Pce.whole {n : Int} {D : List (Int × Int)} {P G : List (Str × Int)} (f : Forest n D) (e : D.length + 1 = n.toNat) (pm : (P.map (·.2)).Perm (rg n)) (pl : Pl n P) (plG : Pl n G) : Pce D P G (rg n) := by
  refine ⟨rg_up n, fun r hr => ?_, f.conn e, fun nm c t _ _ m => mem_rg.mpr (plG.rm _ m)⟩
  obtain ⟨x, hx, rfl⟩ := List.mem_map.mp (pm.mem_iff.mpr hr)
  refine ⟨x.1, hx, fun nm' m => ?_⟩
  have nd : (P.map (·.2)).Nodup := pm.nodup_iff.mpr (rg_nodup n)
  exact congrArg Prod.fst (map_inj nd m hx rfl)
where
  map_inj {α β : Type} {f : α → β} : ∀ {xs : List α}, (xs.map f).Nodup → ∀ {x y : α}, x ∈ xs → y ∈ xs → f x = f y → x = y
    | [], _, _, _, h, _, _ => nomatch h
    | z :: xs, nd, x, y, hx, hy, e => by
      rw [List.map_cons, List.nodup_cons] at nd
      rcases List.mem_cons.mp hx with e1 | hx' <;> rcases List.mem_cons.mp hy with e2 | hy'
      · rw [e1, e2]
      · exact absurd (by rw [← e1, e]; exact List.mem_map_of_mem hy') nd.1
      · exact absurd (by rw [← e2, ← e]; exact List.mem_map_of_mem hx') nd.1
      · exact map_inj nd.2 hx' hy' e
/-- two of a list with the same mark: one may go and the mark stays -/
theorem mark_stays {α β : Type} [DecidableEq β] {f : α → β} : ∀ {xs : List α}, ∀ {x y : α}, x ∈ xs → y ∈ xs → x ≠ y → f x = f y → f x ∈ (xs.map f).erase (f x)
  | [], _, _, h, _, _, _ => nomatch h
  | z :: xs, x, y, hx, hy, ne, e => by
    rw [List.map_cons]
    by_cases ez : f z = f x
    · rw [← ez, List.erase_cons_head, ez]
      rcases List.mem_cons.mp hx with rfl | hx
      · rcases List.mem_cons.mp hy with rfl | hy
        · exact absurd rfl ne
        · rw [e]; exact List.mem_map_of_mem hy
      · exact List.mem_map_of_mem hx
    · rw [List.erase_cons_tail (by simpa using ez)]
      have hx : x ∈ xs := (List.mem_cons.mp hx).resolve_left fun h => ez (by rw [h])
      have hy : y ∈ xs := (List.mem_cons.mp hy).resolve_left fun h => ez (by rw [← h, e])
      exact List.mem_cons_of_mem _ (mark_stays hx hy ne e)
/-- as many people as rooms, nobody missing: one in each -/
theorem tight_one {P : List (Str × Int)} {C : List Int} (nd : C.Nodup) (occ : ∀ r ∈ C, r ∈ P.map (·.2)) (ti : (inside P C).length = C.length) {r : Int} (rC : r ∈ C) {a b : Str} (ha : (a, r) ∈ P) (hb : (b, r) ∈ P) : a = b := by
  refine Classical.byContradiction fun ne => ?_
  have ll : ((P.filter fun x => decide (x.2 ∈ C)).map (·.2)).length = C.length := by
    unfold inside at ti
    rw [List.length_map] at ti ⊢
    exact ti
  have fa : (a, r) ∈ P.filter fun x => decide (x.2 ∈ C) := List.mem_filter.mpr ⟨ha, decide_eq_true rC⟩
  have fb : (b, r) ∈ P.filter fun x => decide (x.2 ∈ C) := List.mem_filter.mpr ⟨hb, decide_eq_true rC⟩
  have st : r ∈ ((P.filter fun x => decide (x.2 ∈ C)).map (·.2)).erase r := mark_stays (f := fun x : Str × Int => x.2) fa fb (fun e => ne (congrArg Prod.fst e)) rfl
  have all : ∀ x ∈ C, x ∈ ((P.filter fun x => decide (x.2 ∈ C)).map (·.2)).erase r := fun x hx => by
    by_cases e : x = r
    · rw [e]; exact st
    · refine (List.mem_erase_of_ne e).mpr ?_
      obtain ⟨y, hy, rfl⟩ := List.mem_map.mp (occ x hx)
      exact List.mem_map_of_mem (f := fun x : Str × Int => x.2) (List.mem_filter.mpr ⟨hy, show decide (y.2 ∈ C) = true from decide_eq_true hx⟩)
  have := subset_len nd all
  rw [List.length_erase_of_mem (List.mem_map_of_mem (f := (·.2)) fa), ll] at this
  have := List.length_pos_of_mem rC
  omega
/-- a tight region in which nobody is outside is a piece -/
theorem Pce.region {n : Int} {D : List (Int × Int)} {P G : List (Str × Int)} {Ls : List (List Int)} {C : List Int} (pl : Pl n P) (ndG : (G.map (·.1)).Nodup) (sub : ∀ x ∈ P.map (·.1), x ∈ G.map (·.1)) (rg : Regs D (occ n P) Ls) (hC : C ∈ Ls) (ti : (inside P C).length = C.length) (inn : ∀ nm c t, (nm, c) ∈ P → c ∈ C → (nm, t) ∈ G → t ∈ C) : Pce D P G C := by
  obtain ⟨s, hs, ic⟩ := (rg.mem C).mp hC
  have oc : ∀ r ∈ C, r ∈ P.map (·.2) := fun r hr => pl.mem_occ.mp (ic.sub' hs hr)
  refine ⟨ic.up, fun r hr => ?_, fun a ha b hb => ?_, inn⟩
  · obtain ⟨x, hx, rfl⟩ := List.mem_map.mp (oc r hr)
    exact ⟨x.1, hx, fun nm' m => tight_one (up_nodup ic.up) oc ti hr m hx⟩
  · exact (ic.closed ha ((((ic.mem a).mp ha).symm hs).trans ((ic.mem b).mp hb))).1
open Classical in
theorem ctb_in {n : Int} {D : List (Int × Int)} {P G : List (Str × Int)} {Ls : List (List Int)} {C : List Int} (pl : Pl n P) (ndG : (G.map (·.1)).Nodup) (rg : Regs D (occ n P) Ls) (hC : C ∈ Ls) (h : ctb D n P G C = true) : ∀ nm c t, (nm, c) ∈ P → c ∈ C → (nm, t) ∈ G → t ∈ C := by
  obtain ⟨s, hs, ic⟩ := (rg.mem C).mp hC
  obtain ⟨_, ct⟩ := ctb_iff.mp h
  intro nm c t h1 h2 h3
  refine Classical.byContradiction fun no => ct nm (mem_inside' h1 h2) ?_
  unfold outp
  refine List.mem_map.mpr ⟨(nm, c), List.mem_filter.mpr ⟨h1, decide_eq_true fun t' m w => no ?_⟩, rfl⟩
  have e : t' = t := congrArg Prod.snd (key_uniq ndG m h3 rfl)
  rw [← e]
  exact (ic.mem t').mpr (((ic.mem c).mp h2).trans w)
end Fw
namespace Fw
open PySem PySem.Spec PyProof.Rows L2
theorem le_sz {n : Nat} (h : n ≤ 100) : n ≤ sizeLine := Nat.le_trans h (by decide)
theorem rd_sm {H H1 : Hp} (s : Same H H1) {a : Addr} {o : HO} (h : Rd H a o) : Rd H1 a o := by
  rcases h with e | ⟨ob, e⟩
  · exact .inl (s _ _ e)
  · exact .inr ⟨ob, s _ _ e⟩
theorem sqL_sm {K : PySem.W.Frag} {H H1 : Hp} (s : Same H H1) {a : Addr} {xs : List V} (h : SqL K H a xs) : SqL K H1 a xs := by
  rcases h with e | e
  · exact .inl (rd_sm s e)
  · exact .inr e
theorem sqT_sm {K : PySem.W.Frag} {H H1 : Hp} (s : Same H H1) {a : Addr} {xs : List V} (h : SqT K H a xs) : SqT K H1 a xs := by
  rcases h with e | e
  · exact .inl (rd_sm s e)
  · exact .inr e
theorem same_put8 {H H8 : Hp} (s : Same H H8) {D : Addr} {o : HO} (hD : H D = none) : Same H (upd H8 D o) := fun b u e => by
  rw [upd_ne (ne_of_none e hD)]
  exact s b u e
def datas : List PyData := [.none, .bool true, .bool false, .int 0, .int 1, .int (-1), .int 9, .int (10 ^ (59 : Int).toNat), .str "", .str "a", .str "A", .str "a1", .str "abcdefghi", .tuple [], .list [], .dict [], .tuple [.int 0], .tuple [.int 1, .int 0], .list [.int 0, .int 1],
  .tuple [.int 0, .int 0], .tuple [.int 0, .int 1, .int 2], .tuple [.tuple [.int 0, .int 1]], .tuple [.str "a", .int 0], .str "a b", .tuple [.tuple [.str "a", .int 0]]]
abbrev nRand : List Str := ["_law_stream_here", "_law_some"]
end Fw
set_option maxHeartbeats 2000000
namespace Fw
open PySem PySem.Spec PyProof.Rows L2
/-! any value of the laws: data, with {} as a leaf; no list of it is sys.modules or among av -/
mutual
inductive Dx (K : PySem.W.Frag) (av : List Addr) (H : Hp) : V → PyData → Prop
  | non : Dx K av H .non .none
  | bl (b : Bool) : Dx K av H (.bl b) (.bool b)
  | int (i : Int) : Dx K av H (.int i) (.int i)
  | str (x : Str) : Dx K av H (.str x) (.str x)
  | lst {a : Addr} {xs : List V} {ds : List PyData} : SqL K H a xs → a ∉ sysModules :: av → DxAll K av H xs ds → Dx K av H (.ref a) (.list ds)
  | tup {a : Addr} {xs : List V} {ds : List PyData} : SqT K H a xs → DxAll K av H xs ds → Dx K av H (.ref a) (.tuple ds)
  | dct {a : Addr} : H a = some (.dK []) → Dx K av H (.ref a) (.dict [])
inductive DxAll (K : PySem.W.Frag) (av : List Addr) (H : Hp) : List V → List PyData → Prop
  | nil : DxAll K av H [] []
  | cons {v : V} {vs : List V} {d : PyData} {ds : List PyData} : Dx K av H v d → DxAll K av H vs ds → DxAll K av H (v :: vs) (d :: ds)
end
mutual
theorem dx_sm {K : PySem.W.Frag} {av : List Addr} {H H1 : Hp} (s : Same H H1) : ∀ {v : V} {d : PyData}, Dx K av H v d → Dx K av H1 v d
  | _, _, .non => .non
  | _, _, .bl b => .bl b
  | _, _, .int i => .int i
  | _, _, .str x => .str x
  | _, _, .lst h n a => .lst (sqL_sm s h) n (dxA_sm s a)
  | _, _, .tup h a => .tup (sqT_sm s h) (dxA_sm s a)
  | _, _, .dct e => .dct (s _ _ e)
theorem dxA_sm {K : PySem.W.Frag} {av : List Addr} {H H1 : Hp} (s : Same H H1) : ∀ {v : List V} {d : List PyData}, DxAll K av H v d → DxAll K av H1 v d
  | _, _, .nil => .nil
  | _, _, .cons h a => .cons (dx_sm s h) (dxA_sm s a)
end
theorem rd_fr {s A B : Addr} {c : Nat} {H H1 : Hp} (hS : StreamAt H s A B c) (f : Fr s A H H1) {a : Addr} {xs : List V} (h : Rd H a (.tup xs)) : Rd H1 a (.tup xs) := by
  obtain ⟨big, cells, cnt, h1, h2, h3, _⟩ := hS.ex
  rcases h with e | ⟨ob, e⟩
  · exact .inl (f _ _ (ne_of e h1 (by intro q; cases q)) (ne_of e h2 (by intro q; cases q)) e)
  · exact .inr ⟨ob, f _ _ (ne_of e h1 (by intro q; cases q)) (ne_of e h2 (by intro q; cases q)) e⟩
mutual
theorem dx_fr {K : PySem.W.Frag} {s A B : Addr} {c : Nat} {H H1 : Hp} (hS : StreamAt H s A B c) (f : Fr s A H H1) : ∀ {v : V} {d : PyData}, Dx K [s, A] H v d → Dx K [s, A] H1 v d
  | _, _, .non => .non
  | _, _, .bl b => .bl b
  | _, _, .int i => .int i
  | _, _, .str x => .str x
  | _, _, .lst (a := a) h n t => .lst (by
      have n1 : a ≠ s := fun z => n (by simp [z])
      have n2 : a ≠ A := fun z => n (by simp [z])
      rcases h with (e | ⟨ob, e⟩) | e
      · exact .inl (.inl (f _ _ n1 n2 e))
      · exact .inl (.inr ⟨ob, f _ _ n1 n2 e⟩)
      · exact .inr e) n (dxA_fr hS f t)
  | _, _, .tup h t => .tup (by
      rcases h with e | e
      · exact .inl (rd_fr hS f e)
      · exact .inr e) (dxA_fr hS f t)
  | _, _, .dct e => .dct (by
      obtain ⟨big, cells, cnt, h1, h2, h3, _⟩ := hS.ex
      exact f _ _ (ne_of e h1 (by intro q; cases q)) (ne_of e h2 (by intro q; cases q)) e)
theorem dxA_fr {K : PySem.W.Frag} {s A B : Addr} {c : Nat} {H H1 : Hp} (hS : StreamAt H s A B c) (f : Fr s A H H1) : ∀ {v : List V} {d : List PyData}, DxAll K [s, A] H v d → DxAll K [s, A] H1 v d
  | _, _, .nil => .nil
  | _, _, .cons h t => .cons (dx_fr hS f h) (dxA_fr hS f t)
end
section
variable {X : Cx} {av : List Addr} {pins : List (Addr × Obj)} {σ : L2.St} {H : Hp} {s : Shared}
mutual
theorem dx_reads (I : Inv X pins σ H s) : ∀ {v : V} {d : PyData} {u : Value}, Dx X.K av H v d → RelV v u → ∃ as, Reads s.heap u d as ∧ sysModules ∉ as
  | _, _, _, .non, r => by
    cases r
    exact ⟨_, .none, fun z => nomatch z⟩
  | _, _, _, .bl b, r => by
    cases r
    exact ⟨_, .bool b, fun z => nomatch z⟩
  | _, _, _, .int i, r => by
    obtain ⟨t, rfl⟩ := r
    exact ⟨_, .int i t, fun z => nomatch z⟩
  | _, _, _, .str x, r => by
    obtain ⟨t, rfl⟩ := r
    exact ⟨_, .str x t, fun z => nomatch z⟩
  | _, _, _, .lst h n a, r => by
    cases r
    obtain ⟨its, rv, ⟨ob, k, ho, hc, _, hd⟩, _⟩ := I.list h
    obtain ⟨as, ra, na⟩ := dxA_reads I a rv
    refine ⟨_, .list ho hc hd ra, fun z => ?_⟩
    rcases List.mem_cons.mp z with e | e
    · exact n (e ▸ List.mem_cons_self)
    · exact na e
  | _, _, _, .tup h a, r => by
    cases r
    obtain ⟨its, rv, ⟨ob, ho, hc, k, hd⟩, _⟩ := I.tuple h
    obtain ⟨as, ra, na⟩ := dxA_reads I a rv
    exact ⟨_, .tuple ho hc hd ra, na⟩
  | _, _, _, .dct (a := a) e, r => by
    cases r
    obtain ⟨_, y, vs, kv, o, es, ep, ho, hx, hd, _, hp, _⟩ := (show ObjOk X.prog X.w H s.heap a (.dK []) from I.hok a _ e)
    cases kv
    have e0 : es.toList = [] := by
      generalize es.toList = l at hp
      cases hp
      rfl
    refine ⟨_, Reads.dict (kvs := []) ho hx.1 hd (by rw [e0]; exact .nil) (by rw [e0]; exact .nil), fun z => ?_⟩
    have z' : sysModules ∈ [a] := z
    rw [List.mem_singleton.mp z'] at y
    simp at y
theorem dxA_reads (I : Inv X pins σ H s) : ∀ {vs : List V} {ds : List PyData} {us : List Value}, DxAll X.K av H vs ds → Vals vs us → ∃ as, ReadsAll s.heap us ds as ∧ sysModules ∉ as
  | _, _, _, .nil, r => by
    cases r
    exact ⟨_, .nil, fun z => nomatch z⟩
  | _, _, _, .cons h t, r => by
    cases r with
    | cons r1 r2 =>
      obtain ⟨as, q1, n1⟩ := dx_reads I h r1
      obtain ⟨bs, q2, n2⟩ := dxA_reads I t r2
      exact ⟨_, .cons q1 q2, fun z => (List.mem_append.mp z).elim n1 n2⟩
end
/-- repr of such a value that lies in memory -/
def rReprD (K : PySem.W.Frag) (av : List Addr) : List V → Hp → VK → Prop := fun vs H Q => ∃ (a : Addr) (d : PyData), vs = [.ref a] ∧ Dx K av H (.ref a) d ∧ d.showable = true ∧ d.depth ≤ 60 ∧ d.shown.length ≤ sizeLine ∧ Q (.str d.shown) H
theorem call_reprD {X : Cx} (hg : X.A.guards = some []) (hu : X.A.units + 65 < cLine) : CallR X (.builtin "repr") (rReprD X.K av) := by
  intro pn sh σ H vs us Q J rr hh
  obtain ⟨a, d, rfl, hd, hs, hp, hz, q⟩ := hh
  obtain ⟨ua, rfl, ra⟩ := vals1 rr
  cases (show ua = Value.ref a from ra)
  obtain ⟨as, rd, nn⟩ := dx_reads J hd rfl
  exact repr_of_reads' rd hs (fun _ => nn) hg (by omega) (fun _ _ e => e) (fun h' t tk hk => ⟨.str _, H, J.kept hk, ⟨_, rfl⟩, q⟩) hz
end
end Fw
set_option maxHeartbeats 2000000
namespace Fw
open PySem PySem.Spec PyProof.Rows L2
open RZ
section
variable {X : Cx} {av : List Addr}
/-- repr of any value -/
def rReprV (K : PySem.W.Frag) (av : List Addr) : List V → Hp → VK → Prop := fun vs H Q => ∃ (v : V) (d : PyData), vs = [v] ∧ Dx K av H v d ∧ d.showable = true ∧ d.depth ≤ 60 ∧ d.shown.length ≤ sizeLine ∧ Q (.str d.shown) H
theorem call_reprV (hg : X.A.guards = some []) (hu : X.A.units + 65 < cLine) : CallR X (.builtin "repr") (rReprV X.K av) := by
  intro pn sh σ H vs us Q J rr hh
  obtain ⟨v, d, rfl, hd, hs, hp, hz, q⟩ := hh
  cases hd with
  | non =>
    obtain ⟨u, rfl, ru⟩ := vals1 rr
    cases (show u = Value.none from ru)
    exact PySem.P.repr_of_none ⟨.str "None", H, J.tok _, ⟨_, rfl⟩, q⟩
  | bl b =>
    obtain ⟨u, rfl, ru⟩ := vals1 rr
    cases (show u = Value.bool b from ru)
    exact PySem.P.repr_of_bool ⟨.str _, H, J.tok _, ⟨_, rfl⟩, q⟩
  | int i =>
    obtain ⟨u, rfl, ru⟩ := vals1 rr
    obtain ⟨t, rfl⟩ := ru
    exact PySem.P.repr_of_int (of_decide_eq_true (by simpa only [PyData.showable] using hs)) ⟨.str _, H, J.tok _, ⟨_, rfl⟩, q⟩
  | str z =>
    obtain ⟨u, rfl, ru⟩ := vals1 rr
    obtain ⟨t, rfl⟩ := ru
    exact PySem.P.repr_of_str ⟨.str _, H, J.tok _, ⟨_, rfl⟩, q⟩ (by simpa only [PyData.shown] using hz)
  | lst h n a => exact call_reprD (av := av) hg hu pn sh σ H _ us Q J rr ⟨_, _, rfl, .lst h n a, hs, hp, hz, q⟩
  | tup h a => exact call_reprD (av := av) hg hu pn sh σ H _ us Q J rr ⟨_, _, rfl, .tup h a, hs, hp, hz, q⟩
  | dct e => exact call_reprD (av := av) hg hu pn sh σ H _ us Q J rr ⟨_, _, rfl, .dct e, hs, hp, hz, q⟩
end
theorem call_reprVK {X : Cx} {av : List Addr} {K : PySem.W.Frag} (hK : X.K = K) (hg : X.A.guards = some []) (hu : X.A.units + 65 < cLine) : CallR X (.builtin "repr") (rReprV K av) := by
  subst hK
  exact call_reprV hg hu
end Fw
set_option maxHeartbeats 4000000
namespace Fw
open PySem PySem.Spec PyProof.Rows L2
/-! certificates: there is one exactly where a piece is not solvable (math) -/
theorem Forest.adj_ne {n : Int} {D : List (Int × Int)} (f : Forest n D) {a b : Int} (h : Fw.adj D a b) : a ≠ b := fun e => by
  subst e
  rcases h with m | m <;> exact absurd (f.ends m).2.1 (Int.lt_irrefl _)
/-- two neighbours of a room are apart without it -/
theorem nb_apart {n : Int} {D : List (Int × Int)} (f : Forest n D) {R : List Int} {r a b : Int} (h1 : adj D r a) (h2 : adj D r b) (no : r ∉ R) (w : Wk D R a b) : a = b := by
  refine Classical.byContradiction fun ne => ?_
  obtain ⟨p, hp, ins⟩ := w.within
  have ra := f.adj_ne h1
  have rb := f.adj_ne h2
  have rp : r ∉ p := fun m => (ins r m).elim (fun e => ra e) no
  have two : SP (adj D) a b [a, r, b] := .cons (adj_symm h1) (.cons h2 (.one b) (by simpa using rb)) (by simpa using ⟨fun e => ra e.symm, ne⟩)
  have := f.uniq _ _ _ _ hp two
  rw [this] at rp
  exact rp (by simp)
open Classical in
noncomputable def comp (D : List (Int × Int)) (R : List Int) (s : Int) : List Int := R.filter fun v => decide (Wk D R s v)
open Classical in
theorem comp_is {D : List (Int × Int)} {R : List Int} {s : Int} (up : R.Pairwise (· < ·)) (hs : s ∈ R) : IsC D R s (comp D R s) := by
  refine ⟨up.filter _, fun v => ?_⟩
  unfold comp
  rw [List.mem_filter, decide_eq_true_eq]
  exact ⟨fun h => h.2, fun h => ⟨h.mem.elim (fun e => e ▸ hs) id, h⟩⟩
/-- a component of fewer rooms is one of more rooms, where nothing leads out -/
theorem IsC.stays {D : List (Int × Int)} {R R' : List Int} {s : Int} {L : List Int} (ic : IsC D R s L) (sub : ∀ x ∈ R, x ∈ R') (cl : ∀ v ∈ L, ∀ o ∈ R', adj D v o → o ∈ L) : IsC D R' s L := by
  refine ⟨ic.up, fun v => ⟨fun m => ((ic.mem v).mp m).wider sub, fun w => ?_⟩⟩
  induction w with
  | base => exact ic.has
  | step _ ad mo ih => exact cl _ ih _ mo ad
section
variable {n : Int} {D : List (Int × Int)} {P G : List (Str × Int)} {C : List Int}
/-- nobody in C wants r -/
def Unw (P G : List (Str × Int)) (C : List Int) (r : Int) : Prop := r ∈ C ∧ ∀ nm c t, (nm, c) ∈ P → c ∈ C → (nm, t) ∈ G → r ≠ t
/-- somebody in C passes r -/
def Psd (D : List (Int × Int)) (P G : List (Str × Int)) (C : List Int) (r : Int) : Prop := ∃ nm c t, (nm, c) ∈ P ∧ c ∈ C ∧ (nm, t) ∈ G ∧ pas D c t r
/-- a room that the person of r does not go to -/
def Bck (D : List (Int × Int)) (P G : List (Str × Int)) (C : List Int) (r v : Int) : Prop := v ∈ C ∧ adj D r v ∧ ¬ Ahd D P G r v
/-- C without some rooms -/
def wo (C Xs : List Int) : List Int := C.filter fun x => !decide (x ∈ Xs)
theorem mem_wo {C Xs : List Int} {x : Int} : x ∈ wo C Xs ↔ x ∈ C ∧ x ∉ Xs := by
  unfold wo
  rw [List.mem_filter, Bool.not_eq_true', decide_eq_false_iff_not]
theorem wo_up {C Xs : List Int} (h : C.Pairwise (· < ·)) : (wo C Xs).Pairwise (· < ·) := h.filter _
/-- the two conditions of a certificate -/
structure Cnd (D : List (Int × Int)) (P G : List (Str × Int)) (C : List Int) (B : List (Int × Int)) : Prop where
  no2 : ∀ r v, (r, v) ∈ B → (v, r) ∉ B
  out : ∀ s ∈ wo C (B.map (·.1)), ∀ I, IsC D (wo C (B.map (·.1))) s I → Stl P G I → ∃ b v o, (b, v) ∈ B ∧ v ∉ I ∧ o ∈ I ∧ adj D b o
/-- what the back rows of a certificate are -/
structure Crt (D : List (Int × Int)) (P G : List (Str × Int)) (C : List Int) (B : List (Int × Int)) : Prop where
  nd : (B.map (·.1)).Nodup
  ok : ∀ r v, (r, v) ∈ B → Unw P G C r ∧ Bck D P G C r v
  all : ∀ r, Unw P G C r → r ∉ B.map (·.1) → Psd D P G C r
  cnd : Cnd D P G C B
theorem fre_iff {r : Int} : r ∈ fre D P G C ↔ Unw P G C r ∧ ¬ Psd D P G C r := by
  constructor
  · intro h
    obtain ⟨h1, h2⟩ := fre_mem h
    exact ⟨⟨h1, fun nm c t a b c' => (h2 nm c t a b c').1⟩, fun ⟨nm, c, t, a, b, c', p⟩ => (h2 nm c t a b c').2 p⟩
  · rintro ⟨⟨h1, h2⟩, h3⟩
    exact mem_fre h1 fun nm c t a b c' => ⟨h2 nm c t a b c', fun p => h3 ⟨nm, c, t, a, b, c', p⟩⟩
theorem fst_one {B : List (Int × Int)} (nd : (B.map (·.1)).Nodup) {r v v' : Int} (h : (r, v) ∈ B) (k : (r, v') ∈ B) : v = v' := by
  induction B with
  | nil => cases h
  | cons x B ih =>
    rw [List.map_cons, List.nodup_cons] at nd
    rcases List.mem_cons.mp h with e | h' <;> rcases List.mem_cons.mp k with e' | k'
    · rw [← e] at e'
      exact (congrArg Prod.snd e').symm
    · exact absurd (by rw [← e]; exact List.mem_map_of_mem (f := (·.1)) k') nd.1
    · exact absurd (by rw [← e']; exact List.mem_map_of_mem (f := (·.1)) h') nd.1
    · exact ih nd.2 h' k'
theorem Sol.nil : Sol D P G [] := .still fun nm c t _ h => nomatch h
/-- no certificate where it is solvable -/
theorem crt_not (f : Forest n D) (ndG : (G.map (·.1)).Nodup) (sub : ∀ x ∈ P.map (·.1), x ∈ G.map (·.1)) (so : Sol D P G C) : ∀ {B : List (Int × Int)}, Pce D P G C → C ≠ [] → ¬ Crt D P G C B := by
  induction so with
  | @still C st =>
    intro B pc ne cr
    have nB : B = [] := by
      cases B with
      | nil => rfl
      | cons x B =>
        obtain ⟨⟨h1, h2⟩, _⟩ := cr.ok x.1 x.2 (List.mem_cons_self ..)
        obtain ⟨nm, m, _⟩ := pc.who _ h1
        obtain ⟨t, mt⟩ := key_val (sub nm (List.mem_map_of_mem (f := (·.1)) m))
        exact absurd (st nm _ t m h1 mt).symm (h2 nm _ t m h1 mt)
    subst nB
    obtain ⟨s, hs⟩ := List.exists_mem_of_ne_nil C ne
    have hw : s ∈ wo C (([] : List (Int × Int)).map (·.1)) := mem_wo.mpr ⟨hs, List.not_mem_nil⟩
    obtain ⟨b, v, o, h, _⟩ := cr.cnd.out s hw _ (comp_is (wo_up pc.up) hw) fun nm c t h1 h2 h3 => st nm c t h1 (mem_wo.mp ((comp_is (wo_up pc.up) hw).sub' hw h2)).1 h3
    cases h
  | @leave C r fr _ ih =>
    intro B pc ne cr
    obtain ⟨un, np⟩ := fre_iff.mp fr
    have rC := un.1
    have mB : r ∈ B.map (·.1) := Classical.byContradiction fun no => np (cr.all r un no)
    obtain ⟨⟨r', w⟩, hB, e⟩ := List.mem_map.mp mB
    obtain rfl : r' = r := e
    obtain ⟨_, wC, aw, nw⟩ := cr.ok r' w hB
    have wcut : w ∈ cut C r' := mem_cut.mpr ⟨wC, (f.adj_ne aw).symm⟩
    have rno : r' ∉ cut C r' := fun m => (mem_cut.mp m).2 rfl
    have ic := comp_is (D := D) (cut_up (r := r') pc.up) wcut
    generalize comp D (cut C r') w = L at ic
    have pcL := pc.cut fr wcut ic
    have subL : ∀ v ∈ L, v ∈ cut C r' := fun v m => ic.sub' wcut m
    have one : ∀ v ∈ L, adj D r' v → v = w := fun v m a => (nb_apart f aw a rno ((ic.mem v).mp m)).symm
    obtain ⟨nm0, t0, a, q, m1, m2, sp, aC⟩ := pc.ahead sub fr
    have ahd : Ahd D P G r' a := ⟨nm0, t0, q, m1, m2, sp⟩
    obtain ⟨nmr, mr, unr⟩ := pc.who r' rC
    -- the rooms of the way of the person of r
    have tail : ∀ x ∈ a :: q, Wk D (cut C r') a x := by
      intro x hx
      obtain ⟨p, hp, ins⟩ := (pc.con r' rC t0 (pc.tgt nm0 r' t0 m1 rC m2)).within
      have := f.uniq _ _ _ _ hp sp
      subst this
      cases sp with
      | @cons _ c _ _ ad sp' nin =>
        obtain ⟨q', hq'⟩ := sp'.hd
        injection hq' with hq1 hq2
        subst hq1
        obtain ⟨p2, hp2, sub2⟩ := sp'.upto hx
        refine hp2.walks fun z hz => ?_
        have hz' := sub2 z (List.mem_of_mem_tail hz)
        exact mem_cut.mpr ⟨(ins z (List.mem_cons_of_mem _ hz')).elim (fun e => e ▸ rC) id, fun e => nin (e ▸ hz')⟩
    have arr : adj D r' a := by
      cases sp with
      | @cons _ c _ _ ad sp' nin =>
        obtain ⟨q', hq'⟩ := sp'.hd
        injection hq' with hq1 hq2
        exact hq1 ▸ ad
    have aL : a ∉ L := fun m => nw (by rw [← one a m arr]; exact ahd)
    have off : ∀ x ∈ a :: q, x ∉ L := fun x hx m => by
      have acut : a ∈ cut C r' := mem_cut.mpr ⟨aC, (f.adj_ne arr).symm⟩
      exact aL ((ic.mem a).mpr (((ic.mem x).mp m).trans ((tail x hx).symm acut)))
    -- who wants or passes a room of L is in L
    have inL : ∀ nm c t u, (nm, c) ∈ P → c ∈ C → (nm, t) ∈ G → u ∈ L → (u = t ∨ pas D c t u) → c ∈ L := by
      intro nm c t u h1 h2 h3 hu h4
      by_cases ec : c = r'
      · subst ec
        obtain rfl : nm = nm0 := (unr nm h1).trans (unr nm0 m1).symm
        obtain rfl : t = t0 := congrArg Prod.snd (key_uniq ndG h3 m2 rfl)
        have ur : u ≠ c := (mem_cut.mp (subL u hu)).2
        rcases h4 with rfl | ⟨p, hp, mu, _, _⟩
        · have := sp.last
          rcases List.mem_cons.mp this with e | m
          · exact absurd e ur
          · exact absurd hu (off _ m)
        · have := f.uniq _ _ _ _ hp sp
          subst this
          rcases List.mem_cons.mp mu with e | m
          · exact absurd e ur
          · exact absurd hu (off _ m)
      · have hc : c ∈ cut C r' := mem_cut.mpr ⟨h2, ec⟩
        have ic' := comp_is (D := D) (cut_up (r := r') pc.up) hc
        have pc' := pc.cut fr hc ic'
        have cc := ic'.has
        have ct := pc'.con c cc t (pc'.tgt nm c t h1 cc h3)
        have uc : Wk D (cut C r') c u := by
          rcases h4 with rfl | ⟨p, hp, mu, _, _⟩
          · exact ct.wider fun x hx => ic'.sub' hc hx
          · obtain ⟨p', hp', ins⟩ := ct.within
            have := f.uniq _ _ _ _ hp hp'
            subst this
            exact (ic'.mem u).mp ((ins u mu).elim (fun e => e ▸ cc) id)
        exact (ic.mem c).mpr (((ic.mem u).mp hu).trans (uc.symm hc))
    refine ih w wcut L ic (fun b hb => ?_) (B := B.filter fun x => decide (x.1 ∈ L)) pcL (fun e => by rw [e] at ic; exact nomatch ic.has) ⟨?_, fun u v h => ?_, fun u hu no => ?_, ⟨fun u v h1 h2 => ?_, fun s hs I hI st => ?_⟩⟩
    · rw [pc.ahd_one f ndG rC hb ahd]
      exact aL
    · exact cr.nd.sublist ((List.filter_sublist ..).map _)
    · obtain ⟨hB', hu⟩ := List.mem_filter.mp h
      have hu : u ∈ L := of_decide_eq_true hu
      obtain ⟨⟨uC, uw⟩, vC, uv, nv⟩ := cr.ok u v hB'
      have ur := (mem_cut.mp (subL u hu)).2
      have vr : v ≠ r' := fun e => by
        subst e
        obtain rfl := one u hu (adj_symm uv)
        exact cr.cnd.no2 _ _ hB hB'
      refine ⟨⟨hu, fun nm c t h1 h2 h3 => uw nm c t h1 (mem_cut.mp (subL c h2)).1 h3⟩, ?_, uv, nv⟩
      exact (ic.mem v).mpr (.step ((ic.mem u).mp hu) uv (mem_cut.mpr ⟨vC, vr⟩))
    · obtain ⟨uL, uw⟩ := hu
      have uC := (mem_cut.mp (subL u uL)).1
      have uB : u ∉ B.map (·.1) := fun m => no (by
        obtain ⟨x, hx, e⟩ := List.mem_map.mp m
        exact List.mem_map.mpr ⟨x, List.mem_filter.mpr ⟨hx, decide_eq_true (by rw [e]; exact uL)⟩, e⟩)
      obtain ⟨nm, c, t, h1, h2, h3, h4⟩ := cr.all u ⟨uC, fun nm c t h1 h2 h3 e => uw nm c t h1 (inL nm c t u h1 h2 h3 uL (.inl e)) h3 e⟩ uB
      exact ⟨nm, c, t, h1, inL nm c t u h1 h2 h3 uL (.inr h4), h3, h4⟩
    · exact cr.cnd.no2 u v (List.mem_filter.mp h1).1 (List.mem_filter.mp h2).1
    · have sub1 : ∀ x ∈ wo L ((B.filter fun x => decide (x.1 ∈ L)).map (·.1)), x ∈ wo C (B.map (·.1)) := fun x hx => by
        obtain ⟨x1, x2⟩ := mem_wo.mp hx
        refine mem_wo.mpr ⟨(mem_cut.mp (subL x x1)).1, fun m => x2 ?_⟩
        obtain ⟨y, hy, e⟩ := List.mem_map.mp m
        exact List.mem_map.mpr ⟨y, List.mem_filter.mpr ⟨hy, decide_eq_true (by rw [e]; exact x1)⟩, e⟩
      have subI : ∀ v ∈ I, v ∈ L := fun v m => (mem_wo.mp (hI.sub' hs m)).1
      have hI' : IsC D (wo C (B.map (·.1))) s I := hI.stays sub1 fun v mv o mo ad => by
        obtain ⟨o1, o2⟩ := mem_wo.mp mo
        have or' : o ≠ r' := fun e => o2 (by rw [e]; exact mB)
        have oL : o ∈ L := (ic.mem o).mpr (.step ((ic.mem v).mp (subI v mv)) ad (mem_cut.mpr ⟨o1, or'⟩))
        refine (hI.mem o).mpr (.step ((hI.mem v).mp mv) ad (mem_wo.mpr ⟨oL, fun m => o2 ?_⟩))
        obtain ⟨y, hy, e⟩ := List.mem_map.mp m
        exact List.mem_map.mpr ⟨y, (List.mem_filter.mp hy).1, e⟩
      obtain ⟨b, v, o, h1, h2, h3, h4⟩ := cr.cnd.out s (sub1 s hs) I hI' st
      have br : b ≠ r' := fun e => by
        subst e
        have ow := one o (subI o h3) h4
        have vw : v = w := fst_one cr.nd h1 hB
        exact h2 (by rw [vw, ← ow]; exact h3)
      have bC := (cr.ok b v h1).1.1
      have bL : b ∈ L := (ic.mem b).mpr (.step ((ic.mem o).mp (subI o h3)) (adj_symm h4) (mem_cut.mpr ⟨bC, br⟩))
      exact ⟨b, v, o, List.mem_filter.mpr ⟨h1, decide_eq_true bL⟩, h2, h3, h4⟩
end
end Fw
set_option maxHeartbeats 4000000
namespace Fw
open PySem PySem.Spec PyProof.Rows L2
/-! a piece that is not solvable has a certificate (math) -/
section
variable {n : Int} {D : List (Int × Int)} {P G : List (Str × Int)} {C : List Int}
/-- a way back that leads to a part that is not solvable -/
structure Opt (D : List (Int × Int)) (P G : List (Str × Int)) (C : List Int) (r v : Int) : Prop where
  bck : Bck D P G C r v
  bad : ¬ Sol D P G (comp D (cut C r) v)
/-- the room by which a component hangs on r -/
theorem hangs (f : Forest n D) (con : ∀ a ∈ C, ∀ b ∈ C, Wk D C a b) {r s : Int} (rC : r ∈ C) (hs : s ∈ cut C r) : ∃ v ∈ cut C r, adj D r v ∧ Wk D (cut C r) v s := by
  obtain ⟨sC, sr⟩ := mem_cut.mp hs
  obtain ⟨p, hp, ins⟩ := (con r rC s sC).within
  cases hp with
  | one => exact absurd rfl sr
  | @cons _ v _ q ad hq nin =>
    have off : ∀ x ∈ q, x ∈ cut C r := fun x hx => mem_cut.mpr ⟨(ins x (List.mem_cons_of_mem _ hx)).elim (fun e => e ▸ rC) id, fun e => nin (e ▸ hx)⟩
    exact ⟨v, off v hq.head, ad, hq.walks fun x hx => off x (List.mem_of_mem_tail hx)⟩
/-- a free room of a part that is not solvable has a part behind it that is not -/
theorem not_lve {K : List Int} {r : Int} (no : ¬ Sol D P G K) (fr : r ∈ fre D P G K) : ∃ s ∈ cut K r, ∃ L, IsC D (cut K r) s L ∧ (∀ a, Ahd D P G r a → a ∉ L) ∧ ¬ Sol D P G L := by
  refine Classical.byContradiction fun h => no (.leave fr fun s hs L ic nx => Classical.byContradiction fun ns => h ⟨s, hs, L, ic, nx, ns⟩)
theorem fre_sub {K : List Int} {r : Int} (fr : r ∈ fre D P G C) (sub : ∀ x ∈ K, x ∈ C) (m : r ∈ K) : r ∈ fre D P G K := by
  obtain ⟨_, h⟩ := fre_mem fr
  exact mem_fre m fun nm c t a b c' => h nm c t a (sub c b) c'
/-- a part behind r, which is not solvable and not where its person goes, is a way back -/
theorem opt_of (f : Forest n D) (pc : Pce D P G C) {r s : Int} {L : List Int} (rC : r ∈ C) (hs : s ∈ cut C r) (ic : IsC D (cut C r) s L) (nx : ∀ a, Ahd D P G r a → a ∉ L) (ns : ¬ Sol D P G L) : ∃ v ∈ L, adj D r v ∧ Opt D P G C r v ∧ comp D (cut C r) v = L := by
  obtain ⟨v, vc, ad, w⟩ := hangs f pc.con rC hs
  have vL : v ∈ L := (ic.mem v).mpr (w.symm vc)
  have e : comp D (cut C r) v = L := (comp_is (cut_up pc.up) vc).one ⟨ic.up, fun x => (ic.mem x).trans ⟨fun h => w.trans h, fun h => (w.symm vc).trans h⟩⟩
  exact ⟨v, vL, ad, ⟨⟨(mem_cut.mp vc).1, ad, fun h => nx v h vL⟩, by rw [e]; exact ns⟩, e⟩
theorem opt_some (f : Forest n D) (pc : Pce D P G C) (no : ¬ Sol D P G C) {r : Int} (fr : r ∈ fre D P G C) : ∃ v, Opt D P G C r v := by
  obtain ⟨s, hs, L, ic, nx, ns⟩ := not_lve no fr
  obtain ⟨v, _, _, o, _⟩ := opt_of f pc (fre_mem fr).1 hs ic nx ns
  exact ⟨v, o⟩
/-- the least of them -/
theorem opt_least {α : Type} {p : α → Prop} (m : α → Nat) (h : ∃ x, p x) : ∃ x, p x ∧ ∀ y, p y → m x ≤ m y := by
  obtain ⟨x, hx⟩ := h
  generalize hk : m x = k
  induction k using Nat.strongRecOn generalizing x with
  | ind k ih =>
    by_cases z : ∃ y, p y ∧ m y < k
    · obtain ⟨y, hy, lt⟩ := z
      exact ih (m y) lt y hy rfl
    · exact ⟨x, hx, fun y hy => Nat.le_of_not_lt fun lt => z ⟨y, hy, by omega⟩⟩
/-- .. chosen for each room -/
theorem choice_list {p : Int → Int → Prop} : ∀ {rs : List Int}, (∀ r ∈ rs, ∃ v, p r v) → ∃ B : List (Int × Int), B.map (·.1) = rs ∧ ∀ x ∈ B, p x.1 x.2
  | [], _ => ⟨[], rfl, fun x hx => nomatch hx⟩
  | r :: rs, h => by
    obtain ⟨v, hv⟩ := h r (List.mem_cons_self ..)
    obtain ⟨B, e, hB⟩ := choice_list fun r' hr => h r' (List.mem_cons_of_mem _ hr)
    refine ⟨(r, v) :: B, by rw [List.map_cons, e], fun x hx => ?_⟩
    rcases List.mem_cons.mp hx with rfl | hx
    · exact hv
    · exact hB x hx
/-- what is chosen: the least part -/
structure Lst (D : List (Int × Int)) (P G : List (Str × Int)) (C : List Int) (r v : Int) : Prop where
  opt : Opt D P G C r v
  le : ∀ v', Opt D P G C r v' → (comp D (cut C r) v).length ≤ (comp D (cut C r) v').length
/-- two that name each other: one part would be less than the other, both ways -/
theorem lst_lt (f : Forest n D) (pc : Pce D P G C) {r s : Int} (fr : r ∈ fre D P G C) (fs : s ∈ fre D P G C) (a : Lst D P G C r s) (b : Lst D P G C s r) : (comp D (cut C s) r).length < (comp D (cut C r) s).length := by
  obtain ⟨sC, ars, _⟩ := a.opt.bck
  have rC := (fre_mem fr).1
  have scut : s ∈ cut C r := mem_cut.mpr ⟨sC, (f.adj_ne ars).symm⟩
  have ic := comp_is (D := D) (cut_up (r := r) pc.up) scut
  have bad := a.opt.bad
  generalize hK : comp D (cut C r) s = K at *
  have pcK := pc.cut fr scut ic
  have sK := ic.has
  have subK : ∀ v ∈ K, v ∈ cut C r := fun v m => ic.sub' scut m
  have one : ∀ v ∈ K, adj D r v → v = s := fun v m ad => (nb_apart f ars ad (fun m => (mem_cut.mp m).2 rfl) ((ic.mem v).mp m)).symm
  have fsK := fre_sub fs (fun x hx => (mem_cut.mp (subK x hx)).1) sK
  obtain ⟨u, hu, L, icL, nx, ns⟩ := not_lve bad fsK
  have icL' : IsC D (cut C s) u L := icL.stays (fun x hx => mem_cut.mpr ⟨(mem_cut.mp (subK x (mem_cut.mp hx).1)).1, (mem_cut.mp hx).2⟩) fun v mv o mo ad => by
    obtain ⟨oC, os⟩ := mem_cut.mp mo
    obtain ⟨vK, vs⟩ := mem_cut.mp (icL.sub' hu mv)
    have or' : o ≠ r := fun e => vs (one v vK (by rw [← e]; exact adj_symm ad))
    have oK : o ∈ K := (ic.mem o).mpr (.step ((ic.mem v).mp vK) ad (mem_cut.mpr ⟨oC, or'⟩))
    exact (icL.mem o).mpr (.step ((icL.mem v).mp mv) ad (mem_cut.mpr ⟨oK, os⟩))
  have hu' : u ∈ cut C s := mem_cut.mpr ⟨(mem_cut.mp (subK u (mem_cut.mp hu).1)).1, (mem_cut.mp hu).2⟩
  obtain ⟨v, _, _, o, e⟩ := opt_of f pc sC hu' icL' nx ns
  have h1 := b.le v o
  rw [e] at h1
  have h2 := up_len icL.up fun x hx => icL.sub' hu hx
  have h3 := cut_len sK
  omega
/-- no certificate is missing -/
theorem crt_some (f : Forest n D) (ndG : (G.map (·.1)).Nodup) (pc : Pce D P G C) (no : ¬ Sol D P G C) : ∃ B, B.map (·.1) = fre D P G C ∧ Crt D P G C B := by
  obtain ⟨B, e, hB⟩ := choice_list (p := Lst D P G C) (rs := fre D P G C) fun r fr => by
    obtain ⟨v, h1, h2⟩ := opt_least (fun v => (comp D (cut C r) v).length) (opt_some f pc no fr)
    exact ⟨v, h1, h2⟩
  have upF : (fre D P G C).Pairwise (· < ·) := pc.up.filter _
  have mB : ∀ {r v : Int}, (r, v) ∈ B → r ∈ fre D P G C := fun {r v} h => by rw [← e]; exact List.mem_map_of_mem (f := (·.1)) h
  refine ⟨B, e, ⟨by rw [e]; exact up_nodup upF, fun r v h => ?_, fun r u no' => ?_, ⟨fun r v h k => ?_, fun s hs I ic st => ?_⟩⟩⟩
  · exact ⟨(fre_iff.mp (mB h)).1, (hB _ h).opt.bck⟩
  · rw [e] at no'
    exact Classical.byContradiction fun np => no' (fre_iff.mpr ⟨u, np⟩)
  · have h1 := lst_lt f pc (mB h) (mB k) (hB _ h) (hB _ k)
    have h2 := lst_lt f pc (mB k) (mB h) (hB _ k) (hB _ h)
    omega
  · refine Classical.byContradiction fun con => ?_
    rw [e] at hs ic
    obtain ⟨sC, sf⟩ := mem_wo.mp hs
    have subI : ∀ v ∈ I, v ∈ C ∧ v ∉ fre D P G C := fun v m => mem_wo.mp (ic.sub' hs m)
    -- the back rooms beside I lead into I
    have into : ∀ b v o, (b, v) ∈ B → o ∈ I → adj D b o → v ∈ I := fun b v o h1 h2 h3 => Classical.byContradiction fun nv => con ⟨b, v, o, h1, nv, h2, h3⟩
    -- I leads out only by free rooms
    have leads : ∀ v ∈ I, ∀ o ∈ C, adj D v o → o ∉ fre D P G C → o ∈ I := fun v mv o oC ad nf => (ic.mem o).mpr (.step ((ic.mem v).mp mv) ad (mem_wo.mpr ⟨oC, nf⟩))
    have solI : Sol D P G I := .still st
    have beside : ∃ x : Int × Int, x ∈ B ∧ ∃ o ∈ I, adj D x.1 o := by
      refine Classical.byContradiction fun nb => no ?_
      have : C = I := by
        refine up_ext pc.up ic.up fun v => ⟨fun m => ?_, fun m => (subI v m).1⟩
        have w := pc.con s sC v m
        induction w with
        | base => exact ic.has
        | @step v' o k ad mo ih =>
          have mv' : v' ∈ I := ih (k.mem.elim (fun e => e ▸ sC) id)
          refine leads v' mv' o mo ad fun fo => nb ?_
          rw [← e] at fo
          obtain ⟨x, hx, ex⟩ := List.mem_map.mp fo
          exact ⟨x, hx, v', mv', by rw [ex]; exact adj_symm ad⟩
      rw [this]
      exact solI
    obtain ⟨⟨b, vb⟩, ⟨hb, o0, o0I, ab⟩, least⟩ := opt_least (p := fun x : Int × Int => x ∈ B ∧ ∃ o ∈ I, adj D x.1 o) (fun x => (comp D (cut C x.1) x.2).length) beside
    have vbI := into b vb o0 hb o0I ab
    have fb := mB hb
    have bC := (fre_mem fb).1
    have bI : b ∉ I := fun m => (subI b m).2 fb
    -- I lies in one part of C without a free room
    have inI : ∀ b' ∈ fre D P G C, ∀ x ∈ I, ∀ y ∈ I, Wk D (cut C b') x y := fun b' fb' x hx y hy => by
      have : Wk D (wo C (fre D P G C)) x y := (((ic.mem x).mp hx).symm hs).trans ((ic.mem y).mp hy)
      exact this.wider fun z hz => mem_cut.mpr ⟨(mem_wo.mp hz).1, fun e => (mem_wo.mp hz).2 (e ▸ fb')⟩
    have sI : s ∈ I := ic.has
    have vbcut : vb ∈ cut C b := mem_cut.mpr ⟨(subI vb vbI).1, fun e => bI (e ▸ vbI)⟩
    have scutb : s ∈ cut C b := mem_cut.mpr ⟨sC, fun e => bI (e ▸ sI)⟩
    have icb := comp_is (D := D) (cut_up (r := b) pc.up) vbcut
    have badb := (hB _ hb).opt.bad
    -- take the rooms beside I away, one by one
    have key : ∀ S : List Int, (∀ x ∈ S, x ∈ fre D P G C ∧ ∃ o ∈ I, adj D x o) → ∃ K, Pce D P G K ∧ IsC D (wo C (b :: S)) s K ∧ ¬ Sol D P G K ∧ K.length ≤ (comp D (cut C b) vb).length := by
      intro S
      induction S with
      | nil =>
        intro _
        have eq : wo C [b] = cut C b := by
          unfold wo cut
          refine List.filter_congr fun x _ => ?_
          congr 1
          rw [Bool.eq_iff_iff, decide_eq_true_eq, decide_eq_true_eq, List.mem_singleton]
        refine ⟨_, pc.cut fb vbcut icb, ?_, badb, Nat.le_refl _⟩
        rw [eq]
        have w := inI b fb vb vbI s sI
        exact ⟨icb.up, fun x => (icb.mem x).trans ⟨fun h => (w.symm vbcut).trans h, fun h => w.trans h⟩⟩
      | cons b' S ih =>
        intro hS
        obtain ⟨K, pcK, icK, badK, lK⟩ := ih fun x hx => hS x (List.mem_cons_of_mem _ hx)
        obtain ⟨fb', i', i'I, ai'⟩ := hS b' (List.mem_cons_self ..)
        by_cases old : b' ∈ b :: S
        · have eq : wo C (b :: b' :: S) = wo C (b :: S) := by
            unfold wo
            refine List.filter_congr fun x _ => ?_
            congr 1
            rw [Bool.eq_iff_iff, decide_eq_true_eq, decide_eq_true_eq]
            simp only [List.mem_cons]
            constructor
            · rintro (h | rfl | h)
              · exact .inl h
              · exact List.mem_cons.mp old
              · exact .inr h
            · rintro (h | h)
              · exact .inl h
              · exact .inr (.inr h)
          exact ⟨K, pcK, by rw [eq]; exact icK, badK, lK⟩
        have b'C := (fre_mem fb').1
        have swo : s ∈ wo C (b :: S) := mem_wo.mpr ⟨sC, fun m => by
          rcases List.mem_cons.mp m with rfl | m
          · exact bI sI
          · exact (subI s sI).2 (hS s (List.mem_cons_of_mem _ m)).1⟩
        have subK : ∀ x ∈ K, x ∈ wo C (b :: S) := fun x m => icK.sub' swo m
        have subKC : ∀ x ∈ K, x ∈ C := fun x m => (mem_wo.mp (subK x m)).1
        have allF : ∀ x ∈ b :: S, x ∈ fre D P G C ∧ ∃ o ∈ I, adj D x o := fun x m => by
          rcases List.mem_cons.mp m with rfl | m
          · exact ⟨fb, o0, o0I, ab⟩
          · exact hS x (List.mem_cons_of_mem _ m)
        have IK : ∀ x ∈ I, x ∈ K := fun x m => (icK.mem x).mpr (((ic.mem x).mp m).wider fun z hz => mem_wo.mpr ⟨(mem_wo.mp hz).1, fun m' => (mem_wo.mp hz).2 (allF z m').1⟩)
        have b'K : b' ∈ K := (icK.mem b').mpr (.step ((icK.mem i').mp (IK i' i'I)) (adj_symm ai') (mem_wo.mpr ⟨b'C, old⟩))
        have fb'K := fre_sub fb' subKC b'K
        obtain ⟨u, hu, L, icL, nx, ns⟩ := not_lve badK fb'K
        have pcL := pcK.cut fb'K hu icL
        have ll := up_len icL.up fun x hx => icL.sub' hu hx
        have lc := cut_len b'K
        by_cases sL : s ∈ L
        · refine ⟨L, pcL, ?_, ns, by omega⟩
          have one : IsC D (cut K b') s L := ⟨icL.up, fun x => (icL.mem x).trans ⟨fun h => (((icL.mem s).mp sL).symm hu).trans h, fun h => ((icL.mem s).mp sL).trans h⟩⟩
          refine one.stays (fun x hx => ?_) fun v mv o mo ad => ?_
          · obtain ⟨x1, x2⟩ := mem_cut.mp hx
            obtain ⟨x3, x4⟩ := mem_wo.mp (subK x x1)
            refine mem_wo.mpr ⟨x3, fun m => ?_⟩
            rcases List.mem_cons.mp m with rfl | m
            · exact x4 (List.mem_cons_self ..)
            · rcases List.mem_cons.mp m with rfl | m
              · exact x2 rfl
              · exact x4 (List.mem_cons_of_mem _ m)
          · obtain ⟨oC, on⟩ := mem_wo.mp mo
            have vK := (mem_cut.mp (icL.sub' hu mv)).1
            have oK : o ∈ K := (icK.mem o).mpr (.step ((icK.mem v).mp vK) ad (mem_wo.mpr ⟨oC, fun m => on (by
              rcases List.mem_cons.mp m with rfl | m
              · exact List.mem_cons_self ..
              · exact List.mem_cons_of_mem _ (List.mem_cons_of_mem _ m))⟩))
            exact (one.mem o).mpr (.step ((one.mem v).mp mv) ad (mem_cut.mpr ⟨oK, fun e => on (by rw [e]; exact List.mem_cons_of_mem _ (List.mem_cons_self ..))⟩))
        · -- a part away from I
          exfalso
          have uK := (mem_cut.mp hu).1
          obtain ⟨w2, w2c, aw2, wk2⟩ := hangs f pcK.con b'K hu
          have w2L : w2 ∈ L := (icL.mem w2).mpr (wk2.symm w2c)
          have apart : ∀ x ∈ I, x ∉ L := fun x mx m => sL (by
            have : Wk D (cut K b') x s := by
              have w : Wk D (wo C (fre D P G C)) x s := ((ic.mem x).mp mx).symm hs
              have ins : ∀ z, Wk D (wo C (fre D P G C)) x z → Wk D (cut K b') x z := fun z hz => by
                induction hz with
                | base => exact .base
                | @step v o k ad mo ih =>
                  have oI : o ∈ I := (ic.mem o).mpr (((ic.mem x).mp mx).trans (.step k ad mo))
                  exact .step ih ad (mem_cut.mpr ⟨IK o oI, fun e => (mem_wo.mp mo).2 (e ▸ fb')⟩)
              exact ins s w
            exact (icL.mem s).mpr (((icL.mem x).mp m).trans this))
          have icL' : IsC D (cut C b') u L := icL.stays (fun x hx => mem_cut.mpr ⟨subKC x (mem_cut.mp hx).1, (mem_cut.mp hx).2⟩) fun v mv o mo ad => by
            obtain ⟨oC, ob'⟩ := mem_cut.mp mo
            have vK := (mem_cut.mp (icL.sub' hu mv)).1
            by_cases om : o ∈ b :: S
            · exfalso
              obtain ⟨fo, i2, i2I, ai2⟩ := allF o om
              -- a way round: w2 .. v o i2 .. i'
              have w3 : Wk D (cut C b') w2 v := ((((icL.mem w2).mp w2L).symm hu).trans ((icL.mem v).mp mv)).wider fun x hx => mem_cut.mpr ⟨subKC x (mem_cut.mp hx).1, (mem_cut.mp hx).2⟩
              have w4 : Wk D (cut C b') w2 i2 := .step (.step w3 ad mo) ai2 (mem_cut.mpr ⟨(subI i2 i2I).1, fun e => (subI i2 i2I).2 (e ▸ fb')⟩)
              have w5 := w4.trans (inI b' fb' i2 i2I i' i'I)
              have := nb_apart f aw2 ai' (fun m => (mem_cut.mp m).2 rfl) w5
              exact apart i' i'I (this ▸ w2L)
            · have oK : o ∈ K := (icK.mem o).mpr (.step ((icK.mem v).mp vK) ad (mem_wo.mpr ⟨oC, om⟩))
              exact (icL.mem o).mpr (.step ((icL.mem v).mp mv) ad (mem_cut.mpr ⟨oK, ob'⟩))
          have hu' : u ∈ cut C b' := mem_cut.mpr ⟨subKC u uK, (mem_cut.mp hu).2⟩
          obtain ⟨v, _, _, o, eL⟩ := opt_of f pc b'C hu' icL' nx ns
          have mb' : b' ∈ B.map (·.1) := by rw [e]; exact fb'
          obtain ⟨⟨b1, v1⟩, hb1, e1⟩ := List.mem_map.mp mb'
          obtain rfl : b1 = b' := e1
          have h1 := (hB _ hb1).le v o
          have h2 := least (b1, v1) ⟨hb1, i', i'I, ai'⟩
          dsimp only at h1 h2
          rw [eL] at h1
          omega
    -- all of them
    obtain ⟨K, _, icK, badK, _⟩ := key ((fre D P G C).filter fun x => @decide (∃ o ∈ I, adj D x o) (Classical.propDecidable _)) fun x hx => by
      obtain ⟨h1, h2⟩ := List.mem_filter.mp hx
      exact ⟨h1, @of_decide_eq_true _ (Classical.propDecidable _) h2⟩
    have : K = I := by
      refine icK.one (ic.stays (fun x hx => ?_) fun v mv o mo ad => ?_)
      · obtain ⟨x1, x2⟩ := mem_wo.mp hx
        refine mem_wo.mpr ⟨x1, fun m => ?_⟩
        rcases List.mem_cons.mp m with rfl | m
        · exact x2 fb
        · exact x2 (List.mem_filter.mp m).1
      · obtain ⟨oC, on⟩ := mem_wo.mp mo
        refine leads v mv o oC ad fun fo => on (List.mem_cons_of_mem _ (List.mem_filter.mpr ⟨fo, ?_⟩))
        exact @decide_eq_true _ (Classical.propDecidable _) ⟨v, mv, adj_symm ad⟩
    exact badK (this ▸ solI)
end
end Fw
set_option maxHeartbeats 4000000
namespace Fw
open PySem PySem.Spec PyProof.Rows L2
/-! the rows of a certificate -/
inductive Row
  | p (r : Int) (nm : Str)
  | b (r v : Int)
def rowV : Row → List V
  | .p r nm => [.int r, .str "passed", .str nm]
  | .b r v => [.int r, .str "back", .int v]
open Classical in
noncomputable def unwL (P G : List (Str × Int)) (C : List Int) : List Int := C.filter fun r => decide (Unw P G C r)
open Classical in
theorem mem_unwL {P G : List (Str × Int)} {C : List Int} {r : Int} : r ∈ unwL P G C ↔ Unw P G C r := by
  unfold unwL
  rw [List.mem_filter, decide_eq_true_eq]
  exact ⟨fun h => h.2, fun h => ⟨h.1, h⟩⟩
theorem unwL_len (P G : List (Str × Int)) (C : List Int) : (unwL P G C).length ≤ C.length := List.length_filter_le _ _
/-- nm of C passes r -/
def Pss (D : List (Int × Int)) (P G : List (Str × Int)) (C : List Int) (r : Int) (nm : Str) : Prop := ∃ c t, (nm, c) ∈ P ∧ c ∈ C ∧ (nm, t) ∈ G ∧ pas D c t r
open Classical in
noncomputable def pssL (D : List (Int × Int)) (P G : List (Str × Int)) (C : List Int) (r : Int) : List Str := (inside P C).filter fun nm => decide (Pss D P G C r nm)
open Classical in
theorem mem_pssL {D : List (Int × Int)} {P G : List (Str × Int)} {C : List Int} {r : Int} {nm : Str} : nm ∈ pssL D P G C r ↔ Pss D P G C r nm := by
  unfold pssL
  rw [List.mem_filter, decide_eq_true_eq]
  exact ⟨fun h => h.2, fun h => ⟨by obtain ⟨c, t, h1, h2, _⟩ := h; exact mem_inside' h1 h2, h⟩⟩
theorem psd_pss {D : List (Int × Int)} {P G : List (Str × Int)} {C : List Int} {r : Int} : Psd D P G C r ↔ ∃ nm, Pss D P G C r nm := by
  constructor
  · rintro ⟨nm, c, t, h1, h2, h3, h4⟩
    exact ⟨nm, c, t, h1, h2, h3, h4⟩
  · rintro ⟨nm, c, t, h1, h2, h3, h4⟩
    exact ⟨nm, c, t, h1, h2, h3, h4⟩
/-- the rows that are tried for a room -/
structure Rts (D : List (Int × Int)) (P G : List (Str × Int)) (C : List Int) (r : Int) (rs : List Row) : Prop where
  len : rs.length ≤ 7
  pas : Psd D P G C r → ∃ nm, rs = [.p r nm] ∧ Pss D P G C r nm
  bck : ¬ Psd D P G C r → ∀ x, x ∈ rs ↔ ∃ v, x = .b r v ∧ Bck D P G C r v
/-- a list of rows -/
def LRows (H : Hp) (l : Addr) (rs : List Row) : Prop := ∃ as : List (Addr × Row), H l = some (.lst (as.map fun x => V.ref x.1)) ∧ rs = as.map (·.2) ∧ ∀ x ∈ as, H x.1 = some (.tup (rowV x.2))
/-- the person of an unwanted room has a way to go -/
theorem Unw.ahead {n : Int} {D : List (Int × Int)} {P G : List (Str × Int)} {C : List Int} {r : Int} (u : Unw P G C r) (pc : Pce D P G C) (sub : ∀ x ∈ P.map (·.1), x ∈ G.map (·.1)) : ∃ nm t a q, (nm, r) ∈ P ∧ (∀ nm', (nm', r) ∈ P → nm' = nm) ∧ (nm, t) ∈ G ∧ SP (adj D) r t (r :: a :: q) ∧ a ∈ C := by
  obtain ⟨rC, uw⟩ := u
  obtain ⟨nm, m, un⟩ := pc.who r rC
  obtain ⟨t, mt⟩ := key_val (sub nm (List.mem_map_of_mem (f := (·.1)) m))
  obtain ⟨p, hp, ins⟩ := (pc.con r rC _ (pc.tgt nm r t m rC mt)).within
  obtain ⟨a, q, rfl, _⟩ := hp.two fun e => uw nm r t m rC mt e.symm
  exact ⟨nm, t, a, q, m, un, mt, hp, (ins a (by simp)).elim (fun e => e ▸ rC) id⟩
section
variable {P : Program} {w : World} {K : PySem.W.Frag} {mg : Str → Option Value} {base : Heap}
def spUnw (K : PySem.W.Frag) : Sp := fun vs H Q _ => ∃ (p g rl : Addr) (P G : List (Str × Int)) (C : List Int), vs = [.ref p, .ref g, .ref rl] ∧ PlAt H p P ∧ P.length ≤ 100 ∧ PlAt H g G ∧ (G.map (·.1)).Nodup ∧ (∀ x ∈ P.map (·.1), x ∈ G.map (·.1)) ∧ SqT K H rl (vi C) ∧ C.length ≤ 100 ∧ ∀ H' t, Same H H' → H' t = some (.tup (vi (unwL P G C))) → Q (.ref t) H'
abbrev nUnw : List Str := ["placement", "target", "region", "wanted", "name", "room"]
theorem scUnw : FnScope nUnw ["placement", "target", "region"] (defScope sUnw) := ⟨rfl, rfl, rfl, by decide +kernel, rfl, by decide +kernel, by decide +kernel⟩
abbrev pUnw : List Str := ["placement", "target", "region"]
theorem ok_unw {f : Addr} {fd : FuncData} {k : Nat} (F : Fun K "unwanted_rooms" "unwanted_rooms" sUnw f fd) (T : Nm mg) (Cpeople_within : Cal P w K mg base (k + 1) "people_within" pPWi (spPWi K)) (Croom_of : Cal P w K mg base (k + 1) "room_of" pRoomOf spRoomOf) : FnOk P w K mg base CX0 (k + 2) f fd pUnw (spUnw K) := by
  refine F.ok scUnw (fun vs H Q E h => ?_) (fun cdv A outer s H vs Q E hr h => ?_)
  · obtain ⟨p, g, rl, P, G, C, rfl, _⟩ := h
    rfl
  · obtain ⟨p, g, rl, P, G, C, rfl, hP, lP, hG, nd, sub, hC, lC, q⟩ := h
    refine ⟨_, (pss_cons (ps_set (i := 3) scUnw.nd rfl (.inr rfl) (pe_lc (own := [("name", 4)]) (g := gName 4) (by rfl) scUnw.nd (pi_tupK K rfl (pe_cal Cpeople_within hr (by rfl) (pa_cons (pv 0) (pa_cons (pv 2) pa_nil))))
 (blkOk_by (own := [("name", 4)]) (N := nUnw) (sc := defScope sUnw) (by decide +kernel))
 (fun _ _ _ _ _ => (pg_name (i := 4) scUnw.nd rfl (.inl rfl))) (fun _ _ _ _ _ => pts_nil) (fun _ _ _ _ _ => (pe_cal Croom_of hr (by rfl) (pa_cons (pv 1) (pa_cons (pv 4) pa_nil))))))
      (pss_one (ps_ret (pe_callTy (call_tupleK K rfl) (by rfl) T.tuple (by decide +kernel) (pa_cons (pe_lc (own := [("room", 5)]) (g := gName 5) (by rfl) scUnw.nd (pi_tupK K rfl (pv 2))
 (blkOk_by (own := [("room", 5)]) (N := nUnw) (sc := defScope sUnw) (by decide +kernel))
 (fun _ _ _ _ _ => (pg_name (i := 5) scUnw.nd rfl (.inl rfl))) (fun _ _ _ _ _ => pts_one (pt_cmpR (op_notInK K rfl) (pv 5) (pv 3) (by rfl))) (fun _ _ _ _ _ => (pv 5))) pa_nil))))), ?_⟩
    refine ⟨_, rfl, _, rfl, p, rl, P, C, rfl, hP, hC, lP, fun H1 u s1 e1 => ?_⟩
    refine ⟨u, rfl, ⟨_, SqT.of e1⟩, fun L hL => lc_tup (K := K) (a := u) (xs := (inside P C).map V.str) (fun i H' => Same H1 H' ∧ ∃ W : List Int, H' L = some (.lst (vi W)) ∧ W.length = i ∧ ∀ t, t ∈ W ↔ ∃ nm ∈ (inside P C).take i, (nm, t) ∈ G)
      ⟨same_upd hL, [], upd_same, rfl, fun t => ⟨fun h => (nomatch h), fun ⟨nm, h, _⟩ => (nomatch h)⟩⟩ (fun i H' _ hh => SqT.of (hh.1 _ _ e1)) ?_ ?_⟩
    · rintro i x H2 hx ⟨s2, W, eW, lW, mW⟩
      obtain ⟨nm, hn, rfl⟩ := get_vs hx
      obtain ⟨c, mc, _⟩ := inside_get (List.mem_of_getElem? hn)
      obtain ⟨t, mt⟩ := key_val (sub nm (List.mem_map_of_mem (f := (·.1)) mc))
      have il := lt_of_get hn
      have i2 := inside_len P C
      refine ⟨rfl, ?_⟩
      unfold tYes
      refine iteT ⟨_, rfl, _, rfl, g, G, nm, t, rfl, hG.same (s1.trans s2), mt, nd, _, eW, ?_, same_put s2 hL, W ++ [t], ?_, ?_, fun t' => ?_⟩
      · rw [List.length_map]
        exact small1000 (by omega)
      · rw [upd_same, vi_app]
        rfl
      · rw [List.length_append, lW]
        rfl
      · rw [List.mem_append, List.mem_singleton, mW, take_snoc hn]
        constructor
        · rintro (⟨nm', h1, h2⟩ | rfl)
          · exact ⟨nm', List.mem_append_left _ h1, h2⟩
          · exact ⟨nm, List.mem_append_right _ (List.mem_singleton.mpr rfl), mt⟩
        · rintro ⟨nm', h1, h2⟩
          rcases List.mem_append.mp h1 with h1 | h1
          · exact .inl ⟨nm', h1, h2⟩
          · rw [List.mem_singleton.mp h1] at h2
            exact .inr (congrArg Prod.snd (key_uniq nd h2 mt rfl))
    rintro H2 ⟨s2, W, eW, lW, mW⟩
    rw [List.length_map, List.take_length] at mW
    have s12 := s1.trans s2
    refine ⟨_, rfl, rl, rfl, ⟨_, sqT_same s12 hC⟩, fun M hM => lc_tup (K := K) (a := rl) (xs := vi C) (fun i H' => Same H2 H' ∧ H' M = some (.lst (vi ((C.take i).filter fun r => !decide (r ∈ W))))) ⟨same_upd hM, upd_same⟩ (fun i H' _ hh => sqT_same (s12.trans hh.1) hC) ?_ ?_⟩
    · rintro i x H3 hx ⟨s3, e3⟩
      obtain ⟨r, hk, rfl⟩ := get_vi hx
      have il := lt_of_get hk
      refine ⟨rfl, _, rfl, _, rfl, L, _, rfl, .inl (SqL.of (s3 _ _ eW)), rfl, flat_vi _, _, rfl, ?_⟩
      rw [if_pos rfl, inV_vi, take_snoc hk, filter_snoc]
      refine ite2 (fun z => ?_) (fun z => ?_)
      · rw [if_pos z]
        refine ⟨_, rfl, _, e3, ?_, same_put s3 hM, ?_⟩
        · rw [List.length_map]
          refine small1000 (Nat.le_trans (List.length_filter_le _ _) ?_)
          rw [List.length_take]
          omega
        · rw [upd_same, vi_app]
          rfl
      · rw [if_neg z, List.append_nil]
        exact ⟨s3, e3⟩
    · rintro H3 ⟨s3, e3⟩
      rw [List.length_map, List.take_length] at e3
      have ef : (C.filter fun r => !decide (r ∈ W)) = unwL P G C := by
        unfold unwL
        refine List.filter_congr fun r hr => ?_
        rw [Bool.eq_iff_iff, Bool.not_eq_true', decide_eq_false_iff_not, @decide_eq_true_eq _ (Classical.propDecidable _), mW]
        constructor
        · intro h
          exact ⟨hr, fun nm c t h1 h2 h3 e => h ⟨nm, mem_inside' h1 h2, e ▸ h3⟩⟩
        · rintro ⟨_, h⟩ ⟨nm, h1, h2⟩
          obtain ⟨c, h3, h4⟩ := inside_get h1
          exact h nm c r h3 h4 h2 rfl
      rw [ef] at e3
      exact ⟨M, _, rfl, .inl ⟨SqL.of e3, fun t ht => q _ t ((s12.trans s3).trans (same_upd ht)) upd_same⟩⟩
def spRPas (K : PySem.W.Frag) : Sp := fun vs H Q _ => ∃ (h p g rl : Addr) (n : Int) (D : List (Int × Int)) (P G : List (Str × Int)) (C : List Int) (r : Int), vs = [.ref h, .ref p, .ref g, .ref rl, .int r] ∧ HouseAt H h n D ∧ Forest n D ∧ n ≤ 8 ∧ PlAt H p P ∧ Pl n P ∧ P.length ≤ 60 ∧ PlAt H g G ∧ Pl n G ∧ (∀ x ∈ P.map (·.1), x ∈ G.map (·.1)) ∧ SqT K H rl (vi C) ∧ ∀ H' t, Same H H' → H' t = some (.tup ((pssL D P G C r).map V.str)) → Q (.ref t) H'
abbrev nRPas : List Str := ["house", "placement", "target", "region", "room", "names", "name"]
theorem scRPas : FnScope nRPas ["house", "placement", "target", "region", "room"] (defScope sRPas) := ⟨rfl, rfl, rfl, by decide +kernel, rfl, by decide +kernel, by decide +kernel⟩
abbrev pRPas : List Str := ["house", "placement", "target", "region", "room"]
theorem ok_rpas {f : Addr} {fd : FuncData} {k : Nat} (F : Fun K "region_passing" "region_passing" sRPas f fd) (T : Nm mg) (Cpeople_within : Cal P w K mg base (k + 5) "people_within" pPWi (spPWi K)) (Cpassed_rooms : Cal P w K mg base (k + 5) "passed_rooms" pPTgt spPassed) : FnOk P w K mg base CX0 (k + 6) f fd pRPas (spRPas K) := by
  refine F.ok scRPas (fun vs H Q E h => ?_) (fun cdv A outer s H vs Q E hr h => ?_)
  · obtain ⟨h, p, g, rl, n, D, P, G, C, r, rfl, _⟩ := h
    rfl
  · obtain ⟨h, p, g, rl, n, D, P, G, C, r, rfl, hH, hF, n1, hP, pl, lP, hG, plG, sub, hC, q⟩ := h
    refine ⟨_, (pss_cons (ps_set (i := 5) scRPas.nd rfl (.inl rfl) (pe_cal Cpeople_within hr (by rfl) (pa_cons (pv 1) (pa_cons (pv 3) pa_nil))))
      (pss_one (ps_ret (pe_callTy (call_tupleK K rfl) (by rfl) T.tuple (by decide +kernel) (pa_cons (pe_lc (own := [("name", 6)]) (g := gName 6) (by rfl) scRPas.nd (pi_tupK K rfl (pv 5))
 (blkOk_by (own := [("name", 6)]) (N := nRPas) (sc := defScope sRPas) (by decide +kernel))
 (fun _ _ _ _ _ => (pg_name (i := 6) scRPas.nd rfl (.inl rfl))) (fun _ _ _ _ _ => pts_one (pt_cmpR (op_inK K rfl) (pv 4) (pe_cal Cpassed_rooms hr (by rfl) (pa_cons (pv 0) (pa_cons (pv 1) (pa_cons (pv 2) (pa_cons (pv 6) pa_nil))))) (by rfl))) (fun _ _ _ _ _ => (pv 6))) pa_nil))))), ?_⟩
    refine ⟨_, rfl, _, rfl, p, rl, P, C, rfl, hP, hC, by omega, fun H1 u s1 e1 => ?_⟩
    refine ⟨_, rfl, u, rfl, ⟨_, SqT.of e1⟩, fun L hL => lc_tup (K := K) (a := u) (xs := (inside P C).map V.str) (fun i H' => Same H1 H' ∧ ∃ ns : List Str, H' L = some (.lst (ns.map V.str)) ∧ ns.length ≤ i ∧ ns = ((inside P C).take i).filter fun nm => @decide (Pss D P G C r nm) (Classical.propDecidable _))
      ⟨same_upd hL, [], upd_same, Nat.le_refl _, rfl⟩ (fun i H' _ hh => SqT.of (hh.1 _ _ e1)) ?_ ?_⟩
    · rintro i x H2 hx ⟨s2, ns, en, ln, mn⟩
      obtain ⟨nm, hn, rfl⟩ := get_vs hx
      obtain ⟨c, mc, cC⟩ := inside_get (List.mem_of_getElem? hn)
      obtain ⟨t, mt⟩ := key_val (sub nm (List.mem_map_of_mem (f := (·.1)) mc))
      have il := lt_of_get hn
      have i2 := inside_len P C
      have s02 := s1.trans s2
      refine ⟨rfl, _, rfl, _, rfl, _, rfl, _, rfl, _, rfl, h, p, g, n, D, P, G, nm, c, t, rfl, hH.same s02, hF, n1, hP.same s02, pl, hG.same s02, plG, mc, mt, fun H3 t3 l s3 e3 ll ml => ⟨t3, _, rfl, .inr (SqT.of e3), rfl, flat_vi _, _, rfl, ?_⟩⟩
      rw [if_neg (by decide), inV_vi]
      have key : (r ∈ l) ↔ Pss D P G C r nm := by
        rw [ml]
        constructor
        · intro h
          exact ⟨c, t, mc, cC, mt, h⟩
        · rintro ⟨c', t', h1, _, h3, h4⟩
          have e1 : c' = c := congrArg Prod.snd (key_uniq pl.nodup h1 mc rfl)
          have e2 : t' = t := congrArg Prod.snd (key_uniq plG.nodup h3 mt rfl)
          rw [← e1, ← e2]
          exact h4
      have e3' := s3 _ _ en
      by_cases z : Pss D P G C r nm
      · rw [decide_eq_true (key.mpr z)]
        refine iteT ⟨_, rfl, _, e3', ?_, same_put (s2.trans s3) hL, ns ++ [nm], ?_, ?_, ?_⟩
        · rw [List.length_map]
          exact small1000 (by omega)
        · rw [upd_same, List.map_append]
          rfl
        · rw [List.length_append, List.length_singleton]
          omega
        · rw [take_snoc hn, filter_snoc, ← mn, if_pos (@decide_eq_true _ (Classical.propDecidable _) z)]
      · rw [decide_eq_false fun m => z (key.mp m)]
        refine iteF ⟨s2.trans s3, ns, e3', by omega, ?_⟩
        rw [take_snoc hn, filter_snoc, ← mn, if_neg fun m => z (@of_decide_eq_true _ (Classical.propDecidable _) m), List.append_nil]
    · rintro H2 ⟨s2, ns, en, ln, mn⟩
      rw [List.length_map, List.take_length] at mn
      have : ns = pssL D P G C r := mn
      rw [this] at en
      exact ⟨L, _, rfl, .inl ⟨SqL.of en, fun t ht => q _ t ((s1.trans s2).trans (same_upd ht)) upd_same⟩⟩
def spRBack (K : PySem.W.Frag) : Sp := fun vs H Q _ => ∃ (h p g rl : Addr) (n : Int) (D : List (Int × Int)) (P G : List (Str × Int)) (C : List Int) (r : Int), vs = [.ref h, .ref p, .ref g, .ref rl, .int r] ∧ HouseAt H h n D ∧ Forest n D ∧ n ≤ 8 ∧ PlAt H p P ∧ Pl n P ∧ P.length ≤ 60 ∧ PlAt H g G ∧ Pl n G ∧ (∀ x ∈ P.map (·.1), x ∈ G.map (·.1)) ∧ SqT K H rl (vi C) ∧ Pce D P G C ∧ Unw P G C r ∧
  ∀ H' t bs, Same H H' → H' t = some (.tup (vi bs)) → (∀ v, v ∈ bs ↔ Bck D P G C r v) → bs.length ≤ 7 → Q (.ref t) H'
abbrev nRBack : List Str := ["house", "placement", "target", "region", "room", "ahead", "other"]
theorem scRBack : FnScope nRBack ["house", "placement", "target", "region", "room"] (defScope sRBack) := ⟨rfl, rfl, rfl, by decide +kernel, rfl, by decide +kernel, by decide +kernel⟩
theorem ok_rback {f : Addr} {fd : FuncData} {k : Nat} (F : Fun K "rooms_back" "rooms_back" sRBack f fd) (T : Nm mg) (Croom_ahead : Cal P w K mg base (k + 6) "room_ahead" pAhead spAhead) (Cneighbors : Cal P w K mg base (k + 6) "neighbors" ["house", "room"] spNb) : FnOk P w K mg base CX0 (k + 7) f fd pRPas (spRBack K) := by
  refine F.ok scRBack (fun vs H Q E h => ?_) (fun cdv A outer s H vs Q E hr h => ?_)
  · obtain ⟨h, p, g, rl, n, D, P, G, C, r, rfl, _⟩ := h
    rfl
  · obtain ⟨h, p, g, rl, n, D, P, G, C, r, rfl, hH, hF, n1, hP, pl, lP, hG, plG, sub, hC, pc, uw, q⟩ := h
    refine ⟨_, (pss_cons (ps_set (i := 5) scRBack.nd rfl (.inr rfl) (pe_cal Croom_ahead hr (by rfl) (pa_cons (pv 0) (pa_cons (pv 1) (pa_cons (pv 2) (pa_cons (pv 4) pa_nil))))))
      (pss_one (ps_ret (pe_callTy (call_tupleK K rfl) (by rfl) T.tuple (by decide +kernel) (pa_cons (pe_lc (own := [("other", 6)]) (g := gName 6) (by rfl) scRBack.nd (pi_tupK K rfl (pe_cal Cneighbors hr (by rfl) (pa_cons (pv 0) (pa_cons (pv 4) pa_nil))))
 (blkOk_by (own := [("other", 6)]) (N := nRBack) (sc := defScope sRBack) (by decide +kernel))
 (fun _ _ _ _ _ => (pg_name (i := 6) scRBack.nd rfl (.inl rfl))) (fun _ _ _ _ _ => pts_one (PW.pt (pw_and (pt_cmpR (op_inK K rfl) (pv 6) (pv 3) (by rfl)) (pw_and1 (pt_cmpR op_ne (pv 6) (pv 5) (nomark _)))))) (fun _ _ _ _ _ => (pv 6))) pa_nil))))), ?_⟩
    obtain ⟨nm, t, a, w', m1, un, m2, sp, aC⟩ := uw.ahead (n := n) pc sub
    have ahd : Ahd D P G r a := ⟨nm, t, w', m1, m2, sp⟩
    have only : ∀ b, Ahd D P G r b → b = a := fun b hb => pc.ahd_one hF plG.nodup uw.1 hb ahd
    have ara : adj D r a := by
      cases sp with
      | @cons _ c _ _ ad sp' nin =>
        obtain ⟨q', hq'⟩ := sp'.hd
        injection hq' with hq1 hq2
        exact hq1 ▸ ad
    refine ⟨_, rfl, _, rfl, _, rfl, _, rfl, h, p, g, n, D, P, G, nm, r, t, a, w', rfl, hH, hF, n1, hP, pl, by omega, hG, plG, m1, un, m2, sp, fun H1 s1 => ?_⟩
    refine ⟨_, rfl, _, rfl, h, n, D, r, rfl, hH.same s1, hF, fun H2 u s2 e2 => ?_⟩
    have s12 := s1.trans s2
    refine ⟨u, rfl, ⟨_, SqT.of e2⟩, fun L hL => lc_tup (K := K) (a := u) (xs := vi (nb n D r)) (fun i H' => Same H2 H' ∧ H' L = some (.lst (vi (((nb n D r).take i).filter fun v => decide (v ∈ C) && !decide (v = a))))) ⟨same_upd hL, upd_same⟩ (fun i H' _ hh => SqT.of (hh.1 _ _ e2)) ?_ ?_⟩
    · rintro i x H3 hx ⟨s3, e3⟩
      obtain ⟨v, hk, rfl⟩ := get_vi hx
      have ln := nb_len n D r
      have il := lt_of_get hk
      have put : ∀ H4 : Hp, Same H3 H4 → ∃ acc, H4 L = some (.lst acc) ∧ acc.length < sizeLine ∧ (Same H2 (upd H4 L (.lst (acc ++ [V.int v]))) ∧ (upd H4 L (.lst (acc ++ [V.int v]))) L = some (.lst (vi ((((nb n D r).take i).filter fun v => decide (v ∈ C) && !decide (v = a)) ++ [v])))) := fun H4 s4 => by
        refine ⟨_, s4 _ _ e3, ?_, same_put (s3.trans s4) hL, ?_⟩
        · rw [List.length_map]
          refine small1000 (Nat.le_trans (List.length_filter_le _ _) ?_)
          rw [List.length_take]
          omega
        · rw [upd_same, vi_app]
          rfl
      refine ⟨rfl, _, rfl, _, rfl, rl, _, rfl, .inr (sqT_same (s12.trans s3) hC), rfl, flat_vi _, _, rfl, ?_⟩
      rw [if_neg (by decide), inV_vi, take_snoc hk, filter_snoc]
      by_cases z : v ∈ C
      · rw [decide_eq_true z]
        refine iteT ⟨_, rfl, _, rfl, rfl, _, rfl, ?_⟩
        rw [int_dec, Bool.true_and]
        refine ite2 (fun y => ?_) (fun y => ?_)
        · rw [if_pos y]
          exact ⟨_, rfl, put _ (Same.refl _)⟩
        · rw [if_neg y, List.append_nil]
          exact ⟨s3, e3⟩
      · rw [decide_eq_false z, Bool.false_and, if_neg Bool.false_ne_true, List.append_nil]
        exact iteF ⟨s3, e3⟩
    · rintro H3 ⟨s3, e3⟩
      rw [List.length_map, List.take_length] at e3
      have mem : ∀ v, v ∈ (nb n D r).filter (fun v => decide (v ∈ C) && !decide (v = a)) ↔ Bck D P G C r v := fun v => by
        rw [List.mem_filter, hF.mem_nb, Bool.and_eq_true, decide_eq_true_eq, Bool.not_eq_true', decide_eq_false_iff_not]
        constructor
        · rintro ⟨h1, h2, h3⟩
          exact ⟨h2, h1, fun hb => h3 (only v hb)⟩
        · rintro ⟨h1, h2, h3⟩
          exact ⟨h2, h1, fun e => h3 (e ▸ ahd)⟩
      have small : ((nb n D r).filter fun v => decide (v ∈ C) && !decide (v = a)).length ≤ 7 := by
        have an : a ∈ nb n D r := hF.mem_nb.mpr ara
        have h1 := subset_len (xs := (nb n D r).filter fun v => decide (v ∈ C) && !decide (v = a)) (ys := (nb n D r).erase a) (up_nodup ((nb_up n D r).filter _)) fun x hx => by
          obtain ⟨x1, x2⟩ := List.mem_filter.mp hx
          rw [Bool.and_eq_true, Bool.not_eq_true', decide_eq_false_iff_not] at x2
          exact (List.mem_erase_of_ne x2.2).mpr x1
        rw [List.length_erase_of_mem an] at h1
        have := nb_len n D r
        omega
      exact ⟨L, _, rfl, .inl ⟨SqL.of e3, fun t ht => q _ t _ ((s12.trans s3).trans (same_upd ht)) upd_same mem small⟩⟩
def spRTry (K : PySem.W.Frag) : Sp := fun vs H Q _ => ∃ (h p g rl : Addr) (n : Int) (D : List (Int × Int)) (P G : List (Str × Int)) (C : List Int) (r : Int), vs = [.ref h, .ref p, .ref g, .ref rl, .int r] ∧ HouseAt H h n D ∧ Forest n D ∧ n ≤ 8 ∧ PlAt H p P ∧ Pl n P ∧ P.length ≤ 60 ∧ PlAt H g G ∧ Pl n G ∧ (∀ x ∈ P.map (·.1), x ∈ G.map (·.1)) ∧ SqT K H rl (vi C) ∧ Pce D P G C ∧ Unw P G C r ∧
  ∀ H' l rs, Same H H' → H l = none → LRows H' l rs → Rts D P G C r rs → Q (.ref l) H'
abbrev nRTry : List Str := ["house", "placement", "target", "region", "room", "names", "other"]
theorem scRTry : FnScope nRTry ["house", "placement", "target", "region", "room"] (defScope sRTry) := ⟨rfl, rfl, rfl, by decide +kernel, rfl, by decide +kernel, by decide +kernel⟩
theorem ok_rtry {f : Addr} {fd : FuncData} {k : Nat} (F : Fun K "rows_to_try" "rows_to_try" sRTry f fd) (Cregion_passing : Cal P w K mg base (k + 7) "region_passing" pRPas (spRPas K)) (Crooms_back : Cal P w K mg base (k + 7) "rooms_back" pRPas (spRBack K)) : FnOk P w K mg base CX0 (k + 8) f fd pRPas (spRTry K) := by
  refine F.ok scRTry (fun vs H Q E h => ?_) (fun cdv A outer s H vs Q E hr h => ?_)
  · obtain ⟨h, p, g, rl, n, D, P, G, C, r, rfl, _⟩ := h
    rfl
  · obtain ⟨h, p, g, rl, n, D, P, G, C, r, rfl, hH, hF, n1, hP, pl, lP, hG, plG, sub, hC, pc, uw, q⟩ := h
    refine ⟨_, (pss_cons (ps_set (i := 5) scRTry.nd rfl (.inl rfl) (pe_cal Cregion_passing hr (by rfl) (pa_cons (pv 0) (pa_cons (pv 1) (pa_cons (pv 2) (pa_cons (pv 3) (pa_cons (pv 4) pa_nil)))))))
      (pss_cons (ps_if (pt_truthK K rfl (pv 5) (by intro _; rfl))
      (pss_one (ps_ret (pe_lst (pa_cons (pe_tup (pa_cons (pv 4) (pa_cons pe_str (pa_cons (pe_ix (ix_tupK K rfl) (pv 5) pe_int (fun _ _ => rfl)) pa_nil)))) pa_nil))))
      pss_nil)
      (pss_one (ps_ret (pe_lc (own := [("other", 6)]) (g := gName 6) (by rfl) scRTry.nd (pi_tupK K rfl (pe_cal Crooms_back hr (by rfl) (pa_cons (pv 0) (pa_cons (pv 1) (pa_cons (pv 2) (pa_cons (pv 3) (pa_cons (pv 4) pa_nil)))))))
 (blkOk_by (own := [("other", 6)]) (N := nRTry) (sc := defScope sRTry) (by decide +kernel))
 (fun _ _ _ _ _ => (pg_name (i := 6) scRTry.nd rfl (.inl rfl))) (fun _ _ _ _ _ => pts_nil) (fun _ _ _ _ _ => (pe_tup (pa_cons (pv 4) (pa_cons pe_str (pa_cons (pv 6) pa_nil)))))))))), ?_⟩
    refine ⟨_, rfl, _, rfl, _, rfl, _, rfl, _, rfl, h, p, g, rl, n, D, P, G, C, r, rfl, hH, hF, n1, hP, pl, lP, hG, plG, sub, hC, fun H1 u s1 e1 => ?_⟩
    refine ⟨_, rfl, _, .inr (.inl ⟨_, SqT.of e1, rfl⟩), ?_⟩
    cases hp : pssL D P G C r with
    | cons nm ns =>
      rw [hp] at e1
      have mp : Pss D P G C r nm := mem_pssL.mp (by rw [hp]; exact List.mem_cons_self ..)
      refine iteT ⟨_, rfl, _, rfl, u, _, _, _, rfl, rfl, SqT.of e1, atI0, by show 3 ≤ sizeLine; decide, fun t ht => ⟨by show 1 ≤ sizeLine; decide, fun l hl => ?_⟩⟩
      have s2 := same_upd (o := .tup [V.int r, V.str "passed", V.str nm]) ht
      refine q _ l [.p r nm] (s1.trans (s2.trans (same_upd hl))) (s1.free (s2.free hl)) ⟨[(t, .p r nm)], upd_same, rfl, fun x hx => ?_⟩ ⟨by show 1 ≤ 7; decide, fun _ => ⟨nm, rfl, mp⟩, fun no => absurd (psd_pss.mpr ⟨nm, mp⟩) no⟩
      rw [List.mem_singleton.mp hx]
      exact same_upd hl _ _ upd_same
    | nil =>
      have np : ¬ Psd D P G C r := fun h => by
        obtain ⟨nm, h⟩ := psd_pss.mp h
        have := mem_pssL.mpr h
        rw [hp] at this
        cases this
      refine iteF ⟨_, rfl, _, rfl, _, rfl, _, rfl, _, rfl, h, p, g, rl, n, D, P, G, C, r, rfl, hH.same s1, hF, n1, hP.same s1, pl, lP, hG.same s1, plG, sub, sqT_same s1 hC, pc, uw, fun H2 t2 bs s2 e2 mb lb => ?_⟩
      refine ⟨t2, rfl, ⟨_, SqT.of e2⟩, fun L hL => lc_tup (K := K) (a := t2) (xs := vi bs) (fun i H' => Same H2 H' ∧ LRows H' L ((bs.take i).map fun v => .b r v)) ⟨same_upd hL, [], upd_same, rfl, fun x hx => nomatch hx⟩ (fun i H' _ hh => SqT.of (hh.1 _ _ e2)) ?_ ?_⟩
      · rintro i x H3 hx ⟨s3, as, a1, a2, a3⟩
        obtain ⟨v, hk, rfl⟩ := get_vi hx
        have il := lt_of_get hk
        have la : as.length ≤ i := by
          have := congrArg List.length a2
          rw [List.length_map, List.length_map, List.length_take] at this
          omega
        refine ⟨rfl, ?_⟩
        unfold tYes
        refine iteT ⟨_, rfl, _, rfl, by show 3 ≤ sizeLine; decide, fun t ht => ?_⟩
        have s4 := same_upd (o := .tup [V.int r, V.str "back", V.int v]) ht
        refine ⟨_, s4 _ _ a1, ?_, same_put (s3.trans s4) hL, as ++ [(t, .b r v)], ?_, ?_, fun x hx => ?_⟩
        · rw [List.length_map]
          exact small1000 (by omega)
        · rw [upd_same, List.map_append]
          rfl
        · rw [take_snoc hk, List.map_append, List.map_append, a2]
          rfl
        · rcases List.mem_append.mp hx with hx | hx
          · have := s4 _ _ (a3 x hx)
            rw [upd_ne (ne_of this (s4 _ _ a1) (by intro z; cases z))]
            exact this
          · rw [List.mem_singleton.mp hx]
            rw [upd_ne (ne_of (upd_same (H := H3) (a := t)) (s4 _ _ a1) (by intro z; cases z))]
            exact upd_same
      · rintro H3 ⟨s3, lr⟩
        rw [List.length_map, List.take_length] at lr
        refine q _ L _ ((s1.trans s2).trans s3) ((s1.trans s2).free hL) lr ⟨by rw [List.length_map]; exact lb, fun h => absurd h np, fun _ x => ?_⟩
        rw [List.mem_map]
        constructor
        · rintro ⟨v, hv, rfl⟩
          exact ⟨v, rfl, (mb v).mp hv⟩
        · rintro ⟨v, rfl, hv⟩
          exact ⟨v, (mb v).mpr hv, rfl⟩
end
end Fw
set_option maxHeartbeats 4000000
namespace Fw
open PySem PySem.Spec PyProof.Rows L2
/-! walks, whatever is done with each: from promise to promise -/
theorem trek_tup {K : PySem.W.Frag} {a : Addr} {xs : List V} {G0 : Hp} {Qd : Hp → Prop} {each : (Hp → Prop) → V → Hp → Prop} (Pv : Nat → Hp → Prop) (start : Pv 0 G0) (sees : ∀ i G, i ≤ xs.length → Pv i G → SqT K G a xs)
    (does : ∀ i x G, xs[i]? = some x → Pv i G → each (Pv (i + 1)) x G) (ends : ∀ G, Pv xs.length G → Qd G) :
    ∃ W : Nat → Nat → Hp → Prop, (∃ m, W 0 m G0) ∧ ∀ i m G, W i m G → ((Itt K a).stop i G ∧ Qd G) ∨ ((Itt K a).go i G ∧ ∃ N : Hp → Prop, (∀ G', N G' → ∃ m', m' < m ∧ W (i + 1) m' G') ∧ ∀ x G', (Itt K a).yld i G x G' → each N x G') := by
  refine ⟨fun i m J => m + i = xs.length ∧ Pv i J, ⟨xs.length, rfl, start⟩, ?_⟩
  rintro i m J ⟨e, p⟩
  have sq := sees i J (by omega) p
  cases m with
  | zero =>
    have e : i = xs.length := by omega
    subst e
    exact .inl ⟨⟨xs, sq, Nat.le_refl _⟩, ends J p⟩
  | succ m =>
    have lt : i < xs.length := by omega
    refine .inr ⟨⟨xs, xs[i], sq, List.getElem?_eq_getElem lt⟩, Pv (i + 1), fun J' p' => ⟨m, Nat.lt_succ_self _, by omega, p'⟩, ?_⟩
    rintro x J' ⟨rfl, y⟩
    exact does i x _ (y xs sq) p
theorem trek_lst {K : PySem.W.Frag} {a : Addr} {xs : List V} {G0 : Hp} {Qd : Hp → Prop} {each : (Hp → Prop) → V → Hp → Prop} (Pv : Nat → Hp → Prop) (start : Pv 0 G0) (sees : ∀ i G, i ≤ xs.length → Pv i G → SqL K G a xs)
    (does : ∀ i x G, xs[i]? = some x → Pv i G → each (Pv (i + 1)) x G) (ends : ∀ G, Pv xs.length G → Qd G) :
    ∃ W : Nat → Nat → Hp → Prop, (∃ m, W 0 m G0) ∧ ∀ i m G, W i m G → ((Itl K a).stop i G ∧ Qd G) ∨ ((Itl K a).go i G ∧ ∃ N : Hp → Prop, (∀ G', N G' → ∃ m', m' < m ∧ W (i + 1) m' G') ∧ ∀ x G', (Itl K a).yld i G x G' → each N x G') := by
  refine ⟨fun i m J => m + i = xs.length ∧ Pv i J, ⟨xs.length, rfl, start⟩, ?_⟩
  rintro i m J ⟨e, p⟩
  have sq := sees i J (by omega) p
  cases m with
  | zero =>
    have e : i = xs.length := by omega
    subst e
    exact .inl ⟨⟨xs, sq, Nat.le_refl _⟩, ends J p⟩
  | succ m =>
    have lt : i < xs.length := by omega
    refine .inr ⟨⟨xs, xs[i], sq, List.getElem?_eq_getElem lt⟩, Pv (i + 1), fun J' p' => ⟨m, Nat.lt_succ_self _, by omega, p'⟩, ?_⟩
    rintro x J' ⟨rfl, y⟩
    exact does i x _ (y xs sq) p
/-- a tuple stays while tuples stay -/
theorem sqT_tk {K : PySem.W.Frag} {H H' : Hp} {a : Addr} {xs : List V} (t : Tk H H') (h : SqT K H a xs) : SqT K H' a xs := by
  rcases h with (h | ⟨o, h⟩) | h
  · exact .inl (.inl (t.t h))
  · exact .inl (.inr ⟨o, t.f h⟩)
  · exact .inr h
/-- what was locked is let go again -/
theorem same_unlock {H H' : Hp} {d : Addr} {o : Obj} {u : HO} (e : H d = some u) (s : Same (upd H d (.frz o u)) H') : Same H (upd H' d u) := fun b x h => by
  by_cases z : b = d
  · rw [z] at h ⊢
    rw [upd_same]
    exact e.symm.trans h
  · rw [upd_ne z]
    exact s b x ((upd_ne z).trans h)
end Fw
set_option maxHeartbeats 4000000
namespace Fw
open PySem PySem.Spec PyProof.Rows L2
/-! the conditions of a certificate, as the program asks them -/
/-- back rooms as a dict -/
def dkJ (B : List (Int × Int)) : List (Key × V) := B.map fun x => (Sum.inl x.1, V.int x.2)
theorem dkJ_put {B : List (Int × Int)} {r v : Int} (h : r ∉ B.map (·.1)) : putK (dkJ B) (Sum.inl r) (V.int v) = dkJ (B ++ [(r, v)]) := by
  unfold putK
  rw [if_neg ?_]
  · unfold dkJ
    rw [List.map_append]
    rfl
  · intro a
    obtain ⟨x, hx, e⟩ := List.any_eq_true.mp a
    obtain ⟨y, hy, rfl⟩ := List.mem_map.mp hx
    have : (Sum.inl y.1 : Key) = Sum.inl r := of_decide_eq_true e
    injection this with this
    exact h (this ▸ List.mem_map_of_mem (f := (·.1)) hy)
theorem dkJ_none {B : List (Int × Int)} {r : Int} (h : r ∉ B.map (·.1)) : valV (dkJ B) (Sum.inl r) = none := by
  unfold valV
  rw [Option.map_eq_none_iff, List.find?_eq_none]
  intro x hx e
  obtain ⟨y, hy, rfl⟩ := List.mem_map.mp hx
  have : (Sum.inl y.1 : Key) = Sum.inl r := of_decide_eq_true e
  injection this with this
  exact h (this ▸ List.mem_map_of_mem (f := (·.1)) hy)
theorem dkJ_some : ∀ {B : List (Int × Int)}, (B.map (·.1)).Nodup → ∀ {r v : Int}, (r, v) ∈ B → valV (dkJ B) (Sum.inl r) = some (.int v)
  | [], _, _, _, h => nomatch h
  | x :: B, nd, r, v, h => by
    rw [List.map_cons, List.nodup_cons] at nd
    unfold valV dkJ
    rw [List.map_cons, List.find?_cons]
    by_cases e : x.1 = r
    · have : decide ((Sum.inl x.1 : Key) = Sum.inl r) = true := decide_eq_true (by rw [e])
      rw [this]
      rcases List.mem_cons.mp h with h | h
      · rw [← h]
        rfl
      · exact absurd (e ▸ List.mem_map_of_mem (f := (·.1)) h) nd.1
    · have : decide ((Sum.inl x.1 : Key) = Sum.inl r) = false := decide_eq_false fun z => e (by injection z)
      rw [this]
      rcases List.mem_cons.mp h with h | h
      · exact absurd (by rw [← h]) e
      · exact dkJ_some nd.2 h
theorem dkJ_at {B : List (Int × Int)} {i : Nat} {k : Key} {v : V} (h : (dkJ B)[i]? = some (k, v)) : ∃ x, B[i]? = some x ∧ k = Sum.inl x.1 := by
  unfold dkJ at h
  rw [List.getElem?_map] at h
  cases e : B[i]? with
  | none => rw [e] at h; cases h
  | some x => rw [e] at h; exact ⟨x, rfl, (congrArg Prod.fst (Option.some.inj h)).symm⟩
def Hwb (D : List (Int × Int)) (I : List Int) (B : List (Int × Int)) : Prop := ∃ b v o, (b, v) ∈ B ∧ v ∉ I ∧ o ∈ I ∧ adj D b o
open Classical in
noncomputable def hwbB (D : List (Int × Int)) (I : List Int) (B : List (Int × Int)) : Bool := decide (Hwb D I B)
open Classical in
theorem hwbB_iff {D : List (Int × Int)} {I : List Int} {B : List (Int × Int)} : hwbB D I B = true ↔ Hwb D I B := by unfold hwbB; rw [decide_eq_true_eq]
open Classical in
noncomputable def cndB (D : List (Int × Int)) (P G : List (Str × Int)) (C : List Int) (B : List (Int × Int)) : Bool := decide (Cnd D P G C B)
open Classical in
theorem cndB_iff {D : List (Int × Int)} {P G : List (Str × Int)} {C : List Int} {B : List (Int × Int)} : cndB D P G C B = true ↔ Cnd D P G C B := by unfold cndB; rw [decide_eq_true_eq]
/-- the back rows -/
def bks : List Row → List (Int × Int)
  | [] => []
  | .p _ _ :: rs => bks rs
  | .b r v :: rs => (r, v) :: bks rs
theorem bks_app : ∀ rs ss : List Row, bks (rs ++ ss) = bks rs ++ bks ss
  | [], ss => rfl
  | .p _ _ :: rs, ss => bks_app rs ss
  | .b r v :: rs, ss => by
    show (r, v) :: bks (rs ++ ss) = _
    rw [bks_app rs ss]
    rfl
theorem bks_len : ∀ rs : List Row, (bks rs).length ≤ rs.length
  | [] => Nat.le_refl _
  | .p _ _ :: rs => Nat.le_succ_of_le (bks_len rs)
  | .b r v :: rs => Nat.succ_le_succ (bks_len rs)
/-- a tuple of rows -/
def CtAt (K : PySem.W.Frag) (H : Hp) (a : Addr) (rs : List Row) : Prop := ∃ as : List (Addr × Row), SqT K H a (as.map fun x => V.ref x.1) ∧ rs = as.map (·.2) ∧ ∀ x ∈ as, SqT K H x.1 (rowV x.2)
theorem CtAt.tk {K : PySem.W.Frag} {H H' : Hp} {a : Addr} {rs : List Row} (x : CtAt K H a rs) (t : Tk H H') : CtAt K H' a rs := by
  obtain ⟨as, h1, h2, h3⟩ := x
  exact ⟨as, sqT_tk t h1, h2, fun y hy => sqT_tk t (h3 y hy)⟩
theorem get_row {as : List (Addr × Row)} {i : Nat} {x : V} (h : (as.map fun p => V.ref p.1)[i]? = some x) : ∃ p, as[i]? = some p ∧ x = .ref p.1 := by
  rw [List.getElem?_map] at h
  cases e : as[i]? with
  | none => rw [e] at h; cases h
  | some v => rw [e] at h; exact ⟨v, rfl, (Option.some.inj h).symm⟩
section
variable {P : Program} {w : World} {K : PySem.W.Frag} {mg : Str → Option Value} {base : Heap}
def spHWB (K : PySem.W.Frag) : Sp := fun vs H Q _ => ∃ (h il d : Addr) (n : Int) (D : List (Int × Int)) (I : List Int) (B : List (Int × Int)), vs = [.ref h, .ref il, .ref d] ∧ HouseAt H h n D ∧ Forest n D ∧ n ≤ 8 ∧ SqT K H il (vi I) ∧ H d = some (.dK (dkJ B)) ∧ (B.map (·.1)).Nodup ∧ B.length ≤ 100 ∧ ∀ H', Same H H' → Q (.bl (hwbB D I B)) H'
abbrev nHWB : List Str := ["house", "island", "back", "room", "other"]
theorem scHWB : FnScope nHWB ["house", "island", "back"] (defScope sHWB) := ⟨rfl, rfl, rfl, by decide +kernel, rfl, by decide +kernel, by decide +kernel⟩
abbrev pHWB : List Str := ["house", "island", "back"]
theorem ok_hwb {f : Addr} {fd : FuncData} {k : Nat} (F : Fun K "has_way_back" "has_way_back" sHWB f fd) (T : Nm mg) (Tany : mg "any" = none) (Cneighbors : Cal P w K mg base (k + 1) "neighbors" ["house", "room"] spNb) : FnOk P w K mg base CX0 (k + 2) f fd pHWB (spHWB K) := by
  refine F.ok scHWB (fun vs H Q E h => ?_) (fun cdv A outer s H vs Q E hr h => ?_)
  · obtain ⟨h, il, d, n, D, I, B, rfl, _⟩ := h
    rfl
  · obtain ⟨h, il, d, n, D, I, B, rfl, hH, hF, n1, hI, hd, nd, lB, q⟩ := h
    refine ⟨_, (pss_cons (ps_lock (ps_for PassesOwn.never rfl (pi_keys (pv 2)) (pg_name (i := 3) scHWB.nd rfl (.inl rfl))
      (pss_one (ps_if (PW.pt (pw_and (pt_cmpR (op_notInK K rfl) (pe_dget (hu_of hr) (pv 2) (pv 3) (fun _ _ => rfl)) (pv 1) (by rfl)) (pw_and1 (pt_val (pe_callB (cr_any rfl) (by rfl) Tany (by decide +kernel) (pa_cons (pe_lc (own := [("other", 4)]) (g := gName 4) (by rfl) scHWB.nd (pi_tupK K rfl (pe_cal Cneighbors hr (by rfl) (pa_cons (pv 0) (pa_cons (pv 3) pa_nil))))
 (blkOk_by (own := [("other", 4)]) (N := nHWB) (sc := defScope sHWB) (by decide +kernel))
 (fun _ _ _ _ _ => (pg_name (i := 4) scHWB.nd rfl (.inl rfl))) (fun _ _ _ _ _ => pts_nil) (fun _ _ _ _ _ => (pe_cmpR (op_inK K rfl) (pv 4) (pv 1) (by rfl)))) pa_nil))))))
       (pss_one (ps_ret pe_bl))
       pss_nil))))
      (pss_one (ps_ret pe_bl))), ?_⟩
    refine ⟨d, _, hd, True.intro, fun od => ⟨_, rfl, d, od, rfl, .inl ⟨_, upd_same, ?_⟩⟩⟩
    have tk0 : Tk H (upd H d (.frz od (.dK (dkJ B)))) := Tk.refl.putD hd
    have hH0 := hH.tk tk0
    have hI0 := sqT_tk tk0 hI
    have un : ∀ {H' : Hp}, Same (upd H d (.frz od (.dK (dkJ B)))) H' → H' d = some (.frz od (.dK (dkJ B))) ∧ Same H (upd H' d (.dK (dkJ B))) := fun {H'} s' => ⟨s' _ _ upd_same, same_unlock hd s'⟩
    have lk : (upd H d (.frz od (.dK (dkJ B)))) d = some (.frz od (.dK (dkJ B))) := upd_same
    generalize upd H d (.frz od (.dK (dkJ B))) = H0 at *
    refine for_it (walk_keys (d := d) (o := od) (kvs := dkJ B)) (fun i σ' H' => ∃ y3, σ' = [some (.ref h), some (.ref il), some (.ref d), y3, none] ∧ Same H0 H' ∧ ∀ x ∈ B.take i, ¬ (x.2 ∉ I ∧ ∃ o ∈ I, adj D x.1 o)) ⟨_, rfl, Same.refl _, fun x hx => nomatch hx⟩ ?_ ?_ ?_
    · rintro i σ' H' _ ⟨_, _, s', _⟩
      exact s' _ _ lk
    · rintro i x σ' H1 H1' hi ⟨y3, rfl, s1, all⟩ ⟨rfl, kk, vv, hk, rfl⟩
      obtain ⟨⟨b, v⟩, hb, rfl⟩ := dkJ_at hk
      have mb := List.mem_of_getElem? hb
      have next : ∀ {H' : Hp}, Same H0 H' → ¬ (v ∉ I ∧ ∃ o ∈ I, adj D b o) → ∃ y3', [some (V.ref h), some (V.ref il), some (V.ref d), some (V.int b), none] = [some (.ref h), some (.ref il), some (.ref d), y3', none] ∧ Same H0 H' ∧ ∀ x ∈ B.take (i + 1), ¬ (x.2 ∉ I ∧ ∃ o ∈ I, adj D x.1 o) := fun {H'} s' no => ⟨_, rfl, s', fun x hx => by
        rw [take_snoc hb] at hx
        rcases List.mem_append.mp hx with hx | hx
        · exact all x hx
        · rw [List.mem_singleton.mp hx]
          exact no⟩
      refine ⟨_, rfl, _, rfl, d, _, rfl, .inl ⟨_, Sum.inl b, .inr ⟨od, s1 _ _ lk⟩, rfl, (dkJ_some nd mb).symm⟩, _, rfl, il, _, rfl, .inr (sqT_same s1 hI0), rfl, flat_vi _, _, rfl, ?_⟩
      rw [if_pos rfl, inV_vi]
      by_cases vI : v ∈ I
      · rw [decide_eq_true vI]
        exact iteF (next s1 fun z => z.1 vI)
      rw [decide_eq_false vI]
      refine iteT ⟨_, rfl, _, rfl, h, n, D, b, rfl, hH0.same s1, hF, fun H2 u s2 e2 => ?_⟩
      refine ⟨u, rfl, ⟨_, SqT.of e2⟩, fun L hL => lc_tup (K := K) (a := u) (xs := vi (nb n D b)) (fun j H' => Same H2 H' ∧ H' L = some (.lst ((((nb n D b).take j).map fun o => decide (o ∈ I)).map V.bl))) ⟨same_upd hL, upd_same⟩ (fun j H' _ hh => SqT.of (hh.1 _ _ e2)) ?_ ?_⟩
      · rintro j x H3 hx ⟨s3, e3⟩
        obtain ⟨o, ho, rfl⟩ := get_vi hx
        have ln := nb_len n D b
        have jl := lt_of_get ho
        refine ⟨rfl, ?_⟩
        unfold tYes
        refine iteT ⟨_, rfl, _, rfl, il, _, rfl, .inr (sqT_same ((s1.trans s2).trans s3) hI0), rfl, flat_vi _, _, e3, ?_, same_put s3 hL, ?_⟩
        · rw [List.length_map, List.length_map, List.length_take]
          exact small1000 (by omega)
        · rw [upd_same, if_neg (by decide), inV_vi, take_snoc ho, List.map_append, List.map_append]
          rfl
      · rintro H3 ⟨s3, e3⟩
        rw [List.length_map, List.take_length] at e3
        have s13 := s1.trans (s2.trans s3)
        refine ⟨L, _, rfl, SqL.of e3, _, rfl, ?_⟩
        have key : ((nb n D b).map fun o => decide (o ∈ I)).any id = true ↔ ∃ o ∈ I, adj D b o := by
          rw [List.any_map, List.any_eq_true]
          constructor
          · rintro ⟨o, ho, z⟩
            exact ⟨o, of_decide_eq_true z, hF.mem_nb.mp ho⟩
          · rintro ⟨o, ho, ad⟩
            exact ⟨o, hF.mem_nb.mpr ad, decide_eq_true ho⟩
        by_cases z : ∃ o ∈ I, adj D b o
        · rw [key.mpr z]
          refine iteT ?_
          obtain ⟨u1, u2⟩ := un s13
          have : hwbB D I B = true := hwbB_iff.mpr (by obtain ⟨o, oI, ad⟩ := z; exact ⟨b, v, o, mb, vI, oI, ad⟩)
          rw [← this]
          exact ⟨u1, q _ u2⟩
        · rw [Bool.eq_false_iff.mpr fun y => z (key.mp y)]
          exact iteF (next s13 fun y => z y.2)
    · rintro σ' H1 ⟨y3, rfl, s1, all⟩
      unfold dkJ at all
      rw [List.length_map, List.take_length] at all
      obtain ⟨u1, u2⟩ := un s1
      have : hwbB D I B = false := Bool.eq_false_iff.mpr fun z => by
        obtain ⟨b, v, o, mb, vI, oI, ad⟩ := hwbB_iff.mp z
        exact all (b, v) mb ⟨vI, o, oI, ad⟩
      rw [this] at q
      exact ⟨u1, q _ u2⟩
def spCond (K : PySem.W.Frag) : Sp := fun vs H Q _ => ∃ (h p g rl a : Addr) (n : Int) (D : List (Int × Int)) (P G : List (Str × Int)) (C : List Int) (rs : List Row), vs = [.ref h, .ref p, .ref g, .ref rl, .ref a] ∧ HouseAt H h n D ∧ Forest n D ∧ 0 ≤ n ∧ n ≤ 8 ∧ PlAt H p P ∧ Pl n P ∧ P.length ≤ 60 ∧ PlAt H g G ∧ Pl n G ∧ (∀ x ∈ P.map (·.1), x ∈ G.map (·.1)) ∧ SqT K H rl (vi C) ∧ C.Pairwise (· < ·) ∧ C.length ≤ 8 ∧ CtAt K H a rs ∧ rs.length ≤ 60 ∧ ((bks rs).map (·.1)).Nodup ∧ ∀ H', Same H H' → Q (.bl (cndB D P G C (bks rs))) H'
abbrev nCond : List Str := ["house", "placement", "target", "region", "rows", "back", "room", "word", "named", "island"]
theorem scCond : FnScope nCond ["house", "placement", "target", "region", "rows"] (defScope sCond) := ⟨rfl, rfl, rfl, by decide +kernel, rfl, by decide +kernel, by decide +kernel⟩
abbrev pCond : List Str := ["house", "placement", "target", "region", "rows"]
theorem ok_cond {f : Addr} {fd : FuncData} {k : Nat} (F : Fun K "conditions_hold" "conditions_hold" sCond f fd) (T : Nm mg) (Tany : mg "any" = none) (Ccomponents : Cal P w K mg base (k + 3) "components" ["house", "rooms"] (spComp K)) (Call_at_target : Cal P w K mg base (k + 3) "all_at_target" pAllAt (spAllAt K)) (Chas_way_back : Cal P w K mg base (k + 3) "has_way_back" pHWB (spHWB K)) : FnOk P w K mg base CX0 (k + 4) f fd pCond (spCond K) := by
  refine F.ok scCond (fun vs H Q E h => ?_) (fun cdv A outer s H vs Q E hr h => ?_)
  · obtain ⟨h, p, g, rl, a, n, D, P, G, C, rs, rfl, _⟩ := h
    rfl
  · obtain ⟨h, p, g, rl, a, n, D, P, G, C, rs, rfl, hH, hF, n0, n1, hP, pl, lP, hG, plG, sub, hC, upC, lC, hA, lR, nd, q⟩ := h
    refine ⟨_, (pss_cons (ps_set (i := 5) scCond.nd rfl (.inr rfl) (pe_dc (own := [("room", 6), ("word", 7), ("named", 8)]) (g := gTup K 3 (gCons (gName 6) (gCons (gName 7) (gCons (gName 8) gNil)))) (by rfl) scCond.nd (pi_tupK K rfl (pv 4))
 (blkOk_by (own := [("room", 6), ("word", 7), ("named", 8)]) (N := nCond) (sc := defScope sCond) (by decide +kernel))
 (fun _ _ _ _ _ => (pg_tup (by rfl) (pgs_cons (pg_name (i := 6) scCond.nd rfl (.inl rfl)) (pgs_cons (pg_name (i := 7) scCond.nd rfl (.inl rfl)) (pgs_cons (pg_name (i := 8) scCond.nd rfl (.inl rfl)) pgs_nil))))) (fun _ _ _ _ _ => pts_one (pt_cmpR op_eq (pv 7) pe_str (nomark _))) (fun _ _ _ _ _ => (pv 6)) (fun _ _ _ _ _ => (pv 8))))
      (pss_cons (ps_if (pt_val (pe_callB (cr_any rfl) (by rfl) Tany (by decide +kernel) (pa_cons (pe_lock (pe_lc (own := [("room", 6)]) (g := gName 6) (by rfl) scCond.nd (pi_keys (pv 5))
 (blkOk_by (own := [("room", 6)]) (N := nCond) (sc := defScope sCond) (by decide +kernel))
 (fun _ _ _ _ _ => (pg_name (i := 6) scCond.nd rfl (.inl rfl))) (fun _ _ _ _ _ => pts_nil) (fun _ _ _ _ _ => (pe_cmpR (op_eqDK K rfl hr.units) (pe_dget1 (hu_of hr) (pv 5) (pe_dget (hu_of hr) (pv 5) (pv 6) (fun _ _ => rfl)) ⟨rfl, rfl, rfl, rfl⟩) (pv 6) (nomark _))))) pa_nil)))
      (pss_one (ps_ret pe_bl))
      pss_nil)
      (pss_cons (ps_for PassesOwn.never rfl (pi_tupK K rfl (pe_cal Ccomponents hr (by rfl) (pa_cons (pv 0) (pa_cons (pe_callTy (call_tupleK K rfl) (by rfl) T.tuple (by decide +kernel) (pa_cons (pe_lc (own := [("room", 6)]) (g := gName 6) (by rfl) scCond.nd (pi_tupK K rfl (pv 3))
 (blkOk_by (own := [("room", 6)]) (N := nCond) (sc := defScope sCond) (by decide +kernel))
 (fun _ _ _ _ _ => (pg_name (i := 6) scCond.nd rfl (.inl rfl))) (fun _ _ _ _ _ => pts_one (pt_cmp (pc_dnotin (hu_of hr) (pv 6) (pv 5)))) (fun _ _ _ _ _ => (pv 6))) pa_nil)) pa_nil)))) (pg_name (i := 9) scCond.nd rfl (.inl rfl))
      (pss_one (ps_if (PW.pt (pw_and (pt_val (pe_cal Call_at_target hr (by rfl) (pa_cons (pv 1) (pa_cons (pv 2) (pa_cons (pv 9) pa_nil))))) (pw_and1 (pt_not (pt_val (pe_cal Chas_way_back hr (by rfl) (pa_cons (pv 0) (pa_cons (pv 9) (pa_cons (pv 5) pa_nil)))))))))
       (pss_one (ps_ret pe_bl))
       pss_nil)))
      (pss_one (ps_ret pe_bl))))), ?_⟩
    obtain ⟨as, a1, a2, a3⟩ := id hA
    have la : as.length = rs.length := by rw [a2, List.length_map]
    refine ⟨_, rfl, a, rfl, ⟨_, a1⟩, fun d hd => trek_tup (K := K) (a := a) (xs := as.map fun x => V.ref x.1) (fun i H' => Same H H' ∧ H' d = some (.dK (dkJ (bks (rs.take i))))) ⟨same_upd hd, upd_same⟩ (fun i H' _ hh => sqT_same hh.1 a1) ?_ ?_⟩
    · rintro i x H1 hx ⟨s1, e1⟩
      obtain ⟨y, hy, rfl⟩ := get_row hx
      have hr' : rs[i]? = some y.2 := by rw [a2, List.getElem?_map, hy]; rfl
      have sy := sqT_same s1 (a3 y (List.mem_of_getElem? hy))
      have es : bks (rs.take (i + 1)) = bks (rs.take i) ++ bks [y.2] := by rw [take_snoc hr', bks_app]
      have small : (dkJ (bks (rs.take i))).length < sizeLine := by
        unfold dkJ
        rw [List.length_map]
        have h1 := bks_len (rs.take i)
        rw [List.length_take] at h1
        exact small1000 (by omega)
      cases hrow : y.2 with
      | p r nm =>
        rw [hrow] at sy es
        refine ⟨y.1, _, rfl, sy, rfl, _, _, rfl, _, _, rfl, _, _, rfl, rfl, rfl, _, rfl, rfl, _, rfl, iteF ⟨s1, ?_⟩⟩
        rw [es]
        show H1 d = some (.dK (dkJ (bks (rs.take i) ++ [])))
        rw [List.append_nil]
        exact e1
      | b r v =>
        rw [hrow] at sy es
        have new : r ∉ (bks (rs.take i)).map (·.1) := fun m => by
          have : bks rs = bks (rs.take i) ++ ((r, v) :: bks (rs.drop (i + 1))) := by
            conv => lhs; rw [← List.take_append_drop (i + 1) rs]
            rw [bks_app, es, List.append_assoc]
            rfl
          rw [this, List.map_append, List.nodup_append] at nd
          exact nd.2.2 r m r (by rw [List.map_cons]; exact List.mem_cons_self ..) rfl
        refine ⟨y.1, _, rfl, sy, rfl, _, _, rfl, _, _, rfl, _, _, rfl, rfl, rfl, _, rfl, rfl, _, rfl, iteT ⟨_, rfl, _, rfl, _, Sum.inl r, rfl, e1, small, same_put s1 hd, ?_⟩⟩
        rw [upd_same, dkJ_put new, es]
        rfl
    rintro H1 ⟨s1, e1⟩
    rw [List.length_map, la, List.take_length] at e1
    have lB : (bks rs).length ≤ 60 := Nat.le_trans (bks_len rs) lR
    generalize bks rs = B at *
    refine ⟨d, _, e1, True.intro, fun od => ⟨_, rfl, d, od, rfl, .inl ⟨_, upd_same, fun L hL => ?_⟩⟩⟩
    have un : ∀ {H' : Hp}, Same (upd H1 d (.frz od (.dK (dkJ B)))) H' → H' d = some (.frz od (.dK (dkJ B))) ∧ Same H1 (upd H' d (.dK (dkJ B))) := fun {H'} s' => ⟨s' _ _ upd_same, same_unlock e1 s'⟩
    have lk : (upd H1 d (.frz od (.dK (dkJ B)))) d = some (.frz od (.dK (dkJ B))) := upd_same
    generalize upd H1 d (.frz od (.dK (dkJ B))) = H2 at *
    refine lc_it (walk_keys (d := d) (o := od) (kvs := dkJ B)) (fun i H' => Same H2 H' ∧ H' L = some (.lst (((B.take i).map fun x => decide ((x.2, x.1) ∈ B)).map V.bl))) ⟨same_upd hL, upd_same⟩ ?_ ?_ ?_
    · rintro i H' _ ⟨s', _⟩
      exact s' _ _ lk
    · rintro i x H3 H3' hi ⟨s3, e3⟩ ⟨rfl, kk, vv, hk, rfl⟩
      obtain ⟨⟨b, v⟩, hb, rfl⟩ := dkJ_at hk
      have mb := List.mem_of_getElem? hb
      have iB := lt_of_get hb
      have rd : Rd H3' d (.dK (dkJ B)) := .inr ⟨od, s3 _ _ lk⟩
      refine ⟨rfl, ?_⟩
      unfold tYes
      refine iteT ⟨_, rfl, d, rfl, .inl ⟨_, rd⟩, _, rfl, _, rfl, d, _, rfl, .inl ⟨_, Sum.inl b, rd, rfl, (dkJ_some nd mb).symm⟩, valV (dkJ B) (Sum.inl v), .inl ⟨_, Sum.inl v, rd, rfl, rfl⟩, _, rfl, ?_⟩
      have fin : ∃ acc, H3' L = some (.lst acc) ∧ acc.length < sizeLine ∧ Same H2 (upd H3' L (.lst (acc ++ [V.bl (decide ((v, b) ∈ B))]))) ∧ (upd H3' L (.lst (acc ++ [V.bl (decide ((v, b) ∈ B))]))) L = some (.lst (((B.take (i + 1)).map fun x => decide ((x.2, x.1) ∈ B)).map V.bl)) := by
        refine ⟨_, e3, ?_, same_put s3 hL, ?_⟩
        · rw [List.length_map, List.length_map, List.length_take]
          exact small1000 (by omega)
        · rw [upd_same, take_snoc hb, List.map_append, List.map_append]
          rfl
      by_cases vb : v ∈ B.map (·.1)
      · obtain ⟨y, hy, e⟩ := List.mem_map.mp vb
        obtain ⟨v', b'⟩ := y
        replace e : v' = v := e
        subst e
        rw [dkJ_some nd hy]
        refine ⟨_, _, .int b', .int b, rfl, rfl, ?_⟩
        have : PyData.eqv (.int b') (.int b) = decide ((v', b) ∈ B) := by
          rw [Bool.eq_iff_iff, decide_eq_true_eq]
          constructor
          · intro h
            have : b' = b := of_decide_eq_true (by simpa [PyData.eqv] using h)
            rw [← this]
            exact hy
          · intro h
            rw [fst_one nd hy h]
            simp [PyData.eqv]
        rw [this]
        exact fin
      · rw [dkJ_none vb]
        refine ⟨_, _, .non, .int b, rfl, rfl, ?_⟩
        have : PyData.eqv .none (.int b) = decide ((v, b) ∈ B) := (decide_eq_false fun h => vb (List.mem_map_of_mem (f := (·.1)) h)).symm
        rw [this]
        exact fin
    · rintro H3 ⟨s3, e3⟩
      unfold dkJ at e3
      rw [List.length_map, List.take_length] at e3
      obtain ⟨u1, u2⟩ := un s3
      have u3 := s3.trans (Same.refl H3)
      have s13 : Same H (upd H3 d (.dK (dkJ B))) := s1.trans u2
      have dL : L ≠ d := fun e => by rw [e, lk] at hL; cases hL
      refine ⟨u1, L, _, rfl, SqL.of (by rw [upd_ne dL]; exact e3), _, rfl, ?_⟩
      have ed : (upd H3 d (.dK (dkJ B))) d = some (.dK (dkJ B)) := upd_same
      generalize upd H3 d (.dK (dkJ B)) = H4 at *
      by_cases z : ∃ r v, (r, v) ∈ B ∧ (v, r) ∈ B
      · have ha : (B.map fun x => decide ((x.2, x.1) ∈ B)).any id = true := by
          obtain ⟨r, v, m1, m2⟩ := z
          rw [List.any_map, List.any_eq_true]
          exact ⟨(r, v), m1, decide_eq_true m2⟩
        rw [ha]
        have : cndB D P G C B = false := Bool.eq_false_iff.mpr fun h => by
          obtain ⟨r, v, m1, m2⟩ := z
          exact (cndB_iff.mp h).no2 r v m1 m2
        rw [this] at q
        exact iteT (q _ s13)
      · have ha : (B.map fun x => decide ((x.2, x.1) ∈ B)).any id = false := Bool.eq_false_iff.mpr fun h => z (by
          rw [List.any_map, List.any_eq_true] at h
          obtain ⟨⟨r, v⟩, m1, m2⟩ := h
          exact ⟨r, v, m1, of_decide_eq_true m2⟩)
        rw [ha]
        have no2 : ∀ r v, (r, v) ∈ B → (v, r) ∉ B := fun r v m1 m2 => z ⟨r, v, m1, m2⟩
        refine iteF ?_
        refine ⟨_, rfl, _, rfl, rl, rfl, ⟨_, sqT_same s13 hC⟩, fun L2 hL2 => lc_tup (K := K) (a := rl) (xs := vi C) (fun i H' => Same H4 H' ∧ H' L2 = some (.lst (vi (wo (C.take i) (B.map (·.1)))))) ⟨same_upd hL2, upd_same⟩ (fun i H' _ hh => sqT_same (s13.trans hh.1) hC) ?_ ?_⟩
        · rintro i x H5 hx ⟨s5, e5⟩
          obtain ⟨y, hy, rfl⟩ := get_vi hx
          have es : wo (C.take (i + 1)) (B.map (·.1)) = wo (C.take i) (B.map (·.1)) ++ if (!decide (y ∈ B.map (·.1))) = true then [y] else [] := by
            unfold wo
            rw [take_snoc hy, filter_snoc]
          refine ⟨rfl, _, rfl, _, rfl, d, _, rfl, .k (k := Sum.inl y) (s5 _ _ ed), ?_⟩
          have hs : (valV (dkJ B) (Sum.inl y)).isSome = decide (y ∈ B.map (·.1)) := by
            by_cases m : y ∈ B.map (·.1)
            · obtain ⟨x, hx, e⟩ := List.mem_map.mp m
              rw [decide_eq_true m, ← e, dkJ_some nd (v := x.2) hx]
              rfl
            · rw [decide_eq_false m, dkJ_none m]
              rfl
          rw [hs, es]
          refine ⟨_, rfl, ite2 (fun c => ?_) (fun c => ?_)⟩
          · rw [if_pos c]
            refine ⟨_, rfl, _, e5, ?_, same_put s5 hL2, ?_⟩
            · rw [List.length_map]
              have h1 : (wo (C.take i) (B.map (·.1))).length ≤ (C.take i).length := List.length_filter_le _ _
              rw [List.length_take] at h1
              exact small1000 (by omega)
            · rw [upd_same, vi_app]
              rfl
          · rw [if_neg c, List.append_nil]
            exact ⟨s5, e5⟩
        · rintro H5 ⟨s5, e5⟩
          rw [List.length_map, List.take_length] at e5
          refine ⟨L2, _, rfl, .inl ⟨SqL.of e5, fun t ht => ?_⟩⟩
          have s6 := s13.trans (s5.trans (same_upd (o := .tup (vi (wo C (B.map (·.1))))) ht))
          have ed6 := (s5.trans (same_upd (o := .tup (vi (wo C (B.map (·.1))))) ht)) _ _ ed
          have lw : (wo C (B.map (·.1))).length ≤ C.length := List.length_filter_le _ _
          refine ⟨h, t, n, D, _, rfl, hH.same s6, hF, n0, n1, upd_same, wo_up upC, by omega, fun H7 u Cs s7 a1 a2 a3 a4 a5 => ?_⟩
          have s07 := s6.trans s7
          have ed7 := s7 _ _ ed6
          refine ⟨u, rfl, ⟨_, SqT.of a1⟩, for_tup (K := K) (a := u) (xs := refs Cs) (fun i σ' H' => ∃ y9, σ' = [some (.ref h), some (.ref p), some (.ref g), some (.ref rl), some (.ref a), some (.ref d), none, none, none, y9] ∧ Same H7 H' ∧ ∀ c ∈ Cs.take i, Stl P G c.2 → Hwb D c.2 B) ⟨_, rfl, Same.refl _, fun c hc => nomatch hc⟩ (fun i σ' H' _ hh => ?_) ?_ ?_⟩
          · obtain ⟨_, _, s', _⟩ := hh
            exact SqT.of (s' _ _ a1)
          · rintro i x σ' H8 hx ⟨y9, rfl, s8, all⟩
            obtain ⟨c, hc, rfl⟩ := get_refs hx
            have mc := List.mem_of_getElem? hc
            have ec := s8 _ _ (a2 c mc).1
            have next : ∀ {H' : Hp}, Same H7 H' → (Stl P G c.2 → Hwb D c.2 B) → ∃ y9', [some (V.ref h), some (.ref p), some (.ref g), some (.ref rl), some (.ref a), some (.ref d), none, none, none, some (.ref c.1)] = [some (V.ref h), some (.ref p), some (.ref g), some (.ref rl), some (.ref a), some (.ref d), none, none, none, y9'] ∧ Same H7 H' ∧ ∀ c ∈ Cs.take (i + 1), Stl P G c.2 → Hwb D c.2 B := fun {H'} s' one => ⟨_, rfl, s', fun c' hc' => by
              rw [take_snoc hc] at hc'
              rcases List.mem_append.mp hc' with hc' | hc'
              · exact all c' hc'
              · rw [List.mem_singleton.mp hc']
                exact one⟩
            refine ⟨_, rfl, _, rfl, _, rfl, p, g, c.1, n, P, G, c.2, rfl, hP.same (s07.trans s8), pl, by omega, hG.same (s07.trans s8), plG, sub, SqT.of ec, fun H9 s9 => ⟨_, rfl, ?_⟩⟩
            by_cases st : Stl P G c.2
            · rw [stlB_iff.mpr st]
              have s89 := s8.trans s9
              refine iteT ⟨_, rfl, _, rfl, _, rfl, h, c.1, d, n, D, c.2, B, rfl, hH.same (s07.trans s89), hF, n1, SqT.of (s9 _ _ ec), s89 _ _ ed7, nd, by omega, fun H10 s10 => ⟨_, rfl, ?_⟩⟩
              by_cases wb : Hwb D c.2 B
              · rw [hwbB_iff.mpr wb]
                exact iteF (next (s89.trans s10) fun _ => wb)
              · rw [Bool.eq_false_iff.mpr fun z => wb (hwbB_iff.mp z)]
                have : cndB D P G C B = false := Bool.eq_false_iff.mpr fun hh => by
                  obtain ⟨ss, hs, ic⟩ := (a4 c.2).mp (List.mem_map_of_mem (f := (·.2)) mc)
                  exact wb ((cndB_iff.mp hh).out ss hs c.2 ic st)
                rw [this] at q
                exact iteT (q _ (s07.trans (s89.trans s10)))
            · rw [Bool.eq_false_iff.mpr fun z => st (stlB_iff.mp z)]
              exact iteF (next (s8.trans s9) fun z => absurd z st)
          · rintro σ' H8 ⟨y9, rfl, s8, all⟩
            rw [show (refs Cs).length = Cs.length from List.length_map .., List.take_length] at all
            have : cndB D P G C B = true := cndB_iff.mpr ⟨no2, fun ss hs I ic st => by
              obtain ⟨c, mc, e⟩ := List.mem_map.mp ((a4 I).mpr ⟨ss, hs, ic⟩)
              have := all c mc (by rw [e]; exact st)
              rw [e] at this
              exact this⟩
            rw [this] at q
            exact q _ (s07.trans s8)
end
end Fw
set_option maxHeartbeats 4000000
namespace Fw
open PySem PySem.Spec PyProof.Rows L2
/-! all rows there are to try, and the first of them that is a certificate -/
def rowR : Row → Int
  | .p r _ => r
  | .b r _ => r
/-- a tuple of rows made by a display -/
def CtA (H : Hp) (a : Addr) (rs : List Row) : Prop := ∃ as : List (Addr × Row), H a = some (.tup (as.map fun x => V.ref x.1)) ∧ rs = as.map (·.2) ∧ ∀ x ∈ as, H x.1 = some (.tup (rowV x.2))
theorem CtA.tk {H H' : Hp} {a : Addr} {rs : List Row} (x : CtA H a rs) (t : Tk H H') : CtA H' a rs := by
  obtain ⟨as, h1, h2, h3⟩ := x
  exact ⟨as, t.t h1, h2, fun y hy => t.t (h3 y hy)⟩
theorem CtA.same {H H' : Hp} {a : Addr} {rs : List Row} (x : CtA H a rs) (s : Same H H') : CtA H' a rs := x.tk (Tk.of s)
theorem CtA.ct {K : PySem.W.Frag} {H : Hp} {a : Addr} {rs : List Row} (x : CtA H a rs) : CtAt K H a rs := by
  obtain ⟨as, h1, h2, h3⟩ := x
  exact ⟨as, SqT.of h1, h2, fun y hy => SqT.of (h3 y hy)⟩
/-- a list of such tuples -/
def ChA (H : Hp) (L : Addr) (cs : List (List Row)) : Prop := ∃ as : List (Addr × List Row), H L = some (.lst (as.map fun x => V.ref x.1)) ∧ cs = as.map (·.2) ∧ ∀ x ∈ as, CtA H x.1 x.2
theorem ChA.same {H H' : Hp} {L : Addr} {cs : List (List Row)} (x : ChA H L cs) (s : Same H H') : ChA H' L cs := by
  obtain ⟨as, h1, h2, h3⟩ := x
  exact ⟨as, s _ _ h1, h2, fun y hy => (h3 y hy).same s⟩
theorem get_ch {as : List (Addr × List Row)} {i : Nat} {x : V} (h : (as.map fun p => V.ref p.1)[i]? = some x) : ∃ p, as[i]? = some p ∧ x = .ref p.1 := by
  rw [List.getElem?_map] at h
  cases e : as[i]? with
  | none => rw [e] at h; cases h
  | some v => rw [e] at h; exact ⟨v, rfl, (Option.some.inj h).symm⟩
section
variable {n : Int} {D : List (Int × Int)} {P G : List (Str × Int)} {C : List Int}
def RowOk (D : List (Int × Int)) (P G : List (Str × Int)) (C : List Int) : Row → Prop
  | .p r nm => Pss D P G C r nm
  | .b r v => Bck D P G C r v
open Classical in
noncomputable def nps (D : List (Int × Int)) (P G : List (Str × Int)) (C : List Int) (us : List Int) : List Int := us.filter fun r => decide (¬ Psd D P G C r)
structure Chs (D : List (Int × Int)) (P G : List (Str × Int)) (C : List Int) (us : List Int) (cs : List (List Row)) : Prop where
  len : cs.length ≤ 7 ^ us.length
  ok : ∀ rs ∈ cs, rs.map rowR = us ∧ ∀ x ∈ rs, RowOk D P G C x
  all : ∀ B : List (Int × Int), B.map (·.1) = nps D P G C us → (∀ x ∈ B, Bck D P G C x.1 x.2) → ∃ rs ∈ cs, bks rs = B
def crs (cs : List (List Row)) (rows : List Row) : List (List Row) := cs.flatMap fun c => rows.map fun x => c ++ [x]
theorem crs_len (rows : List Row) : ∀ cs : List (List Row), (crs cs rows).length = cs.length * rows.length
  | [] => by simp [crs]
  | c :: cs => by
    have ih := crs_len rows cs
    unfold crs at ih ⊢
    rw [List.flatMap_cons, List.length_append, ih, List.length_map, List.length_cons, Nat.succ_mul, Nat.add_comm]
theorem crs_snoc (rows : List Row) (c : List Row) : ∀ cs : List (List Row), crs (cs ++ [c]) rows = crs cs rows ++ rows.map fun x => c ++ [x] := fun cs => by
  unfold crs
  rw [List.flatMap_append, List.flatMap_cons, List.flatMap_nil, List.append_nil]
theorem mem_crs {cs : List (List Row)} {rows rs : List Row} : rs ∈ crs cs rows ↔ ∃ c ∈ cs, ∃ x ∈ rows, rs = c ++ [x] := by
  unfold crs
  rw [List.mem_flatMap]
  constructor
  · rintro ⟨c, hc, h⟩
    obtain ⟨x, hx, e⟩ := List.mem_map.mp h
    exact ⟨c, hc, x, hx, e.symm⟩
  · rintro ⟨c, hc, x, hx, e⟩
    exact ⟨c, hc, List.mem_map.mpr ⟨x, hx, e.symm⟩⟩
theorem nps_app (us ws : List Int) : nps D P G C (us ++ ws) = nps D P G C us ++ nps D P G C ws := List.filter_append ..
open Classical in
theorem nps_yes {r : Int} (p : Psd D P G C r) : nps D P G C [r] = [] := by
  unfold nps
  rw [List.filter_cons, decide_eq_false (fun z => z p)]
  rfl
open Classical in
theorem nps_no {r : Int} (p : ¬ Psd D P G C r) : nps D P G C [r] = [r] := by
  unfold nps
  rw [List.filter_cons, decide_eq_true p]
  rfl
theorem Chs.start : Chs D P G C [] [[]] := ⟨Nat.le_refl _, fun rs h => by
  rw [List.mem_singleton.mp h]
  exact ⟨rfl, fun x hx => nomatch hx⟩, fun B e _ => ⟨[], List.mem_singleton.mpr rfl, by
  have : B = [] := List.map_eq_nil_iff.mp e
  rw [this]
  rfl⟩⟩
theorem Chs.next {us : List Int} {cs : List (List Row)} {r : Int} {rows : List Row} (h : Chs D P G C us cs) (t : Rts D P G C r rows) : Chs D P G C (us ++ [r]) (crs cs rows) := by
  refine ⟨?_, fun rs m => ?_, fun B e ok => ?_⟩
  · rw [crs_len, List.length_append]
    show _ ≤ 7 ^ (us.length + 1)
    rw [Nat.pow_succ]
    exact Nat.mul_le_mul h.len t.len
  · obtain ⟨c, hc, x, hx, rfl⟩ := mem_crs.mp m
    obtain ⟨h1, h2⟩ := h.ok c hc
    have hr : rowR x = r ∧ RowOk D P G C x := by
      by_cases p : Psd D P G C r
      · obtain ⟨nm, e, hp⟩ := t.pas p
        rw [e] at hx
        rw [List.mem_singleton.mp hx]
        exact ⟨rfl, hp⟩
      · obtain ⟨v, rfl, hb⟩ := (t.bck p x).mp hx
        exact ⟨rfl, hb⟩
    refine ⟨by rw [List.map_append, h1, List.map_singleton, hr.1], fun y hy => ?_⟩
    rcases List.mem_append.mp hy with hy | hy
    · exact h2 y hy
    · rw [List.mem_singleton.mp hy]
      exact hr.2
  · rw [nps_app] at e
    by_cases p : Psd D P G C r
    · rw [nps_yes p, List.append_nil] at e
      obtain ⟨rs, m, eb⟩ := h.all B e ok
      obtain ⟨nm, er, hp⟩ := t.pas p
      refine ⟨rs ++ [.p r nm], mem_crs.mpr ⟨rs, m, _, by rw [er]; exact List.mem_singleton.mpr rfl, rfl⟩, ?_⟩
      rw [bks_app, eb]
      exact List.append_nil _
    · rw [nps_no p] at e
      obtain ⟨B0, B1, rfl, e0, e1⟩ := List.map_eq_append_iff.mp e
      obtain ⟨x, rfl, e2⟩ : ∃ x, B1 = [x] ∧ x.1 = r := by
        match B1, e1 with
        | [x], e1 => exact ⟨x, rfl, (List.cons.inj e1).1⟩
      obtain ⟨r', v⟩ := x
      replace e2 : r' = r := e2
      subst e2
      obtain ⟨rs, m, eb⟩ := h.all B0 e0 fun x hx => ok x (List.mem_append_left _ hx)
      refine ⟨rs ++ [.b r' v], mem_crs.mpr ⟨rs, m, _, (t.bck p _).mpr ⟨v, rfl, ok (r', v) (List.mem_append_right _ (List.mem_singleton.mpr rfl))⟩, rfl⟩, ?_⟩
      rw [bks_app, eb]
      rfl
theorem mem_bks {r v : Int} : ∀ {rs : List Row}, (r, v) ∈ bks rs ↔ Row.b r v ∈ rs
  | [] => ⟨fun h => (nomatch h), fun h => (nomatch h)⟩
  | .p a b :: rs => by
    show (r, v) ∈ bks rs ↔ _
    rw [mem_bks, List.mem_cons]
    exact ⟨fun h => .inr h, fun h => h.elim (fun e => (nomatch e)) id⟩
  | .b a b :: rs => by
    show (r, v) ∈ (a, b) :: bks rs ↔ _
    rw [List.mem_cons, List.mem_cons, mem_bks]
    constructor
    · rintro (e | h)
      · injection e with e1 e2
        exact .inl (by rw [e1, e2])
      · exact .inr h
    · rintro (e | h)
      · injection e with e1 e2
        exact .inl (by rw [e1, e2])
      · exact .inr h
theorem bks_sub : ∀ rs : List Row, ((bks rs).map (·.1)).Sublist (rs.map rowR)
  | [] => List.Sublist.refl _
  | .p a b :: rs => (bks_sub rs).cons _
  | .b a b :: rs => (bks_sub rs).cons₂ _
theorem unwL_up (up : C.Pairwise (· < ·)) : (unwL P G C).Pairwise (· < ·) := by
  unfold unwL
  exact up.filter _
theorem Chs.crt {cs : List (List Row)} {rs : List Row} (up : C.Pairwise (· < ·)) (e : rs.map rowR = unwL P G C) (ok : ∀ x ∈ rs, RowOk D P G C x) (c : Cnd D P G C (bks rs)) : Crt D P G C (bks rs) := by
  refine ⟨?_, fun r v m => ?_, fun r u no => ?_, c⟩
  · have := bks_sub rs
    rw [e] at this
    exact this.nodup (up_nodup (unwL_up up))
  · have m' := mem_bks.mp m
    have : r ∈ rs.map rowR := List.mem_map.mpr ⟨_, m', rfl⟩
    rw [e] at this
    exact ⟨mem_unwL.mp this, ok _ m'⟩
  · have := mem_unwL.mpr u
    rw [← e] at this
    obtain ⟨x, hx, er⟩ := List.mem_map.mp this
    cases x with
    | p a nm =>
      replace er : a = r := er
      subst er
      exact psd_pss.mpr ⟨nm, ok _ hx⟩
    | b a v =>
      replace er : a = r := er
      subst er
      exact absurd (List.mem_map.mpr ⟨(a, v), mem_bks.mpr hx, rfl⟩) no
open Classical in
theorem fre_nps : fre D P G C = nps D P G C (unwL P G C) := by
  have hf : ∀ x, x ∈ fre D P G C ↔ x ∈ nps D P G C (unwL P G C) := fun x => by
    rw [fre_iff]
    unfold nps
    rw [List.mem_filter, mem_unwL, decide_eq_true_eq]
  have up1 : (fre D P G C).Sublist C := by
    unfold fre
    exact List.filter_sublist
  have up2 : (nps D P G C (unwL P G C)).Sublist C := by
    unfold nps unwL
    exact List.filter_sublist.trans List.filter_sublist
  unfold fre nps unwL at *
  rw [List.filter_filter]
  refine List.filter_congr fun x hx => ?_
  have := hf x
  rw [List.mem_filter, List.mem_filter, List.mem_filter] at this
  rw [Bool.eq_iff_iff, Bool.and_eq_true]
  exact ⟨fun z => let ⟨⟨_, b⟩, c⟩ := this.mp ⟨hx, z⟩; ⟨c, b⟩, fun ⟨b, c⟩ => (this.mpr ⟨⟨hx, c⟩, b⟩).2⟩
/-- where none of them is a certificate, the piece is solvable -/
theorem Chs.none (f : Forest n D) (ndG : (G.map (·.1)).Nodup) (pc : Pce D P G C) {cs : List (List Row)} (h : Chs D P G C (unwL P G C) cs) (no : ∀ rs ∈ cs, ¬ Cnd D P G C (bks rs)) : Sol D P G C := by
  refine Classical.byContradiction fun ns => ?_
  obtain ⟨B, e, cr⟩ := crt_some f ndG pc ns
  obtain ⟨rs, m, eb⟩ := h.all B (e.trans fre_nps) fun x hx => (cr.ok x.1 x.2 hx).2
  exact no rs m (by rw [eb]; exact cr.cnd)
end
theorem tYes_q {σ : L2.St} {H : Hp} {Q : Bool → Hp → Prop} (h : Q true H) : tYes σ H Q := h
theorem pa_starK {X : Cx} (K : PySem.W.Frag) (h : X.K = K) {e : Expr} {es : List Expr} {p : Pos} {te : TE} {t : TA} (he : PE X e te) (hr : PA X es t) (hs : starEach (.Starred e p :: es) X.env = (true, eval e X.env) :: starEach es X.env := by rfl) : PA X (.Starred e p :: es) (StX.tStar K te t) := by
  subst h
  exact StX.pa_star he hr hs
section
variable {P : Program} {w : World} {K : PySem.W.Frag} {mg : Str → Option Value} {base : Heap}
def spFCert (K : PySem.W.Frag) : Sp := fun vs H Q _ => ∃ (h p g rl : Addr) (n : Int) (D : List (Int × Int)) (P G : List (Str × Int)) (C : List Int), vs = [.ref h, .ref p, .ref g, .ref rl] ∧ HouseAt H h n D ∧ Forest n D ∧ 0 ≤ n ∧ n ≤ 8 ∧ PlAt H p P ∧ Pl n P ∧ P.length ≤ 60 ∧ PlAt H g G ∧ Pl n G ∧ (∀ x ∈ P.map (·.1), x ∈ G.map (·.1)) ∧ SqT K H rl (vi C) ∧ Pce D P G C ∧ C ≠ [] ∧
  (Sol D P G C → ∀ H', Same H H' → Q .non H') ∧ (∀ H' t rs, ¬ Sol D P G C → Same H H' → CtA H' t rs → rs.map rowR = unwL P G C → (∀ x ∈ rs, RowOk D P G C x) → Crt D P G C (bks rs) → Q (.ref t) H')
abbrev nFCert : List Str := ["house", "placement", "target", "region", "choices", "room", "rows", "chosen", "row"]
theorem scFCert : FnScope nFCert ["house", "placement", "target", "region"] (defScope sFCert) := ⟨rfl, rfl, rfl, by decide +kernel, rfl, by decide +kernel, by decide +kernel⟩
abbrev pFCert : List Str := ["house", "placement", "target", "region"]
theorem ok_fcert {f : Addr} {fd : FuncData} {k : Nat} (F : Fun K "find_certificate" "find_certificate" sFCert f fd) (T : Nm mg) (Cunwanted_rooms : Cal P w K mg base (k + 8) "unwanted_rooms" pUnw (spUnw K)) (Crows_to_try : Cal P w K mg base (k + 8) "rows_to_try" pRPas (spRTry K)) (Cconditions_hold : Cal P w K mg base (k + 8) "conditions_hold" pCond (spCond K)) : FnOk P w K mg base CX0 (k + 9) f fd pFCert (spFCert K) := by
  refine F.ok scFCert (fun vs H Q E h => ?_) (fun cdv A outer s H vs Q E hr h => ?_)
  · obtain ⟨h, p, g, rl, n, D, P, G, C, rfl, _⟩ := h
    rfl
  · obtain ⟨h, p, g, rl, n, D, P, G, C, rfl, hH, hF, n0, n1, hP, pl, lP, hG, plG, sub, hC, pc, ne, qn, qs⟩ := h
    refine ⟨_, (pss_cons (ps_set (i := 4) scFCert.nd rfl (.inl rfl) (pe_lst (pa_cons (pe_tup pa_nil) pa_nil)))
      (pss_cons (ps_for PassesOwn.never rfl (pi_tupK K rfl (pe_cal Cunwanted_rooms hr (by rfl) (pa_cons (pv 1) (pa_cons (pv 2) (pa_cons (pv 3) pa_nil))))) (pg_name (i := 5) scFCert.nd rfl (.inl rfl))
      (pss_cons (ps_set (i := 6) scFCert.nd rfl (.inr rfl) (pe_cal Crows_to_try hr (by rfl) (pa_cons (pv 0) (pa_cons (pv 1) (pa_cons (pv 2) (pa_cons (pv 3) (pa_cons (pv 5) pa_nil)))))))
       (pss_one (ps_setLc2 (i := 4) (own := [("chosen", 7), ("row", 8)]) (vs1 := [8]) (g := gName 7) (g1 := gName 8) (by rfl) scFCert.nd rfl rfl (sw_true rfl rfl rfl (by decide +kernel)) (pi_listK K rfl (pv 4))
 (blkOk_by (own := [("chosen", 7), ("row", 8)]) (N := nFCert) (sc := defScope sFCert) (by decide +kernel)) (by decide)
 (fun _ _ _ _ _ => (pg_name (i := 7) scFCert.nd rfl (.inl rfl))) (fun _ _ _ _ _ => pts_nil) (fun _ _ _ _ _ => (pi_listK K rfl (pv 6))) (fun _ _ _ _ _ => (pg_name (i := 8) scFCert.nd rfl (.inl rfl))) (fun _ _ _ _ _ => pts_nil) (fun _ _ _ _ _ => (pe_tup (pa_starK K rfl (pv 7) (pa_cons (pv 8) pa_nil))))))))
      (pss_cons (ps_for PassesOwn.never rfl (pi_listK K rfl (pv 4)) (pg_name (i := 7) scFCert.nd rfl (.inl rfl))
      (pss_one (ps_if (pt_val (pe_cal Cconditions_hold hr (by rfl) (pa_cons (pv 0) (pa_cons (pv 1) (pa_cons (pv 2) (pa_cons (pv 3) (pa_cons (pv 7) pa_nil)))))))
       (pss_one (ps_ret (pv 7)))
       pss_nil)))
      (pss_one (ps_ret pe_non))))), ?_⟩
    have lC : C.length ≤ 8 := pc.len pl n1
    have lU := unwL_len P G C
    refine ⟨by show 0 ≤ sizeLine; decide, fun t0 ht0 => ⟨by show 1 ≤ sizeLine; decide, fun L0 hL0 => ?_⟩⟩
    have s0 := (same_upd (o := .tup []) ht0).trans (same_upd (o := .lst [.ref t0]) hL0)
    have c0 : ChA (upd (upd H t0 (.tup [])) L0 (.lst [.ref t0])) L0 [[]] := ⟨[(t0, [])], upd_same, rfl, fun x hx => by
      rw [List.mem_singleton.mp hx]
      exact ⟨[], same_upd hL0 _ _ upd_same, rfl, fun y hy => nomatch hy⟩⟩
    generalize upd (upd H t0 (.tup [])) L0 (.lst [.ref t0]) = H0 at *
    refine ⟨_, rfl, _, rfl, _, rfl, p, g, rl, P, G, C, rfl, hP.same s0, by omega, hG.same s0, plG.nodup, sub, sqT_same s0 hC, by omega, fun H1 u s1 eu => ?_⟩
    have s01 := s0.trans s1
    refine ⟨u, rfl, ⟨_, SqT.of eu⟩, for_tup (K := K) (a := u) (xs := vi (unwL P G C)) (fun i σ' H' => ∃ L y5 y6 cs, σ' = [some (.ref h), some (.ref p), some (.ref g), some (.ref rl), some (.ref L), y5, y6, none, none] ∧ Same H1 H' ∧ ChA H' L cs ∧ Chs D P G C ((unwL P G C).take i) cs)
      ⟨_, _, _, _, rfl, Same.refl _, c0.same s1, Chs.start⟩ (fun i σ' H' _ hh => ?_) ?_ ?_⟩
    · obtain ⟨_, _, _, _, _, s', _⟩ := hh
      exact SqT.of (s' _ _ eu)
    · rintro i x σ' H2 hx ⟨L, y5, y6, cs, rfl, s2, hL, ch⟩
      obtain ⟨r, hr', rfl⟩ := get_vi hx
      have il := lt_of_get hr'
      have uw := mem_unwL.mp (List.mem_of_getElem? hr')
      have s02 := s01.trans s2
      refine ⟨_, rfl, _, rfl, _, rfl, _, rfl, _, rfl, h, p, g, rl, n, D, P, G, C, r, rfl, hH.same s02, hF, n1, hP.same s02, pl, lP, hG.same s02, plG, sub, sqT_same s02 hC, pc, uw, fun H3 lr rows s3 nlr hlr rts => ?_⟩
      have hL3 := hL.same s3
      obtain ⟨as, a1, a2, a3⟩ := hL3
      obtain ⟨ras, r1, r2, r3⟩ := hlr
      have lcs : cs.length ≤ 7 ^ 7 := Nat.le_trans ch.len (Nat.pow_le_pow_right (by decide) (by rw [List.length_take]; omega))
      have las : as.length = cs.length := by rw [a2, List.length_map]
      have lrs : ras.length = rows.length := by rw [r2, List.length_map]
      have lrow := rts.len
      have small : ∀ {c : List (List Row)} {m : Nat}, c.length ≤ cs.length → m ≤ 7 → (crs c rows).length + m < sizeLine := fun {c} {m} hc hm => by
        rw [crs_len]
        have h1 : c.length * rows.length ≤ 7 ^ 7 * 7 := Nat.mul_le_mul (Nat.le_trans hc lcs) lrow
        have h2 : 7 ^ 7 * 7 + 7 < sizeLine := by decide
        omega
      refine ⟨_, rfl, L, rfl, ⟨_, SqL.of a1⟩, fun N hN => trek_lst (K := K) (a := L) (xs := as.map fun x => V.ref x.1) (fun k H' => Same H3 H' ∧ ChA H' N (crs (cs.take k) rows)) ⟨same_upd hN, [], upd_same, rfl, fun x hx => nomatch hx⟩ (fun k H' _ hh => SqL.of (hh.1 _ _ a1)) ?_ ?_⟩
      · rintro k x H4 hx ⟨s4, hN4⟩
        obtain ⟨c, hc, rfl⟩ := get_ch hx
        have kl := lt_of_get hc
        have hck : cs[k]? = some c.2 := by rw [a2, List.getElem?_map, hc]; rfl
        have ec := a3 c (List.mem_of_getElem? hc)
        refine ⟨rfl, tYes_q (iteT ?_)⟩
        refine ⟨_, rfl, lr, rfl, ⟨_, SqL.of (s4 _ _ r1)⟩, ?_⟩
        refine trek_lst (K := K) (a := lr) (xs := ras.map fun x => V.ref x.1) (fun j H' => Same H3 H' ∧ ChA H' N (crs (cs.take k) rows ++ (rows.take j).map fun x => c.2 ++ [x])) ⟨s4, by rw [List.take_zero, List.map_nil, List.append_nil]; exact hN4⟩ (fun j H' _ hh => SqL.of (hh.1 _ _ r1)) ?_ ?_
        · rintro j x H5 hx ⟨s5, nas, b1, b2, b3⟩
          obtain ⟨y, hy, rfl⟩ := get_row hx
          have jl := lt_of_get hy
          have hyj : rows[j]? = some y.2 := by rw [r2, List.getElem?_map, hy]; rfl
          have ey := s5 _ _ (r3 y (List.mem_of_getElem? hy))
          obtain ⟨cas, d1, d2, d3⟩ := ec.same s5
          have lcas : cas.length ≤ 8 := by
            have h1 := (ch.ok c.2 (List.mem_of_getElem? hck)).1
            have h2 := congrArg List.length h1
            rw [List.length_map, d2, List.length_map, List.length_take] at h2
            omega
          refine ⟨rfl, tYes_q (iteT ?_)⟩
          refine ⟨_, rfl, c.1, _, rfl, .inl (SqT.of d1), _, rfl, ?_, fun t ht => ?_⟩
          · rw [List.length_append, List.length_map]
            show cas.length + 1 ≤ sizeLine
            have : 100 ≤ sizeLine := by decide
            omega
          have s6 := same_upd (o := .tup (cas.map (fun x => V.ref x.1) ++ [V.ref y.1])) ht
          have b6 := s6 _ _ b1
          have tk6 : Tk H5 (upd (upd H5 t (.tup (cas.map (fun x => V.ref x.1) ++ [V.ref y.1]))) N (.lst (nas.map (fun x => V.ref x.1) ++ [V.ref t]))) := (Tk.of s6).put b6
          have nb : nas.length = (crs (cs.take k) rows).length + j := by
            have := congrArg List.length b2
            rw [List.length_append, List.length_map, List.length_map, List.length_take] at this
            omega
          refine ⟨_, b6, ?_, same_put (s5.trans s6) hN, nas ++ [(t, c.2 ++ [y.2])], ?_, ?_, fun z hz => ?_⟩
          · rw [List.length_map, nb]
            exact small (by rw [List.length_take]; omega) (by omega)
          · rw [upd_same, List.map_append]
            rfl
          · rw [take_snoc hyj, List.map_append, List.map_append, ← List.append_assoc, b2]
            rfl
          · rcases List.mem_append.mp hz with hz | hz
            · exact (b3 z hz).tk tk6
            · rw [List.mem_singleton.mp hz]
              refine ⟨cas ++ [y], ?_, ?_, fun q hq => ?_⟩
              · rw [List.map_append]
                exact ((Tk.refl (H := upd H5 t _)).put b6).t upd_same
              · rw [List.map_append, ← d2]
                rfl
              · rcases List.mem_append.mp hq with hq | hq
                · exact tk6.t (d3 q hq)
                · rw [List.mem_singleton.mp hq]
                  exact tk6.t ey
        · rintro H5 ⟨s5, hN5⟩
          rw [List.length_map, lrs, List.take_length] at hN5
          refine ⟨s5, ?_⟩
          rw [take_snoc hck, crs_snoc]
          exact hN5
      · rintro H4 ⟨s4, hN4⟩
        rw [List.length_map, las, List.take_length] at hN4
        refine ⟨N, _, _, _, rfl, s2.trans (s3.trans s4), hN4, ?_⟩
        rw [take_snoc hr']
        exact ch.next rts
    · rintro σ' H2 ⟨L, y5, y6, cs, rfl, s2, hL, ch⟩
      rw [show (vi (unwL P G C)).length = (unwL P G C).length from List.length_map .., List.take_length] at ch
      have s02 := s01.trans s2
      obtain ⟨as, a1, a2, a3⟩ := id hL
      have las : as.length = cs.length := by rw [a2, List.length_map]
      refine ⟨_, rfl, L, rfl, ⟨_, SqL.of a1⟩, for_list (K := K) (a := L) (xs := as.map fun x => V.ref x.1) (fun i σ' H' => ∃ y7, σ' = [some (.ref h), some (.ref p), some (.ref g), some (.ref rl), some (.ref L), y5, y6, y7, none] ∧ Same H2 H' ∧ ∀ rs ∈ cs.take i, ¬ Cnd D P G C (bks rs))
        ⟨_, rfl, Same.refl _, fun c hc => nomatch hc⟩ (fun i σ' H' _ hh => ?_) ?_ ?_⟩
      · obtain ⟨_, _, s', _⟩ := hh
        exact SqL.of (s' _ _ a1)
      · rintro i x σ' H3 hx ⟨y7, rfl, s3, all⟩
        obtain ⟨c, hc, rfl⟩ := get_ch hx
        have hci : cs[i]? = some c.2 := by rw [a2, List.getElem?_map, hc]; rfl
        have mc := List.mem_of_getElem? hci
        obtain ⟨o1, o2⟩ := ch.ok c.2 mc
        have ec := (a3 c (List.mem_of_getElem? hc)).same s3
        have s03 := s02.trans s3
        have lrc : c.2.length ≤ 8 := by
          have := congrArg List.length o1
          rw [List.length_map] at this
          omega
        have nd : ((bks c.2).map (·.1)).Nodup := by
          have := bks_sub c.2
          rw [o1] at this
          exact this.nodup (up_nodup (unwL_up pc.up))
        refine ⟨_, rfl, _, rfl, _, rfl, _, rfl, _, rfl, h, p, g, rl, c.1, n, D, P, G, C, c.2, rfl, hH.same s03, hF, n0, n1, hP.same s03, pl, lP, hG.same s03, plG, sub, sqT_same s03 hC, pc.up, lC, ec.ct, by omega, nd, fun H4 s4 => ⟨_, rfl, ?_⟩⟩
        by_cases cn : Cnd D P G C (bks c.2)
        · rw [cndB_iff.mpr cn]
          have cr := Chs.crt (cs := cs) pc.up o1 o2 cn
          exact iteT ⟨_, rfl, qs _ c.1 c.2 (fun so => crt_not hF plG.nodup sub so pc ne cr) (s03.trans s4) (ec.same s4) o1 o2 cr⟩
        · rw [Bool.eq_false_iff.mpr fun z => cn (cndB_iff.mp z)]
          refine iteF ⟨_, rfl, s3.trans s4, fun rs hrs => ?_⟩
          rw [take_snoc hci] at hrs
          rcases List.mem_append.mp hrs with hrs | hrs
          · exact all rs hrs
          · rw [List.mem_singleton.mp hrs]
            exact cn
      · rintro σ' H3 ⟨y7, rfl, s3, all⟩
        rw [List.length_map, las, List.take_length] at all
        exact qn (ch.none hF plG.nodup pc all) _ (s02.trans s3)
end
end Fw
set_option maxHeartbeats 4000000
namespace Fw
open PySem PySem.Spec PyProof.Rows L2
/-! tight regions, stuck regions, blocks -/
section
variable {n : Int} {D : List (Int × Int)} {P G : List (Str × Int)}
open Classical in
theorem ctb_leav {Ls : List (List Int)} {C : List Int} (pl : Pl n P) (ndG : (G.map (·.1)).Nodup) (sub : ∀ x ∈ P.map (·.1), x ∈ G.map (·.1)) (rg : Regs D (occ n P) Ls) (hC : C ∈ Ls) : ctb D n P G C = true ↔ (inside P C).length = C.length ∧ leav P G C = [] := by
  obtain ⟨s, hs, ic⟩ := (rg.mem C).mp hC
  constructor
  · intro h
    refine ⟨(ctb_iff.mp h).1, ?_⟩
    unfold leav leavL
    rw [List.filter_eq_nil_iff]
    intro nm m z
    obtain ⟨c, h1, h2⟩ := inside_get m
    obtain ⟨t, ht⟩ := key_val (sub nm (List.mem_map_of_mem (f := (·.1)) h1))
    exact (of_decide_eq_true z) t ht (ctb_in pl ndG rg hC h nm c t h1 h2 ht)
  · rintro ⟨h1, h2⟩
    refine ctb_iff.mpr ⟨h1, fun nm m z => ?_⟩
    unfold leav leavL at h2
    rw [List.filter_eq_nil_iff] at h2
    obtain ⟨c, p1, p2⟩ := inside_get m
    unfold outp at z
    obtain ⟨x, hx, e⟩ := List.mem_map.mp z
    obtain ⟨x1, x2⟩ := List.mem_filter.mp hx
    obtain ⟨nm', r⟩ := x
    replace e : nm' = nm := e
    subst e
    have rc : r = c := congrArg Prod.snd (key_uniq pl.nodup x1 p1 rfl)
    subst rc
    refine h2 nm' m (decide_eq_true fun t ht tC => ?_)
    exact (of_decide_eq_true x2) t ht ((((ic.mem r).mp p2).symm hs).trans ((ic.mem t).mp tC))
theorem ctb_pce {Ls : List (List Int)} {C : List Int} (pl : Pl n P) (ndG : (G.map (·.1)).Nodup) (sub : ∀ x ∈ P.map (·.1), x ∈ G.map (·.1)) (rg : Regs D (occ n P) Ls) (hC : C ∈ Ls) (h : ctb D n P G C = true) : Pce D P G C ∧ ∃ r q, C = r :: q := by
  refine ⟨Pce.region pl ndG sub rg hC (ctb_iff.mp h).1 (ctb_in pl ndG rg hC h), ?_⟩
  obtain ⟨s, hs, ic⟩ := (rg.mem C).mp hC
  have := ic.has
  match C, this with
  | r :: q, _ => exact ⟨r, q, rfl⟩
/-- the stuck regions -/
noncomputable def stL (D : List (Int × Int)) (n : Int) (P G : List (Str × Int)) (Ls : List (List Int)) : List (List Int) := (Ls.filter (ctb D n P G)).filter fun C => !solB D P G C
end
/-- what find_block answers -/
def BlkAt (H : Hp) (v : V) (D : List (Int × Int)) (n : Int) (P G : List (Str × Int)) (Ls : List (List Int)) : Prop :=
  (∃ nm ns t, outp D (occ n P) G P = nm :: ns ∧ v = .ref t ∧ H t = some (.tup [.str "outside", .str nm])) ∨
  (outp D (occ n P) G P = [] ∧ stL D n P G Ls = [] ∧ v = .non) ∨
  ∃ C Cs r q t c rs, outp D (occ n P) G P = [] ∧ stL D n P G Ls = C :: Cs ∧ C = r :: q ∧ v = .ref t ∧ H t = some (.tup [.str "stuck", .int r, .ref c]) ∧ CtA H c rs ∧ rs.map rowR = unwL P G C ∧ (∀ x ∈ rs, RowOk D P G C x) ∧ Crt D P G C (bks rs)
section
variable {P : Program} {w : World} {K : PySem.W.Frag} {mg : Str → Option Value} {base : Heap}
end
end Fw
set_option maxHeartbeats 4000000
namespace Fw
open PySem PySem.Spec PyProof.Rows L2
/-! the law's unwanted rooms, stuck regions, rows -/
theorem small_int {r : Int} (h0 : 0 ≤ r) (h1 : r < 8) : (PyData.int r).showable = true ∧ (PyData.int r).depth ≤ 60 ∧ (PyData.int r).shown.length ≤ sizeLine := by
  have : r = 0 ∨ r = 1 ∨ r = 2 ∨ r = 3 ∨ r = 4 ∨ r = 5 ∨ r = 6 ∨ r = 7 := by omega
  rcases this with rfl | rfl | rfl | rfl | rfl | rfl | rfl | rfl <;> decide +kernel
theorem word_p : (PyData.str "passed").showable = true ∧ (PyData.str "passed").depth ≤ 60 ∧ (PyData.str "passed").shown.length ≤ sizeLine := by decide +kernel
theorem word_b : (PyData.str "back").showable = true ∧ (PyData.str "back").depth ≤ 60 ∧ (PyData.str "back").shown.length ≤ sizeLine := by decide +kernel
theorem word_ne : decide ((PyData.str "back").shown = (PyData.str "passed").shown) = false := by decide +kernel
theorem ne_self (v : V) : (!decide (v = v)) = false := by rw [decide_eq_true rfl]; rfl
theorem eq_self (v : V) : decide (v = v) = true := decide_eq_true rfl
open Classical in
theorem mem_psgW {D : List (Int × Int)} {P G : List (Str × Int)} {C : List Int} {r : Int} {nm : Str} (h : Pss D P G C r nm) : nm ∈ psgW D G r C P := by
  obtain ⟨c, t, h1, h2, h3, h4⟩ := h
  unfold psgW
  exact List.mem_map.mpr ⟨(nm, c), List.mem_filter.mpr ⟨h1, decide_eq_true ⟨h2, t, h3, h4⟩⟩, rfl⟩
section
variable {P : Program} {w : World} {K : PySem.W.Frag} {mg : Str → Option Value} {base : Heap}
def spLUnw (K : PySem.W.Frag) : Sp := fun vs H Q _ => ∃ (p g rl : Addr) (P G : List (Str × Int)) (C : List Int), vs = [.ref p, .ref g, .ref rl] ∧ PlAt H p P ∧ P.length ≤ 100 ∧ PlD H g G ∧ (G.map (·.1)).Nodup ∧ G.length ≤ 100 ∧ (∀ x ∈ P.map (·.1), x ∈ G.map (·.1)) ∧ SqT K H rl (vi C) ∧ C.length ≤ 100 ∧
  ∀ H' l, Same H H' → H' l = some (.lst (vi (unwL P G C))) → Q (.ref l) H'
/-- the same, a new list -/
def spLUnwF (K : PySem.W.Frag) : Sp := fun vs H Q _ => ∃ (p g rl : Addr) (P G : List (Str × Int)) (C : List Int), vs = [.ref p, .ref g, .ref rl] ∧ PlAt H p P ∧ P.length ≤ 100 ∧ PlD H g G ∧ (G.map (·.1)).Nodup ∧ G.length ≤ 100 ∧ (∀ x ∈ P.map (·.1), x ∈ G.map (·.1)) ∧ SqT K H rl (vi C) ∧ C.length ≤ 100 ∧
  ∀ H' l, Same H H' → H l = none → H' l = some (.lst (vi (unwL P G C))) → Q (.ref l) H'
abbrev nLUnw : List Str := ["_law_placement", "_law_target", "_law_region", "_law_homes", "_law_wanted", "_law_name", "_law_room"]
theorem scLUnw : FnScope nLUnw ["_law_placement", "_law_target", "_law_region"] (defScope sLUnw) := ⟨rfl, rfl, rfl, by decide +kernel, rfl, by decide +kernel, by decide +kernel⟩
abbrev pLUnw : List Str := ["_law_placement", "_law_target", "_law_region"]
open Classical in
theorem ok_lunwF {f : Addr} {fd : FuncData} {k : Nat} (F : Fun K "_law_unwanted" "_law_unwanted" sLUnw f fd) (Tdict : mg "dict" = none) : FnOk P w K mg base CX0 (k + 1) f fd pLUnw (spLUnwF K) := by
  refine F.ok scLUnw (fun vs H Q E h => ?_) (fun cdv A outer s H vs Q E hr h => ?_)
  · obtain ⟨p, g, rl, P, G, C, rfl, _⟩ := h
    rfl
  · obtain ⟨p, g, rl, P, G, C, rfl, hP, lP, hG, ndG, lG, sub, hR, lR, q⟩ := h
    refine ⟨_, (pss_cons (ps_set (i := 3) scLUnw.nd rfl (.inr rfl) (pe_callTy (call_dictT rfl) (by rfl) Tdict (by decide +kernel) (pa_cons (pv 1) pa_nil)))
      (pss_cons (ps_set (i := 4) scLUnw.nd rfl (.inr rfl) (pe_lc (own := [("_law_name", 5), ("_law_room", 6)]) (g := gTup K 2 (gCons (gName 5) (gCons (gName 6) gNil))) (by rfl) scLUnw.nd (pi_tupK K rfl (pv 0))
 (blkOk_by (own := [("_law_name", 5), ("_law_room", 6)]) (N := nLUnw) (sc := defScope sLUnw) (by decide +kernel))
 (fun _ _ _ _ _ => (pg_tup (by rfl) (pgs_cons (pg_name (i := 5) scLUnw.nd rfl (.inl rfl)) (pgs_cons (pg_name (i := 6) scLUnw.nd rfl (.inl rfl)) pgs_nil)))) (fun _ _ _ _ _ => pts_one (pt_cmpR (op_inK K rfl) (pv 6) (pv 2) (by rfl))) (fun _ _ _ _ _ => (pe_dget (hu_of hr) (pv 3) (pv 5) (fun _ _ => rfl)))))
      (pss_one (ps_ret (pe_lc (own := [("_law_room", 6)]) (g := gName 6) (by rfl) scLUnw.nd (pi_tupK K rfl (pv 2))
 (blkOk_by (own := [("_law_room", 6)]) (N := nLUnw) (sc := defScope sLUnw) (by decide +kernel))
 (fun _ _ _ _ _ => (pg_name (i := 6) scLUnw.nd rfl (.inl rfl))) (fun _ _ _ _ _ => pts_one (pt_cmpR (op_notInK K rfl) (pv 6) (pv 4) (by rfl))) (fun _ _ _ _ _ => (pv 6))))))), ?_⟩
    refine ⟨_, rfl, g, G, rfl, hG, ndG, by omega, fun d hd => ?_⟩
    have s0 := same_upd (o := .dK (dkI G)) hd
    have ed0 : (upd H d (.dK (dkI G))) d = some (.dK (dkI G)) := upd_same
    have hP0 := hP.same s0
    generalize upd H d (.dK (dkI G)) = H0 at *
    refine ⟨_, rfl, p, rfl, hP0.sq, fun L hL => lc_pl hP0 (fun i H1 => Same H0 H1 ∧ ∃ W, H1 L = some (.lst (vi W)) ∧ W.length ≤ i ∧ ∀ t, t ∈ W ↔ ∃ nm c, (nm, c) ∈ P.take i ∧ c ∈ C ∧ (nm, t) ∈ G)
      ⟨same_upd hL, [], upd_same, Nat.le_refl _, fun t => ⟨fun z => (List.not_mem_nil z).elim, fun ⟨nm, c, z, _⟩ => by rw [List.take_zero] at z; exact (List.not_mem_nil z).elim⟩⟩ (fun _ _ h => Tk.of h.1) ?_ ?_⟩
    · rintro k nm c H1 hk ⟨s1, W, e1, l1, m1⟩
      have mk' := List.mem_of_getElem? hk
      obtain ⟨t, mt⟩ := key_val (sub nm (List.mem_map.mpr ⟨_, mk', rfl⟩))
      refine ⟨rfl, _, rfl, _, rfl, rl, _, rfl, .inr (sqT_same (s0.trans s1) hR), rfl, flat_vi _, _, rfl, ?_⟩
      rw [if_neg (by decide), inV_vi]
      have hkl := lt_of_get hk
      have same : ∀ t', (∃ nm' c', (nm', c') ∈ P.take (k + 1) ∧ c' ∈ C ∧ (nm', t') ∈ G) ↔ (∃ nm' c', (nm', c') ∈ P.take k ∧ c' ∈ C ∧ (nm', t') ∈ G) ∨ (c ∈ C ∧ t' = t) := fun t' => by
        rw [take_snoc hk]
        constructor
        · rintro ⟨nm', c', h1, h2, h3⟩
          rcases List.mem_append.mp h1 with h1 | h1
          · exact .inl ⟨nm', c', h1, h2, h3⟩
          · obtain ⟨rfl, rfl⟩ := Prod.mk.inj (List.mem_singleton.mp h1)
            exact .inr ⟨h2, congrArg Prod.snd (key_uniq ndG h3 mt rfl)⟩
        · rintro (⟨nm', c', h1, h2⟩ | ⟨h1, rfl⟩)
          · exact ⟨nm', c', List.mem_append_left _ h1, h2⟩
          · exact ⟨nm, c, List.mem_append_right _ (List.mem_singleton.mpr rfl), h1, mt⟩
      refine ite2 (fun z => ?_) (fun z => ?_)
      · have z := of_decide_eq_true z
        refine ⟨_, rfl, _, rfl, d, _, rfl, .inl ⟨_, Sum.inr nm, .inl (s1 _ _ ed0), rfl, (valV_dkI ndG mt).symm⟩, _, e1, ?_, same_put s1 hL, W ++ [t], ?_, ?_, fun t' => ?_⟩
        · rw [List.length_map]
          exact small1000 (by omega)
        · rw [upd_same, vi_app]
          rfl
        · rw [List.length_append, List.length_singleton]
          omega
        · rw [List.mem_append, List.mem_singleton, m1, same]
          exact ⟨fun h => h.imp id fun e => ⟨z, e⟩, fun h => h.imp id fun e => e.2⟩
      · refine ⟨s1, W, e1, by omega, fun t' => ?_⟩
        rw [m1, same]
        exact ⟨fun h => .inl h, fun h => h.elim id fun e => absurd (decide_eq_true e.1) z⟩
    rintro H1 ⟨s1, W, e1, l1, m1⟩
    rw [List.take_length] at m1
    have s01 := s0.trans s1
    refine ⟨_, rfl, rl, rfl, ⟨_, sqT_same s01 hR⟩, fun M hM => lc_tup (K := K) (a := rl) (xs := vi C) (fun i H3 => Same H1 H3 ∧ H3 M = some (.lst (vi ((C.take i).filter fun r => !decide (r ∈ W)))))
      ⟨same_upd hM, upd_same⟩ (fun i H3 _ hh => sqT_same (s01.trans hh.1) hR) ?_ ?_⟩
    · rintro i x H3 hx ⟨s3, e3⟩
      obtain ⟨r, hk, rfl⟩ := get_vi hx
      have ik := lt_of_get hk
      refine ⟨rfl, _, rfl, _, rfl, L, _, rfl, .inl (SqL.of (s3 _ _ e1)), rfl, flat_vi _, _, rfl, ?_⟩
      rw [if_pos rfl, inV_vi, take_snoc hk, filter_snoc]
      refine ite2 (fun z => ?_) (fun z => ?_)
      · rw [if_pos z]
        refine ⟨_, rfl, _, e3, ?_, same_put s3 hM, ?_⟩
        · rw [List.length_map]
          refine small1000 (Nat.le_trans (List.length_filter_le _ _) ?_)
          rw [List.length_take]
          omega
        · rw [upd_same, vi_app]
          rfl
      · rw [if_neg z, List.append_nil]
        exact ⟨s3, e3⟩
    rintro H2 ⟨s2, e2⟩
    rw [List.length_map, List.take_length] at e2
    refine q _ M (s01.trans s2) (s01.free hM) ?_
    have : unwL P G C = C.filter fun r => !decide (r ∈ W) := by
      unfold unwL
      refine List.filter_congr fun r hr => ?_
      rw [Bool.eq_iff_iff, decide_eq_true_eq, Bool.not_eq_true', decide_eq_false_iff_not, m1]
      constructor
      · rintro ⟨_, u⟩ ⟨nm, c, h1, h2, h3⟩
        exact u nm c r h1 h2 h3 rfl
      · intro no
        exact ⟨hr, fun nm c t h1 h2 h3 e => no ⟨nm, c, h1, h2, e ▸ h3⟩⟩
    rw [this]
    exact e2
theorem ok_lunw {f : Addr} {fd : FuncData} {k : Nat} (F : Fun K "_law_unwanted" "_law_unwanted" sLUnw f fd) (Tdict : mg "dict" = none) : FnOk P w K mg base CX0 (k + 1) f fd pLUnw (spLUnw K) :=
  (ok_lunwF F Tdict).imp fun vs H Q E ⟨p, g, rl, P, G, C, e, a1, a2, a3, a4, a5, a6, a7, a8, q⟩ => ⟨p, g, rl, P, G, C, e, a1, a2, a3, a4, a5, a6, a7, a8, fun H' l s _ e => q H' l s e⟩
def spLIsRow (K : PySem.W.Frag) : Sp := fun vs H Q _ => ∃ (h p g rl t : Addr) (n : Int) (D : List (Int × Int)) (P G : List (Str × Int)) (C : List Int) (r : Int) (x : Row), vs = [.ref h, .ref p, .ref g, .ref rl, .int r, .ref t] ∧ HouseAt H h n D ∧ Forest n D ∧ n ≤ 8 ∧ PlAt H p P ∧ Pl n P ∧ P.length ≤ 100 ∧ PlD H g G ∧ Pl n G ∧ G.length ≤ 100 ∧ (∀ x ∈ P.map (·.1), x ∈ G.map (·.1)) ∧ SqT K H rl (vi C) ∧ C.length ≤ 8 ∧ Pce D P G C ∧ Unw P G C r ∧ H t = some (.tup (rowV x)) ∧ rowR x = r ∧ RowOk D P G C x ∧ ∀ H', Same H H' → Q (.bl true) H'
abbrev nLIsRow : List Str := ["_law_house", "_law_placement", "_law_target", "_law_region", "_law_room", "_law_thing", "_law_names_here", "_law_one"]
theorem scLIsRow : FnScope nLIsRow ["_law_house", "_law_placement", "_law_target", "_law_region", "_law_room", "_law_thing"] (defScope sLIsRow) := ⟨rfl, rfl, rfl, by decide +kernel, rfl, by decide +kernel, by decide +kernel⟩
abbrev pLIsRow : List Str := ["_law_house", "_law_placement", "_law_target", "_law_region", "_law_room", "_law_thing"]
theorem ok_lisrow {f : Addr} {fd : FuncData} {k : Nat} (F : Fun K "_law_is_row" "_law_is_row" sLIsRow f fd) (T : Nm mg) (C_law_passing : Cal P w K mg base (k + 3) "_law_passing" pLPassing (spLPassR K)) (C_law_neighbors : Cal P w K mg base (k + 3) "_law_neighbors" ["_law_house", "_law_room"] spLNb) (C_law_next_room : Cal P w K mg base (k + 3) "_law_next_room" pLNextR spLNextR) : FnG P w K mg base (k + 4) f fd pLIsRow (spLIsRow K) := by
  refine Fun.okG F scLIsRow (fun vs H Q E h => ?_) (fun cdv A outer s H vs Q gd hr h => ?_)
  · obtain ⟨h, p, g, rl, t, n, D, P, G, C, r, x, rfl, _⟩ := h
    rfl
  · obtain ⟨h, p, g, rl, t, n, D, P, G, C, r, x, rfl, hH, hF, n1, hP, pl, lP, hG, plG, lG, sub, hC, lC, pc, uw, et, er, ok, q⟩ := h
    refine ⟨_, (pss_cons (ps_if (PW.pt (pw_or (pt_not (pt_val (pe_callB call_isi (by rfl) T.isinstance (by decide +kernel) (pa_cons (pv 5) (pa_cons (pe_bltn (v := .ty "tuple") (by rfl) T.tuple (by decide +kernel) rfl) pa_nil))))) (pw_or (pt_cmpR op_ne (pe_callB (call_lenK K rfl) (by rfl) T.len (by decide +kernel) (pa_cons (pv 5) pa_nil)) pe_int (nomark _)) (pw_or1 (pt_cmpR op_ne (pe_callB (call_reprVK (av := []) rfl gd (units65 hr)) (by rfl) T.repr (by decide +kernel) (pa_cons (pe_ix (ix_tupK K rfl) (pv 5) pe_int (fun _ _ => rfl)) pa_nil)) (pe_callB (call_reprVK (av := []) rfl gd (units65 hr)) (by rfl) T.repr (by decide +kernel) (pa_cons (pv 4) pa_nil)) (nomark _))))))
      (pss_one (ps_ret pe_bl))
      pss_nil)
      (pss_cons (ps_if (pt_cmpR op_eq (pe_callB (call_reprVK (av := []) rfl gd (units65 hr)) (by rfl) T.repr (by decide +kernel) (pa_cons (pe_ix (ix_tupK K rfl) (pv 5) pe_int (fun _ _ => rfl)) pa_nil)) (pe_callB (call_reprVK (av := []) rfl gd (units65 hr)) (by rfl) T.repr (by decide +kernel) (pa_cons pe_str pa_nil)) (nomark _))
      (pss_cons (ps_set (i := 6) scLIsRow.nd rfl (.inl rfl) (pe_cal C_law_passing hr (by rfl) (pa_cons (pv 0) (pa_cons (pv 1) (pa_cons (pv 2) (pa_cons (pv 4) (pa_cons (pv 3) pa_nil)))))))
       (pss_one (ps_ret (pe_and (pe_callB call_isi (by rfl) T.isinstance (by decide +kernel) (pa_cons (pe_ix (ix_tupK K rfl) (pv 5) pe_int (fun _ _ => rfl)) (pa_cons (pe_bltn (v := .ty "str") (by rfl) T.str (by decide +kernel) rfl) pa_nil))) (pe_one (pe_cmpR (op_inK K rfl) (pe_ix (ix_tupK K rfl) (pv 5) pe_int (fun _ _ => rfl)) (pv 6) (by rfl)))))))
      pss_nil)
      (pss_cons (ps_if (PW.pt (pw_or (pt_cmpR op_ne (pe_callB (call_reprVK (av := []) rfl gd (units65 hr)) (by rfl) T.repr (by decide +kernel) (pa_cons (pe_ix (ix_tupK K rfl) (pv 5) pe_int (fun _ _ => rfl)) pa_nil)) (pe_callB (call_reprVK (av := []) rfl gd (units65 hr)) (by rfl) T.repr (by decide +kernel) (pa_cons pe_str pa_nil)) (nomark _)) (pw_or1 (pt_cmpR (op_notInK K rfl) (pe_callB (call_reprVK (av := []) rfl gd (units65 hr)) (by rfl) T.repr (by decide +kernel) (pa_cons (pe_ix (ix_tupK K rfl) (pv 5) pe_int (fun _ _ => rfl)) pa_nil)) (pe_lc (own := [("_law_one", 7)]) (g := gName 7) (by rfl) scLIsRow.nd (pi_tupK K rfl (pv 3))
 (blkOk_by (own := [("_law_one", 7)]) (N := nLIsRow) (sc := defScope sLIsRow) (by decide +kernel))
 (fun _ _ _ _ _ => (pg_name (i := 7) scLIsRow.nd rfl (.inl rfl))) (fun _ _ _ _ _ => pts_nil) (fun _ _ _ _ _ => (pe_callB (call_reprVK (av := []) rfl gd (units65 hr)) (by rfl) T.repr (by decide +kernel) (pa_cons (pv 7) pa_nil)))) (by rfl)))))
      (pss_one (ps_ret pe_bl))
      pss_nil)
      (pss_one (ps_ret (pe_and (pe_cmpR (op_inK K rfl) (pe_ix (ix_tupK K rfl) (pv 5) pe_int (fun _ _ => rfl)) (pe_cal C_law_neighbors hr (by rfl) (pa_cons (pv 0) (pa_cons (pv 4) pa_nil))) (by rfl)) (pe_one (pe_cmpR op_ne (pe_ix (ix_tupK K rfl) (pv 5) pe_int (fun _ _ => rfl)) (pe_cal C_law_next_room hr (by rfl) (pa_cons (pv 0) (pa_cons (pv 1) (pa_cons (pv 2) (pa_cons (pv 4) pa_nil))))) (nomark _))))))))), ?_⟩
    have rC := uw.1
    have rng : ∀ v ∈ C, 0 ≤ v ∧ v < 8 := fun v hv => by
      obtain ⟨nm, m, _⟩ := pc.who v hv
      have := pl.rm _ m
      omega
    have sr := small_int (rng r rC).1 (rng r rC).2
    refine ⟨_, rfl, _, _, _, _, _, rfl, .ty _, .base (.tup et), kit_ty k_tt, _, rfl, iteF ?_⟩
    cases x with
    | p r' nm =>
      replace er : r' = r := er
      subst er
      refine ⟨_, rfl, t, _, rfl, .inr (SqT.of et), rfl, _, rfl, iteF ?_⟩
      refine ⟨_, rfl, t, _, _, _, rfl, rfl, SqT.of et, atI0, _, _, rfl, .int r', sr.1, sr.2.1, sr.2.2, _, rfl, _, _, rfl, .int r', sr.1, sr.2.1, sr.2.2, rfl, _, rfl, ?_⟩
      rw [ne_self]
      refine iteF ?_
      refine ⟨_, rfl, t, _, _, _, rfl, rfl, SqT.of et, atI1, _, _, rfl, .str _, word_p.1, word_p.2.1, word_p.2.2, _, _, rfl, .str _, word_p.1, word_p.2.1, word_p.2.2, rfl, _, rfl, ?_⟩
      rw [eq_self]
      refine iteT ?_
      refine ⟨_, rfl, _, rfl, _, rfl, _, rfl, _, rfl, h, p, g, rl, n, D, P, G, r', C, rfl, hH, hF, n1, hP, pl, lP, hG, plG, lG, sub, hC, fun H1 l s1 el => ?_⟩
      refine ⟨_, rfl, t, _, _, _, rfl, rfl, SqT.of (s1 _ _ et), atI2, _, _, _, _, _, rfl, .ty _, .base (.str _), kit_ty k_ss, _, rfl, ?_⟩
      refine iteT ⟨_, rfl, t, _, _, _, rfl, rfl, SqT.of (s1 _ _ et), atI2, _, rfl, l, _, rfl, .inl (SqL.of el), rfl, flat_vs _, ?_⟩
      rw [if_neg (by decide), inV_vs, decide_eq_true (mem_psgW ok)]
      exact q _ s1
    | b r' v =>
      replace er : r' = r := er
      subst er
      obtain ⟨vC, ad, no⟩ := ok
      have sv := small_int (rng v vC).1 (rng v vC).2
      refine ⟨_, rfl, t, _, rfl, .inr (SqT.of et), rfl, _, rfl, iteF ?_⟩
      refine ⟨_, rfl, t, _, _, _, rfl, rfl, SqT.of et, atI0, _, _, rfl, .int r', sr.1, sr.2.1, sr.2.2, _, rfl, _, _, rfl, .int r', sr.1, sr.2.1, sr.2.2, rfl, _, rfl, ?_⟩
      rw [ne_self]
      refine iteF ?_
      refine ⟨_, rfl, t, _, _, _, rfl, rfl, SqT.of et, atI1, _, _, rfl, .str _, word_b.1, word_b.2.1, word_b.2.2, _, _, rfl, .str _, word_p.1, word_p.2.1, word_p.2.2, rfl, _, rfl, ?_⟩
      rw [str_dec, word_ne]
      refine iteF ?_
      refine ⟨_, rfl, t, _, _, _, rfl, rfl, SqT.of et, atI1, _, _, rfl, .str _, word_b.1, word_b.2.1, word_b.2.2, _, _, rfl, .str _, word_b.1, word_b.2.1, word_b.2.2, rfl, _, rfl, ?_⟩
      rw [ne_self]
      refine iteF ?_
      refine ⟨_, rfl, t, _, _, _, rfl, rfl, SqT.of et, atI2, _, _, rfl, .int v, sv.1, sv.2.1, sv.2.2, ?_⟩
      refine ⟨_, rfl, rl, rfl, ⟨_, hC⟩, fun L hL => lc_tup (K := K) (a := rl) (xs := vi C) (fun i H' => Same H H' ∧ H' L = some (.lst (((C.take i).map fun v => (PyData.int v).shown).map V.str))) ⟨same_upd hL, upd_same⟩ (fun i H' _ hh => sqT_same hh.1 hC) ?_ ?_⟩
      · rintro i x H1 hx ⟨s1, e1⟩
        obtain ⟨y, hy, rfl⟩ := get_vi hx
        have iy := lt_of_get hy
        have yC := List.mem_of_getElem? hy
        have sy := small_int (rng y yC).1 (rng y yC).2
        refine ⟨rfl, tYes_q (iteT ⟨_, rfl, _, _, rfl, .int y, sy.1, sy.2.1, sy.2.2, _, e1, ?_, same_put s1 hL, ?_⟩)⟩
        · rw [List.length_map, List.length_map, List.length_take]
          exact small1000 (by omega)
        · rw [upd_same, take_snoc hy, List.map_append, List.map_append]
          rfl
      · rintro H1 ⟨s1, e1⟩
        rw [List.length_map, List.take_length] at e1
        refine ⟨L, _, rfl, .inl (SqL.of e1), rfl, flat_vs _, _, rfl, ?_⟩
        rw [if_pos rfl, inV_vs, decide_eq_true (List.mem_map_of_mem (f := fun v => (PyData.int v).shown) vC)]
        refine iteF ?_
        refine ⟨_, rfl, t, _, _, _, rfl, rfl, SqT.of (s1 _ _ et), atI2, _, rfl, _, rfl, h, n, D, r', rfl, hH.same s1, hF, fun H2 l s2 _ el => ⟨l, _, rfl, .inl (SqL.of el), rfl, flat_vi _, _, rfl, ?_⟩⟩
        rw [if_neg (show ¬ (false = true) by decide), inV_vi, decide_eq_true (hF.mem_nb.mpr ad)]
        obtain ⟨nm, tt, a, qq, m, un, mt, sp, aC⟩ := uw.ahead (n := n) pc sub
        have s12 := s1.trans s2
        refine iteT ⟨_, rfl, t, _, _, _, rfl, rfl, SqT.of (s12 _ _ et), atI2, _, rfl, _, rfl, _, rfl, _, rfl, h, p, g, n, D, P, G, nm, r', tt, a, qq, rfl, hH.same s12, hF, n1, hP.same s12, pl, lP, hG.same s12, plG, lG, m, un, mt, sp, fun H3 s3 => ⟨rfl, ?_⟩⟩
        rw [int_dec, decide_eq_false fun e => no (by rw [e]; exact ⟨nm, tt, qq, m, mt, sp⟩)]
        exact q _ (s12.trans s3)
end
end Fw
set_option maxHeartbeats 2000000
namespace Fw
open PySem PySem.Spec PyProof.Rows L2
/-! new lists that are told not to be sys.modules -/
section
variable {X : Cx} {es : List Expr} {t : TA} {pos : Pos}
def tLstN (t : TA) : TE := fun σ H Q => t σ H fun xs H1 => xs.length ≤ sizeLine ∧ ∀ p, H1 p = none → p ≠ sysModules → Q (.ref p) (upd H1 p (.lst xs))
theorem pe_lstN (h : PA X es t) : PE X (.List es pos) (tLstN t) :=
  ⟨fun pn sh σ H Q J hq => wpAny_List_spliced (thn (h.run pos pn sh σ H _ J hq) fun us s1 ⟨xs, H1, J1, rs, z, q⟩ =>
    ⟨rs.length ▸ z, .ref _, _, J1.lnew (t' := s1.toks) rs z, rfl, q _ J1.fresh fun e => Nat.ne_of_lt J1.big e.symm⟩)⟩
/-- list(t), t a tuple -/
def rListN (K : PySem.W.Frag) : List V → Hp → VK → Prop := fun xs H Q => ∃ (p : Addr) (ys : List V), xs = [.ref p] ∧ SqT K H p ys ∧ ∀ l, H l = none → l ≠ sysModules → Q (.ref l) (upd H l (.lst ys))
theorem call_listN : CallR X (.type "list") (rListN X.K) := by
  intro pn sh σ H xs us Q J rr hh
  obtain ⟨p, ys, rfl, hq, q⟩ := hh
  obtain ⟨ua, rfl, ra⟩ := vals1 rr
  cases ra
  obtain ⟨its, r', pl, hz⟩ := J.tuple hq
  obtain ⟨o, ho, hc, n, hd⟩ := pl
  have hl := r'.length
  refine call_list_seq p (.inr rfl) ho hc hd (fun h' c' kp e => ?_) (by simp only [List.size_toArray]; omega)
  exact ⟨.ref sh.heap.objs.size, _, J.laid (t' := sh.toks) kp (Nat.le_refl _) (show ObjOk X.prog X.w _ h' _ (.lst ys) from ⟨hz, its, c', r', e⟩), rfl, q _ (J.hok.fresh (Nat.le_refl _)) fun e => Nat.ne_of_lt J.big e.symm⟩
end
end Fw
set_option maxHeartbeats 2000000
namespace Fw
open PySem PySem.Spec PyProof.Rows L2
/-! ### a text and any value -/
theorem decl_str (b : Str) (u : Tok) (l : Addr) (dd : Option Addr) (es : Array DictEntry) (n : Nat) (ss : Array (Option Value)) :
    Meets (Builtin.«str.__eq__» ⟨[.str b u, .ref l], []⟩) (fun _ R s => s.heap.get? l = some { cls := .type "dict", dict := dd, data := .dict es n, slots := ss } ∧ R (.ok (.ret .notImplemented)) s) :=
  .of_wp fun prog w A R s h => by
    obtain ⟨hp, g, d, tk, os⟩ := s
    obtain ⟨hl, h⟩ := h
    wp_walk using wpAny_loadPart hl, wpAny_load hl
    exact ⟨_, rfl, h⟩
theorem decl_dict (b : Str) (u : Tok) (l : Addr) (dd : Option Addr) (es : Array DictEntry) (n : Nat) (ss : Array (Option Value)) :
    Meets (Builtin.«dict.__eq__» ⟨[.ref l, .str b u], []⟩) (fun _ R s => s.heap.get? l = some { cls := .type "dict", dict := dd, data := .dict es n, slots := ss } ∧ R (.ok (.ret .notImplemented)) s) :=
  .of_wp fun prog w A R s h => by
    obtain ⟨hp, g, d, tk, os⟩ := s
    obtain ⟨hl, h⟩ := h
    have f1 := F.sub_str_dict
    wp_walk using wpAny_loadPart hl, wpAny_load hl
    exact ⟨_, rfl, h⟩
/-- is it that text -/
def strIs (z : Str) : PyData → Bool
  | .str y => z == y
  | _ => false
theorem rc_dict {A : Around} {s : Shared} {l : Addr} {o : Obj} {es : Array DictEntry} {n : Nat} (b : Str) (u : Tok) (ho : s.heap.get? l = some o) (hc : o.cls = .type "dict") (hd : o.data = .dict es n) (hu : A.units < cLine) : SeqAt.RcAt A s (.str b u) (.ref l) false := fun prog w E Q h => by
  obtain ⟨c, dd, da, ss⟩ := o
  cases hc
  cases hd
  refine SeqAt.rc_eq_decline_or (k := false) (typeIs_str s b u) ⟨_, ho, rfl⟩ (by decide) F.sub_dict_str F.slot_str_eq F.slot_dict_eq_refl ?_ ?_ ?_ (.inr hu) h
  · exact fun _ q => call_meets F.slot_str_eq (typeIs_str s b u) F.entry_str_eq (F.args_str_eq_2 _ _) (decl_str b u l dd es n ss) ⟨ho, q⟩
  · exact fun _ q => call_meets F.slot_dict_eq_refl ⟨_, ho, rfl⟩ F.entry_dict_eq (F.args_dict_eq_2 _ _) (decl_dict b u l dd es n ss) ⟨ho, q⟩
  · exact fun _ q => wpAny_of_eq (rfl : isSame (.str b u) (.ref l) = pure false) q
theorem eq_of_rc {A : Around} {s : Shared} {b : Str} {u : Tok} {l : Addr} {k : Bool} (h : SeqAt.RcAt A s (.str b u) (.ref l) k) : SeqAt.EqAt A s (.str b u) (.ref l) k := fun prog w E Q q => by
  unfold eqBool
  refine wpAny_holding (wpAny_ite_split (fun e => absurd (eq_of_beq e) nofun) fun _ => ?_)
  exact wpAny_bind (h prog w E _ (wpAny_truthy_bool q))
section
variable {X : Cx} {pins : List (Addr × Obj)} {σ : L2.St} {H : Hp} {s : Shared} {av : List Addr} {A : Around}
theorem dict_at {a : Addr} (I : Inv X pins σ H s) (e : H a = some (.dK [])) : ∃ o es n, s.heap.get? a = some o ∧ o.cls = .type "dict" ∧ o.data = .dict es n := by
  obtain ⟨_, y, vs, kv, o, es, ep, ho, hx, hd, _⟩ := (show ObjOk X.prog X.w H s.heap a (.dK []) from I.hok a _ e)
  exact ⟨o, es, ep, ho, hx.1, hd⟩
theorem rc_any (I : Inv X pins σ H s) {v : V} {d : PyData} {x : Value} (h : Dx X.K av H v d) (r : RelV v x) (hu : A.units < cLine) (z : Str) (t : Tok) : SeqAt.RcAt A s (.str z t) x (strIs z d) := by
  cases h with
  | non => cases r; exact SeqAt.RcAt.str_none z t
  | bl b => cases r; exact SeqAt.RcAt.str_bool z t b
  | int i => obtain ⟨u, rfl⟩ := r; exact SeqAt.RcAt.str_int z t i u
  | str y => obtain ⟨u, rfl⟩ := r; exact SeqAt.RcAt.str_str z t y u
  | lst h _ _ =>
    cases r
    obtain ⟨its, _, pl, _⟩ := I.list h
    exact SeqAt.RcAt.str_list z t pl.isList hu
  | tup h _ =>
    cases r
    obtain ⟨its, _, pl, _⟩ := I.tuple h
    exact SeqAt.RcAt.str_tuple z t pl hu
  | dct e =>
    cases r
    obtain ⟨o, es, n, h1, h2, h3⟩ := dict_at I e
    exact rc_dict z t h1 h2 h3 hu
theorem eq_any (I : Inv X pins σ H s) {v : V} {d : PyData} {x : Value} (h : Dx X.K av H v d) (r : RelV v x) (hu : A.units < cLine) (z : Str) (t : Tok) : SeqAt.EqAt A s (.str z t) x (strIs z d) := by
  cases h with
  | non => cases r; exact SeqAt.EqAt.str_none z t
  | bl b => cases r; exact SeqAt.EqAt.str_bool z t b
  | int i => obtain ⟨u, rfl⟩ := r; exact SeqAt.EqAt.str_int z t i u
  | str y => obtain ⟨u, rfl⟩ := r; exact SeqAt.EqAt.str_str z t y u
  | lst h _ _ =>
    cases r
    obtain ⟨its, _, pl, _⟩ := I.list h
    exact SeqAt.EqAt.str_list z t pl.isList hu
  | tup h _ =>
    cases r
    obtain ⟨its, _, pl, _⟩ := I.tuple h
    exact SeqAt.EqAt.str_tuple z t pl hu
  | dct e =>
    cases r
    obtain ⟨o, es, n, h1, h2, h3⟩ := dict_at I e
    exact eq_of_rc (rc_dict z t h1 h2 h3 hu)
end
section
variable {X : Cx} {av : List Addr}
/-- text == any value -/
def rEqA (K : PySem.W.Frag) (av : List Addr) : R2 := fun x y H Q => ∃ z d, x = .str z ∧ Dx K av H y d ∧ Q (.bl (strIs z d)) H
theorem op_eqA (hu : X.A.units < cLine) : OpR X (compareOp .Eq) (rEqA X.K av) := by
  rintro pins s σ H _ y v u Q I rx ry ⟨z, d, rfl, h, q⟩
  obtain ⟨t, rfl⟩ := rx
  exact rc_any I h ry hu z t X.prog X.w X.xe _ ⟨.bl _, H, I, rfl, q⟩
/-- any value not in a list of texts -/
def rNotInA (K : PySem.W.Frag) (av : List Addr) : R2 := fun x y H Q => ∃ (l : Addr) (ns : List Str) (d : PyData), y = .ref l ∧ SqL K H l (ns.map V.str) ∧ Dx K av H x d ∧ Q (.bl (!ns.any fun z => strIs z d)) H
theorem any_vals {ns : List Str} {us : List Value} {f : Str → Bool} {g : Value → Bool} (r : Vals (ns.map V.str) us) (h : ∀ z t, g (.str z t) = f z) : us.toArray.any g = ns.any f := by
  rw [List.any_toArray]
  induction ns generalizing us with
  | nil => cases r; rfl
  | cons n ns ih =>
    cases r with
    | cons r1 r2 =>
      obtain ⟨t, rfl⟩ := r1
      rw [List.any_cons, List.any_cons, h, ih r2]
theorem vals_str : ∀ {ns : List Str} {us : List Value}, Vals (ns.map V.str) us → ∀ {y : Value}, y ∈ us → ∃ z t, y = Value.str z t
  | [], _, .nil, _, h => by cases h
  | n :: ns, _, .cons ⟨t, e⟩ r, _, h => by
    rcases List.mem_cons.mp h with h | h
    · exact ⟨n, t, h.trans e⟩
    · exact vals_str r h
theorem op_notInA (hu : X.A.units + 1 < cLine) : OpR X (compareOp .NotIn) (rNotInA X.K av) := by
  rintro pins s σ H x _ v u Q I rx ry ⟨l, ns, d, rfl, hl, h, q⟩
  cases ry
  obtain ⟨its, rv, pl, _⟩ := I.list hl
  have hu1 : X.A.in1.units < cLine := hu
  refine SeqAt.notIn_listAt (fun y => match y with | .str z _ => strIs z d | _ => false) pl.isList (fun y hy => ?_) ?_
  · obtain ⟨z, t, rfl⟩ := vals_str rv (by simpa using hy)
    exact eq_any I h rx hu1 z t
  · rw [any_vals (f := fun z => strIs z d) rv fun z t => rfl]
    exact ⟨.bl _, H, I, rfl, q⟩
end
end Fw
set_option maxHeartbeats 2000000
namespace Fw
open PySem PySem.Spec PyProof.Rows L2
/-- the type's name of a value -/
def kindD : PyData → String
  | .none => "NoneType"
  | .bool _ => "bool"
  | .int _ => "int"
  | .str _ => "str"
  | .list _ => "list"
  | .tuple _ => "tuple"
  | .dict _ => "dict"
theorem dx_ty {K : PySem.W.Frag} {av : List Addr} {H : Hp} {v : V} {d : PyData} (h : Dx K av H v d) : TyX K H v (.type (kindD d)) := by
  cases h with
  | non => exact .base .non
  | bl b => exact .base (.bl b)
  | int i => exact .base (.int i)
  | str x => exact .base (.str x)
  | lst h n a =>
    rcases h with (e | ⟨ob, e⟩) | ⟨o, its, n, e, c, _⟩
    · exact .base (.lst e)
    · exact .base (.frz e)
    · exact .kList e c
  | tup h a =>
    rcases h with (e | ⟨ob, e⟩) | ⟨o, its, n, e, c, _⟩
    · exact .base (.tup e)
    · exact .fTuple e
    · exact .kTuple e c
  | dct e => exact .base (.dK e)
/-- the answer of isinstance(v, T) for T among tuple, int, bool, str -/
def isD (T : String) (d : PyData) : Bool := kindD d == T || (T == "int" && kindD d == "bool")
theorem kitD {K : PySem.W.Frag} {T : String} (hT : T ∈ ["tuple", "int", "bool", "str"]) (d : PyData) : PySem.W.kitOne K (.type (kindD d)) (.type T) = some (isD T d) := by
  have key : ∀ k ∈ ["NoneType", "bool", "int", "str", "list", "tuple", "dict"], ∀ T ∈ ["tuple", "int", "bool", "str"], (if (Value.type k == Value.type T) = true then some true else if PySem.W.kitMeta T = true then (fastBuiltinMro k).map (·.contains (Value.type T)) else none) = some (k == T || (T == "int" && k == "bool")) := by
    decide +kernel
  have hk : kindD d ∈ ["NoneType", "bool", "int", "str", "list", "tuple", "dict"] := by cases d <;> simp [kindD]
  exact key _ hk T hT
/-- isinstance(v, T) -/
def rIsD (K : PySem.W.Frag) (av : List Addr) : List V → Hp → VK → Prop := fun xs H Q => ∃ (x : V) (T : String) (d : PyData), xs = [x, .ty T] ∧ T ∈ ["tuple", "int", "bool", "str"] ∧ Dx K av H x d ∧ Q (.bl (isD T d)) H
theorem call_isD {X : Cx} {av : List Addr} : CallR X (.builtin "isinstance") (rIsD X.K av) := by
  intro pn sh σ H xs us Q J rr hh
  obtain ⟨x, T, d, rfl, hT, hd, q⟩ := hh
  exact call_isi pn sh σ H _ us Q J rr ⟨x, .ty T, _, .type T, _, rfl, .ty T, dx_ty hd, kitD hT d, q⟩
end Fw
set_option maxHeartbeats 2000000
namespace Fw
open PySem PySem.Spec PyProof.Rows L2
/-! values of any kind with a bound: the numbers' size, the depth, the bulk -/
mutual
def okI (b : Nat) : PyData → Bool
  | .int i => decide (i.natAbs ≤ 10 ^ 59 + b)
  | .str z => z.cps.toList.all fun c => decide (c < 1114112)
  | .list ds => okIA b ds
  | .tuple ds => okIA b ds
  | .dict kvs => kvs.isEmpty
  | .none => true
  | .bool _ => true
def okIA (b : Nat) : List PyData → Bool
  | [] => true
  | d :: ds => okI b d && okIA b ds
end
theorem int_short {i : Int} {b : Nat} (h : i.natAbs ≤ 10 ^ 59 + b) (hb : b ≤ 1000) : (PyData.shown (.int i)).length ≤ 70 ∧ i.natAbs.log2 < 1920 := by
  have h1 : i.natAbs < 10 ^ 60 := by
    have : (10 : Nat) ^ 59 + 1000 < 10 ^ 60 := by decide +kernel
    omega
  constructor
  · have e := int_text_length_le10 (k := 60) (by decide) h1
    show (Str.ofString (toString i)).length ≤ 70
    rw [PySem.ofString_length]
    omega
  · by_cases z : i.natAbs = 0
    · rw [z]; decide
    · rw [Nat.log2_lt z]
      have : (10 : Nat) ^ 60 < 2 ^ 200 := by decide +kernel
      have : (2 : Nat) ^ 200 ≤ 2 ^ 1920 := Nat.pow_le_pow_right (by decide) (by decide)
      omega
mutual
theorem okI_short {b : Nat} (hb : b ≤ 1000) : ∀ d : PyData, okI b d = true → d.leavesShort 70 = true ∧ d.showable = true
  | .int i, h => by
    have h := int_short (of_decide_eq_true (show decide (i.natAbs ≤ 10 ^ 59 + b) = true from h)) hb
    simp only [PyData.leavesShort, PyData.showable]
    exact ⟨decide_eq_true h.1, decide_eq_true h.2⟩
  | .str z, h => by
    simp only [PyData.leavesShort, PyData.showable]
    refine ⟨?_, trivial⟩
    have h : (z.cps.toList.all fun c => decide (c < 1114112)) = true := h
    rw [List.all_eq_true] at h ⊢
    intro c hc
    have := of_decide_eq_true (h c hc)
    have e : (16 : Nat) ^ 8 = 4294967296 := by decide
    exact decide_eq_true (by omega)
  | .list ds, h => by
    simp only [PyData.leavesShort, PyData.showable]
    exact okIA_short hb ds h
  | .tuple ds, h => by
    simp only [PyData.leavesShort, PyData.showable]
    exact okIA_short hb ds h
  | .dict [], _ => by
    simp [PyData.leavesShort, PyData.showable, PyData.leavesShortKv, PyData.showableKv]
  | .dict (_ :: _), h => by cases h
  | .none, _ => by simp [PyData.leavesShort, PyData.showable]
  | .bool _, _ => by simp [PyData.leavesShort, PyData.showable]
theorem okIA_short {b : Nat} (hb : b ≤ 1000) : ∀ ds : List PyData, okIA b ds = true → PyData.leavesShortAll 70 ds = true ∧ PyData.showableAll ds = true
  | [], _ => ⟨rfl, rfl⟩
  | d :: ds, h => by
    have h : (okI b d && okIA b ds) = true := h
    rw [Bool.and_eq_true] at h
    obtain ⟨a1, a2⟩ := okI_short hb d h.1
    obtain ⟨b1, b2⟩ := okIA_short hb ds h.2
    simp only [PyData.leavesShortAll, PyData.showableAll, a1, a2, b1, b2, Bool.and_true, and_self]
end
mutual
theorem okI_up {a b : Nat} (h : a ≤ b) : ∀ d : PyData, okI a d = true → okI b d = true
  | .int i, z => decide_eq_true (Nat.le_trans (of_decide_eq_true (show decide (i.natAbs ≤ 10 ^ 59 + a) = true from z)) (by omega))
  | .str _, z => z
  | .list ds, z => okIA_up h ds z
  | .tuple ds, z => okIA_up h ds z
  | .dict _, z => z
  | .none, _ => rfl
  | .bool _, _ => rfl
theorem okIA_up {a b : Nat} (h : a ≤ b) : ∀ ds : List PyData, okIA a ds = true → okIA b ds = true
  | [], _ => rfl
  | d :: ds, z => by
    have z : (okI a d && okIA a ds) = true := z
    rw [Bool.and_eq_true] at z
    show (okI b d && okIA b ds) = true
    rw [Bool.and_eq_true]
    exact ⟨okI_up h d z.1, okIA_up h ds z.2⟩
end
structure Gd (b k n : Nat) (d : PyData) : Prop where
  i : okI b d = true
  p : d.depth ≤ k
  w : d.bulk ≤ n
structure GdA (b k n : Nat) (ds : List PyData) : Prop where
  i : okIA b ds = true
  p : PyData.depthAll ds ≤ k
  w : PyData.bulkAll ds ≤ n
theorem Gd.up {a b j k m n : Nat} {d : PyData} (h : Gd a j m d) (h1 : a ≤ b) (h2 : j ≤ k) (h3 : m ≤ n) : Gd b k n d := ⟨okI_up h1 d h.i, Nat.le_trans h.p h2, Nat.le_trans h.w h3⟩
theorem GdA.up {a b j k m n : Nat} {d : List PyData} (h : GdA a j m d) (h1 : a ≤ b) (h2 : j ≤ k) (h3 : m ≤ n) : GdA b k n d := ⟨okIA_up h1 d h.i, Nat.le_trans h.p h2, Nat.le_trans h.w h3⟩
theorem GdA.nil {b k n : Nat} : GdA b k n [] := ⟨rfl, Nat.zero_le _, Nat.zero_le _⟩
theorem GdA.cons {b k m n : Nat} {d : PyData} {ds : List PyData} (h : Gd b k m d) (t : GdA b k n ds) : GdA b k (m + 1 + n) (d :: ds) := by
  refine ⟨?_, ?_, ?_⟩
  · show (okI b d && okIA b ds) = true
    rw [h.i, t.i]; rfl
  · simp only [PyData.depthAll]
    have := h.p; have := t.p; omega
  · simp only [PyData.bulkAll]
    have := h.w; have := t.w; omega
theorem GdA.un {b k n : Nat} {d : PyData} {ds : List PyData} (h : GdA b k n (d :: ds)) : ∃ m l, m + 1 + l ≤ n ∧ Gd b k m d ∧ GdA b k l ds := by
  obtain ⟨h1, h2, h3⟩ := h
  have h1 : (okI b d && okIA b ds) = true := h1
  rw [Bool.and_eq_true] at h1
  simp only [PyData.depthAll] at h2
  simp only [PyData.bulkAll] at h3
  exact ⟨_, _, h3, ⟨h1.1, by omega, Nat.le_refl _⟩, ⟨h1.2, by omega, Nat.le_refl _⟩⟩
theorem GdA.app {b k n : Nat} {ys : List PyData} (t : GdA b k n ys) : ∀ {m : Nat} {xs : List PyData}, GdA b k m xs → GdA b k (m + n) (xs ++ ys)
  | m, [], _ => t.up (Nat.le_refl _) (Nat.le_refl _) (by omega)
  | m, x :: xs, h => by
    obtain ⟨a, l, e, h1, h2⟩ := h.un
    exact (GdA.cons h1 (GdA.app t h2)).up (Nat.le_refl _) (Nat.le_refl _) (by omega)
theorem GdA.split {b k n : Nat} : ∀ {xs ys : List PyData}, GdA b k n (xs ++ ys) → ∃ m l, m + l ≤ n ∧ GdA b k m xs ∧ GdA b k l ys
  | [], ys, h => ⟨0, n, by omega, .nil, h⟩
  | x :: xs, ys, h => by
    obtain ⟨a, l, e, h1, h2⟩ := GdA.un (d := x) (ds := xs ++ ys) h
    obtain ⟨m, r, e2, h3, h4⟩ := h2.split
    exact ⟨a + 1 + m, r, by omega, .cons h1 h3, h4⟩
theorem GdA.at {b k n : Nat} {ds : List PyData} (h : GdA b k n ds) (i : Nat) : ∃ m l, m + l ≤ n ∧ GdA b k m (ds.take i) ∧ GdA b k l (ds.drop i) := by
  have := h
  rw [← List.take_append_drop i ds] at this
  exact this.split
theorem GdA.rev {b k : Nat} : ∀ {ds : List PyData} {n : Nat}, GdA b k n ds → GdA b k n ds.reverse
  | [], _, h => h
  | x :: xs, n, h => by
    obtain ⟨a, l, e, h1, h2⟩ := h.un
    rw [List.reverse_cons]
    exact (GdA.app (GdA.cons h1 (GdA.nil (n := 0))) h2.rev).up (Nat.le_refl _) (Nat.le_refl _) (by omega)
theorem GdA.get {b k : Nat} : ∀ {ds : List PyData} {n : Nat}, GdA b k n ds → ∀ {d : PyData}, d ∈ ds → Gd b k n d
  | x :: xs, n, h, d, m => by
    obtain ⟨a, l, e, h1, h2⟩ := h.un
    rcases List.mem_cons.mp m with rfl | m
    · exact h1.up (Nat.le_refl _) (Nat.le_refl _) (by omega)
    · exact (h2.get m).up (Nat.le_refl _) (Nat.le_refl _) (by omega)
theorem GdA.len {b k : Nat} : ∀ {ds : List PyData} {n : Nat}, GdA b k n ds → ds.length ≤ n
  | [], _, _ => Nat.zero_le _
  | x :: xs, n, h => by
    obtain ⟨a, l, e, h1, h2⟩ := h.un
    have := h2.len
    rw [List.length_cons]
    omega
theorem Gd.tup {b k n : Nat} {ds : List PyData} (h : GdA b k n ds) : Gd b (k + 1) n (.tuple ds) := ⟨h.i, by simp only [PyData.depth]; have := h.p; omega, by simp only [PyData.bulk]; exact h.w⟩
theorem Gd.lst {b k n : Nat} {ds : List PyData} (h : GdA b k n ds) : Gd b (k + 1) n (.list ds) := ⟨h.i, by simp only [PyData.depth]; have := h.p; omega, by simp only [PyData.bulk]; exact h.w⟩
theorem Gd.un {b k n : Nat} {ds : List PyData} (h : Gd b (k + 1) n (.tuple ds)) : GdA b k n ds := ⟨h.i, by have := h.p; simp only [PyData.depth] at this; omega, by have := h.w; simp only [PyData.bulk] at this; exact this⟩
theorem Gd.flat {b n : Nat} {ds : List PyData} (h : Gd b 0 n (.tuple ds)) : False := by
  have := h.p
  simp only [PyData.depth] at this
  omega
/-- it can be shown -/
theorem Gd.shows {b k n : Nat} {d : PyData} (h : Gd b k n d) (hb : b ≤ 1000) (hk : k ≤ 60) (hn : n ≤ 100000) : d.showable = true ∧ d.depth ≤ 60 ∧ d.shown.length ≤ sizeLine := by
  obtain ⟨h1, h2⟩ := okI_short hb d h.i
  refine ⟨h2, Nat.le_trans h.p hk, ?_⟩
  have h3 := PyData.shown_le_bulk 70 (by decide) d h1
  have h4 : (70 + 2) * d.bulk ≤ 72 * 100000 := Nat.mul_le_mul_left _ (Nat.le_trans h.w hn)
  rw [sizeLine_eq]
  omega
theorem datas_gd : ∀ d ∈ datas, okI 0 d = true ∧ d.depth ≤ 2 ∧ d.bulk ≤ 10 := by decide +kernel
theorem gd_data {d : PyData} (h : d ∈ datas) : Gd 0 2 10 d := ⟨(datas_gd d h).1, (datas_gd d h).2.1, (datas_gd d h).2.2⟩
/-! slices and sums of tuples whose items are told -/
theorem DxAll.app {K : PySem.W.Frag} {av : List Addr} {H : Hp} : ∀ {xs ys : List V} {ds es : List PyData}, DxAll K av H xs ds → DxAll K av H ys es → DxAll K av H (xs ++ ys) (ds ++ es)
  | _, _, _, _, .nil, t => t
  | _, _, _, _, .cons h r, t => .cons h (r.app t)
theorem DxAll.take {K : PySem.W.Frag} {av : List Addr} {H : Hp} : ∀ {xs : List V} {ds : List PyData} (i : Nat), DxAll K av H xs ds → DxAll K av H (xs.take i) (ds.take i)
  | _, _, 0, _ => by rw [List.take_zero, List.take_zero]; exact .nil
  | _, _, i + 1, .nil => .nil
  | _, _, i + 1, .cons h r => .cons h (r.take i)
theorem DxAll.drop {K : PySem.W.Frag} {av : List Addr} {H : Hp} : ∀ {xs : List V} {ds : List PyData} (i : Nat), DxAll K av H xs ds → DxAll K av H (xs.drop i) (ds.drop i)
  | _, _, 0, h => h
  | _, _, i + 1, .nil => .nil
  | _, _, i + 1, .cons h r => r.drop i
theorem DxAll.rev {K : PySem.W.Frag} {av : List Addr} {H : Hp} : ∀ {xs : List V} {ds : List PyData}, DxAll K av H xs ds → DxAll K av H xs.reverse ds.reverse
  | _, _, .nil => .nil
  | _, _, .cons h r => by
    rw [List.reverse_cons, List.reverse_cons]
    exact r.rev.app (.cons h .nil)
theorem DxAll.len {K : PySem.W.Frag} {av : List Addr} {H : Hp} : ∀ {xs : List V} {ds : List PyData}, DxAll K av H xs ds → xs.length = ds.length
  | _, _, .nil => rfl
  | _, _, .cons _ r => congrArg (· + 1) r.len
theorem DxAll.at {K : PySem.W.Frag} {av : List Addr} {H : Hp} : ∀ {xs : List V} {ds : List PyData}, DxAll K av H xs ds → ∀ {i : Nat} {x : V}, xs[i]? = some x → ∃ d, ds[i]? = some d ∧ Dx K av H x d
  | _, _, .cons h r, 0, x, e => by cases e; exact ⟨_, rfl, h⟩
  | _, _, .cons h r, i + 1, x, e => r.at e
section
variable {X : Cx}
/-- t[lo:hi]: some tuple with those items -/
def rSlS (K : PySem.W.Frag) : V → Option Int → Option Int → Hp → VK → Prop := fun x lo hi H Q => ∃ a xs, x = .ref a ∧ SqT K H a xs ∧ ∀ H' p, Same H H' → SqT K H' p (cutV xs lo hi) → Q (.ref p) H'
theorem cut_whole {xs : List V} {lo hi : Option Int} (h1 : HT.sIx xs.length 0 lo = 0) (h2 : HT.sIx xs.length xs.length hi = xs.length) : cutV xs lo hi = xs := by
  unfold cutV
  rw [h1, h2, List.drop_zero, Nat.sub_zero, List.take_length]
theorem sl_tupS : SlR X (rSlS X.K) := by
  intro pins s σ H x v vl vu lo hi sl Q I rx hs pl pu h
  obtain ⟨a, xs, rfl, hx, q⟩ := h
  refine sl_tupA pins s σ H _ v vl vu lo hi sl Q I rx hs pl pu ⟨a, xs, rfl, hx, fun w => q H a (Same.refl _) ?_, fun _ p hp => q _ p (same_upd hp) (SqT.of upd_same)⟩
  rw [cut_whole w.1 w.2]
  exact hx
/-- t + u: some tuple with those items -/
def rCatS (K : PySem.W.Frag) : R2 := fun x y H Q => ∃ a b xs ys, x = .ref a ∧ y = .ref b ∧ SqT K H a xs ∧ SqT K H b ys ∧ xs.length + ys.length ≤ sizeLine ∧ ∀ H' p, Same H H' → SqT K H' p (xs ++ ys) → Q (.ref p) H'
theorem op_catS : OpR X (binaryOp .Add) (rCatS X.K) := by
  intro pins s σ H x y v u Q I rx ry h
  obtain ⟨a, b, xs, ys, rfl, rfl, ha, hb, hz, q⟩ := h
  refine op_catA pins s σ H _ _ v u Q I rx ry ⟨a, b, xs, ys, rfl, rfl, ha, hb, hz, fun e => q H b (Same.refl _) (by rw [e]; exact hb), fun _ e => q H a (Same.refl _) (by rw [e, List.append_nil]; exact ha), fun _ _ p hp => q _ p (same_upd hp) (SqT.of upd_same)⟩
end
theorem cut_to {xs : List V} {i : Int} (h0 : 0 ≤ i) (h1 : i ≤ (xs.length : Nat)) : cutV xs none (some i) = xs.take i.toNat := by
  unfold cutV
  show (xs.drop 0).take ((if i < 0 then (i + (xs.length : Nat)).toNat else min i.toNat xs.length) - 0) = _
  rw [if_neg (by omega), List.drop_zero, Nat.sub_zero, show min i.toNat xs.length = i.toNat by omega]
theorem cut_from {xs : List V} {i : Int} (h0 : 0 ≤ i) (h1 : i ≤ (xs.length : Nat)) : cutV xs (some i) none = xs.drop i.toNat := by
  unfold cutV
  show (xs.drop (if i < 0 then (i + (xs.length : Nat)).toNat else min i.toNat xs.length)).take (xs.length - (if i < 0 then (i + (xs.length : Nat)).toNat else min i.toNat xs.length)) = _
  rw [if_neg (by omega), show min i.toNat xs.length = i.toNat by omega, List.take_of_length_le (by rw [List.length_drop]; exact Nat.le_refl _)]
end Fw
namespace Fw
open PySem PySem.Spec PyProof.Rows L2 HT
/-! ### t[::-1] -/
section
variable {P : Program} {w : World} {A : Around} {E : Value → Shared → Prop} {s : Shared}
theorem back_parts (n : Nat) : Builtin.Slice.sliceAdjust none none (-1) (n : Int) = ((n : Int) - 1, -1) ∧ Builtin.Slice.slicePlaces ((n : Int) - 1) (-1) (-1) = n := by
  constructor
  · rfl
  · unfold Builtin.Slice.slicePlaces
    rw [if_neg (by decide)]
    by_cases h : n = 0
    · subst h; rfl
    · rw [if_pos (by omega), show (-(-1 : Int)) = 1 from rfl, Int.ediv_one]
      omega
theorem applied_back {sl : Addr} {n : Nat} {vs : Value} {Q : Int × Int × Nat → Shared → Prop} (hs : s.heap.IsSliceOf sl .none .none vs) (ps : IsPart vs (some (-1))) (h : Q ((n : Int) - 1, -1, n) s) :
    wpAny (model P w) A (Builtin.Slice.sliceApplied (.ref sl) (pure (n : Int))) Q E s := by
  obtain ⟨os, g1, g2, g3⟩ := id hs
  unfold Builtin.Slice.sliceApplied Builtin.Slice.sliceFields
  refine wpAny_bind (wpAny_bind (wpAny_field g1 g3 (x := .none) rfl (wpAny_bind (wpAny_field g1 g3 (x := .none) rfl (wpAny_bind (wpAny_field g1 g3 (x := vs) rfl (wpAny_pure ?_)))))))
  refine wpAny_bind (slicePart_ ps ?_)
  show wpAny _ _ (if ((-1 : Int) == 0) = true then _ else _) _ _ s
  rw [if_neg (by decide)]
  refine wpAny_bind (slicePart_none (wpAny_bind (slicePart_none (wpAny_bind (wpAny_pure ?_)))))
  show wpAny _ _ (match Builtin.Slice.sliceAdjust none none (-1) (n : Int) with | (lo, hi) => pure (lo, (-1 : Int), Builtin.Slice.slicePlaces lo hi (-1))) _ _ s
  rw [(back_parts n).1]
  show wpAny _ _ (pure ((n : Int) - 1, (-1 : Int), Builtin.Slice.slicePlaces ((n : Int) - 1) (-1) (-1))) _ _ s
  rw [(back_parts n).2]
  exact wpAny_pure h
theorem fm_eq {α β : Type} {f : α → Option β} {g : α → β} : ∀ {l : List α}, (∀ x ∈ l, f x = some (g x)) → l.filterMap f = l.map g
  | [], _ => rfl
  | x :: l, h => by
    rw [List.filterMap_cons, h x (List.mem_cons_self ..), List.map_cons, fm_eq (l := l) fun y hy => h y (List.mem_cons_of_mem _ hy)]
theorem pick_back (xs : List Value) : ((List.range xs.toArray.size).filterMap fun (k : Nat) => xs.toArray[(((xs.toArray.size : Nat) : Int) - 1 + (k : Int) * (-1)).toNat]?) = xs.reverse := by
  rw [List.size_toArray]
  have e : ∀ k ∈ List.range xs.length, xs.toArray[(((xs.length : Nat) : Int) - 1 + (k : Int) * (-1)).toNat]? = some (xs.reverse[k]?.getD .none) := fun k hk => by
    have hk := List.mem_range.mp hk
    have e1 : (((xs.length : Nat) : Int) - 1 + (k : Int) * (-1)).toNat = xs.length - 1 - k := by omega
    rw [e1, List.getElem?_toArray, List.getElem?_reverse hk, List.getElem?_eq_getElem (by omega)]
    rfl
  have e2 : (List.range xs.length).filterMap (fun (k : Nat) => xs.toArray[(((xs.length : Nat) : Int) - 1 + (k : Int) * (-1)).toNat]?) = (List.range xs.length).map fun k => xs.reverse[k]?.getD .none := by
    exact fm_eq e
  rw [e2]
  refine List.ext_getElem (by simp) fun i h1 h2 => ?_
  rw [List.getElem_map, List.getElem_range, List.getElem?_eq_getElem h2]
  rfl
theorem tuple_back {t sl : Addr} {xs : List Value} {vs : Value} {Q : Value → Shared → Prop} (ht : IsTup s.heap t xs.toArray) (hs : s.heap.IsSliceOf sl .none .none vs) (ps : IsPart vs (some (-1))) (hz : xs.length ≤ sizeLine)
    (h : Q (.ref s.heap.objs.size) { s with heap := s.heap.push { cls := .type "tuple", data := .seq xs.reverse.toArray } }) : wpAny (model P w) A (getItem (.ref t) (.ref sl)) Q E s := by
  have fits : sizeOk (.seq xs.reverse.toArray) := by
    show xs.reverse.toArray.size ≤ sizeLine
    simpa using hz
  obtain ⟨os, g1, g2, g3⟩ := id hs
  have ty : s.TypeIs (.ref sl) "slice" := ⟨os, g1, g2⟩
  unfold getItem
  try with_reducible refine wpAny_holding ?_
  first | refine wpAny_bind (wpAny_pure ?_) | skip
  refine wpAny_bind (wpAny_sequenceKey ht.typeIs (by decide) (wpAny_bind (wpAny_callSpecial?_slot (name := Str.ofString "__getitem__") ht.typeIs PyProof.Rows.slot_tuple_getitem
    (wpAny_call_entry PyProof.Rows.slot_tuple_getitem ht.typeIs entry_tuple_getitem ?_ (args_tuple_getitem _ _)))))
  show wpAny _ _ (Builtin.Tuple.tupleItemsOf (.ref t) >>= _) _ _ s
  refine wpAny_bind (tupleItemsOf_ ht (wpAny_bind (wpAny_typeOf ty ?_)))
  rw [if_pos (by decide)]
  refine wpAny_bind (applied_back hs ps ?_)
  have no : ¬ ((((xs.toArray.size : Nat) : Int) - 1 == 0 && (-1 : Int) == 1 && xs.toArray.size == xs.toArray.size) = true) := by
    rw [show ((-1 : Int) == 1) = false by decide, Bool.and_false, Bool.false_and]
    exact Bool.false_ne_true
  show wpAny _ _ (if (((xs.toArray.size : Nat) : Int) - 1 == 0 && (-1 : Int) == 1 && xs.toArray.size == xs.toArray.size) = true then _ else _) _ _ s
  rw [if_neg no, pick_back]
  first
    | exact wpAny_bind (m := Builtin.Tuple.tupleExact _) (wpAny_newObj_type (wpAny_pure ⟨_, rfl, wpAny_pure h⟩) fits)
    | exact wpAny_bind (m := Builtin.Tuple.tupleExact _) (wpAny_newObj_type (wpAny_bind (wpAny_pure (wpAny_pure ⟨_, rfl, wpAny_pure h⟩))) fits)
    | exact wpAny_bind (wpAny_bind (m := Builtin.Tuple.tupleExact _) (wpAny_newObj_type (wpAny_pure (wpAny_pure ⟨_, rfl, wpAny_pure h⟩)) fits))
    | exact wpAny_bind (wpAny_bind (m := Builtin.Tuple.tupleExact _) (wpAny_newObj_type (wpAny_pure ⟨_, rfl, wpAny_pure h⟩) fits))
end
def tRevT (K : PySem.W.Frag) (te : TE) : TE := fun σ H Q => te σ H fun x H1 => ∃ a xs, x = .ref a ∧ SqT K H1 a xs ∧ ∀ p, H1 p = none → Q (.ref p) (upd H1 p (.tup xs.reverse))
theorem pe_revT {X : Cx} {e : Expr} {te : TE} {k : Nat} {p1 p2 p3 pos : Pos} (he : PE X e te) : PE X (.Subscript e (.Slice none none (some (.UnaryOp .USub (.Constant (.int 1) k p1) p2)) p3) pos) (tRevT X.K te) := by
  constructor
  intro pins s σ H Q I h
  refine Subscript_ (thn (he.run pins s σ H _ I h) ?_)
  rintro v s1 ⟨x, H1, I1, r1, a, xs, rfl, hx, q⟩
  cases r1
  have st : PO X (some (.UnaryOp .USub (.Constant (.int 1) k p1) p2)) (tPart (tUn (rU fun i => .int (-i)) (tC (.int 1)))) := po_some (pe_un un_neg pe_int)
  refine wpAny_Slice (thn (po_none.run pins s1 σ H1 (fun o H2 => o = none ∧ H2 = H1) I1 ⟨rfl, rfl⟩) ?_)
  rintro vl s2 ⟨l, H2, I2, pl, rfl, rfl⟩
  refine thn (po_none.run pins s2 σ H2 (fun o H3 => o = none ∧ H3 = H2) I2 ⟨rfl, rfl⟩) ?_
  rintro vu s3 ⟨u, H3, I3, pu, rfl, rfl⟩
  refine thn (st.run pins s3 σ H3 (fun o H4 => o = some (-1) ∧ H4 = H3) I3 ⟨1, rfl, -1, rfl, rfl, rfl⟩) ?_
  rintro vs s4 ⟨o, H4, I4, ps, rfl, rfl⟩
  have J : Inv X pins σ H4 { s4 with heap := s4.heap.push { cls := .type "slice", data := .fields #[vl, vu, vs] } } := I4.kept (t' := s4.toks) fun b ob g => Heap.get?_push_of_some _ g
  obtain ⟨its, r, ht, hz⟩ := J.tuple hx
  cases pl
  cases pu
  show wpAny (model X.prog X.w) X.A (subscriptTail e (.Slice none none (some (.UnaryOp .USub (.Constant (.int 1) k p1) p2)) p3) (.ref a) (.ref s4.heap.objs.size)) (EP X pins σ Q) X.xe { s4 with heap := s4.heap.push { cls := .type "slice", data := .fields #[.none, .none, vs] } }
  refine tail_any (ops := [.ref a, .ref s4.heap.objs.size]) ht.typeIs PyProof.Rows.slot_tuple_getitem.lookup (tuple_back ht (Heap.IsSliceOf.new _ _ _ vs) ps (by rw [← r.length]; exact hz) ?_) (by with_unfolding_all rfl)
  refine ⟨.ref _, _, J.laid (t' := s4.toks) (o := .tup xs.reverse) (fun b ob g => Heap.get?_push_of_some _ g) (Nat.le_refl _) ⟨by rw [List.length_reverse]; exact hz, _, r.reverse, IsTup.new _ _⟩, rfl, q _ (J.hok.fresh (Nat.le_refl _))⟩
end Fw
set_option maxHeartbeats 8000000
namespace Fw
open PySem PySem.Spec PyProof.Rows L2
open RZ
/-! certificates and blocks of any value -/
theorem rc_dictL {A : Around} {s : Shared} {l : Addr} {o : Obj} {es : Array DictEntry} {n : Nat} (b : Str) (u : Tok) (ho : s.heap.get? l = some o) (hc : o.cls = .type "dict") (hd : o.data = .dict es n) (hu : A.units < cLine) : SeqAt.RcAt A s (.ref l) (.str b u) false := fun prog w E Q h => by
  obtain ⟨c, dd, da, ss⟩ := o
  cases hc
  cases hd
  refine SeqAt.rc_eq_decline_or (k := false) ⟨_, ho, rfl⟩ (typeIs_str s b u) (by decide) F.sub_str_dict F.slot_dict_eq F.slot_str_eq_refl ?_ ?_ ?_ (.inr hu) h
  · exact fun _ q => call_meets F.slot_dict_eq ⟨_, ho, rfl⟩ F.entry_dict_eq (F.args_dict_eq_2 _ _) (decl_dict b u l dd es n ss) ⟨ho, q⟩
  · exact fun _ q => call_meets F.slot_str_eq_refl (typeIs_str s b u) F.entry_str_eq (F.args_str_eq_2 _ _) (decl_str b u l dd es n ss) ⟨ho, q⟩
  · exact fun _ q => wpAny_of_eq (rfl : isSame (.ref l) (.str b u) = pure false) q
/-- is it this text -/
def isW (z : Str) : PyData → Bool
  | .str y => y == z
  | _ => false
section
variable {X : Cx} {av : List Addr}
/-- any value == text -/
def rEqAny (K : PySem.W.Frag) (av : List Addr) : R2 := fun x y H Q => ∃ z d, y = .str z ∧ Dx K av H x d ∧ Q (.bl (isW z d)) H
theorem op_eqAny {K : PySem.W.Frag} (hK : X.K = K) (hu : X.A.units + 64 < cLine) : OpR X (compareOp .Eq) (rEqAny K av) := by
  subst hK
  replace hu : X.A.units < cLine := by omega
  rintro pins s σ H x _ v u Q I rx ry ⟨z, d, rfl, h, q⟩
  obtain ⟨t, rfl⟩ := ry
  have fin : ∀ {x : Value} {b : Bool}, SeqAt.RcAt X.A s x (.str z t) b → Q (.bl b) H → wpAny (model X.prog X.w) X.A (compareOp .Eq x (.str z t)) (EP X pins σ Q) X.xe s := fun {x b} k q => k X.prog X.w X.xe _ ⟨.bl b, H, I, rfl, q⟩
  cases h with
  | non => cases rx; exact fin (SeqAt.RcAt.none_str z t) q
  | bl b => cases rx; exact fin (SeqAt.RcAt.bool_str b z t) q
  | int i => obtain ⟨u, rfl⟩ := rx; exact fin (SeqAt.RcAt.int_str i u z t) q
  | str y => obtain ⟨u, rfl⟩ := rx; exact fin (SeqAt.RcAt.str_str y u z t) q
  | lst h _ _ =>
    cases rx
    obtain ⟨its, _, pl, _⟩ := I.list h
    exact fin (SeqAt.RcAt.list_str z t pl.isList hu) q
  | tup h _ =>
    cases rx
    obtain ⟨its, _, pl, _⟩ := I.tuple h
    exact fin (SeqAt.RcAt.tuple_str z t pl hu) q
  | dct e =>
    cases rx
    obtain ⟨o, es, n, ho, hc, hd⟩ := dict_at I e
    exact fin (rc_dictL z t ho hc hd hu) q
/-- any value in a tuple of texts -/
def rInTx (K : PySem.W.Frag) (av : List Addr) : R2 := fun x y H Q => ∃ (l : Addr) (ns : List Str) (d : PyData), y = .ref l ∧ SqT K H l (ns.map V.str) ∧ Dx K av H x d ∧ Q (.bl (ns.any fun z => strIs z d)) H
theorem op_inTx {K : PySem.W.Frag} (hK : X.K = K) (hu : X.A.units + 1 < cLine) : OpR X (compareOp .In) (rInTx K av) := by
  subst hK
  rintro pins s σ H x _ v u Q I rx ry ⟨l, ns, d, rfl, hl, h, q⟩
  cases ry
  obtain ⟨its, rv, pl, _⟩ := I.tuple hl
  have hu1 : X.A.in1.units < cLine := hu
  refine SeqAt.in_tupleAt (fun y => match y with | .str z _ => strIs z d | _ => false) pl (fun y hy => ?_) ?_
  · obtain ⟨z, t, rfl⟩ := vals_str rv (by simpa using hy)
    exact eq_any I h rx hu1 z t
  · rw [any_vals (f := fun z => strIs z d) rv fun z t => rfl]
    exact ⟨.bl _, H, I, rfl, q⟩
end
theorem if_t {b : Bool} (h : b = true) {A B : Prop} (x : A) : if b = true then A else B := by rw [if_pos h]; exact x
theorem if_f {b : Bool} (h : b = false) {A B : Prop} (x : B) : if b = true then A else B := by rw [h, if_neg Bool.false_ne_true]; exact x
theorem ln3 {α : Type} {xs : List α} (h : xs.length = 3) : ∃ a b c, xs = [a, b, c] := by
  match xs, h with
  | [a, b, c], _ => exact ⟨a, b, c, rfl⟩
def strOf : PyData → Option Str
  | .str z => some z
  | _ => none
def intOf : PyData → Option Int
  | .int i => some i
  | _ => none
/-- a row, if it has the form of one -/
def rowOf : PyData → Option Row
  | .tuple [.int a, w, x] => if isW "passed" w = true then (strOf x).map (.p a) else if isW "back" w = true then (intOf x).map (.b a) else none
  | _ => none
/-- the rows, if it is a tuple of such -/
def rowsOf : List PyData → Option (List Row)
  | [] => some []
  | d :: ds => (rowOf d).bind fun x => (rowsOf ds).map (x :: ·)
def certOf : PyData → Option (List Row)
  | .tuple ds => rowsOf ds
  | _ => none
open Classical in
noncomputable def rowB (D : List (Int × Int)) (P G : List (Str × Int)) (C : List Int) (r : Int) (d : PyData) : Bool := decide (∃ x, rowOf d = some x ∧ rowR x = r ∧ RowOk D P G C x)
open Classical in
noncomputable def crtB (D : List (Int × Int)) (P G : List (Str × Int)) (C : List Int) (d : PyData) : Bool := decide (∃ rs, certOf d = some rs ∧ rs.map rowR = unwL P G C ∧ (∀ x ∈ rs, RowOk D P G C x) ∧ Cnd D P G C (bks rs))
open Classical in
theorem rowB_iff {D : List (Int × Int)} {P G : List (Str × Int)} {C : List Int} {r : Int} {d : PyData} : rowB D P G C r d = true ↔ ∃ x, rowOf d = some x ∧ rowR x = r ∧ RowOk D P G C x := by unfold rowB; rw [decide_eq_true_eq]
open Classical in
theorem crtB_iff {D : List (Int × Int)} {P G : List (Str × Int)} {C : List Int} {d : PyData} : crtB D P G C d = true ↔ ∃ rs, certOf d = some rs ∧ rs.map rowR = unwL P G C ∧ (∀ x ∈ rs, RowOk D P G C x) ∧ Cnd D P G C (bks rs) := by unfold crtB; rw [decide_eq_true_eq]
theorem rowB_no {D : List (Int × Int)} {P G : List (Str × Int)} {C : List Int} {r : Int} {d : PyData} (h : rowOf d = none) : rowB D P G C r d = false := Bool.eq_false_iff.mpr fun z => by
  obtain ⟨x, e, _⟩ := rowB_iff.mp z
  rw [h] at e
  cases e
theorem row_not {d : PyData} (h : isD "tuple" d = false) : rowOf d = none := by
  cases d with
  | tuple ds => simp [isD, kindD] at h
  | _ => rfl
theorem row_len {ds : List PyData} (h : ds.length ≠ 3) : rowOf (.tuple ds) = none := by
  unfold rowOf
  split
  · rename_i e
    cases e
    exact absurd rfl h
  · rfl
theorem row_num {a b c : PyData} (h : intOf a = none) : rowOf (.tuple [a, b, c]) = none := by
  cases a with
  | int i => cases h
  | _ => rfl
theorem intOf_num {d : PyData} : (intOf d).isSome = (isD "int" d && !isD "bool" d) := by
  cases d <;> simp [isD, kindD, intOf]
theorem row3 (i : Int) (a b : PyData) : rowOf (.tuple [.int i, a, b]) = if isW "passed" a = true then (strOf b).map (.p i) else if isW "back" a = true then (intOf b).map (.b i) else none := rfl
theorem row3_room {i : Int} {a b : PyData} {x : Row} (h : rowOf (.tuple [.int i, a, b]) = some x) : rowR x = i := by
  rw [row3] at h
  split at h
  · obtain ⟨y, _, rfl⟩ := Option.map_eq_some_iff.mp h
    rfl
  · split at h
    · obtain ⟨y, _, rfl⟩ := Option.map_eq_some_iff.mp h
      rfl
    · cases h
theorem dx_int {K : PySem.W.Frag} {av : List Addr} {H : Hp} {v : V} {i : Int} (h : Dx K av H v (.int i)) : v = .int i := by cases h; rfl
theorem dx_str {K : PySem.W.Frag} {av : List Addr} {H : Hp} {v : V} {z : Str} (h : Dx K av H v (.str z)) : v = .str z := by cases h; rfl
theorem isW_str {z : Str} {d : PyData} (h : isW z d = true) : d = .str z := by
  cases d with
  | str y => rw [eq_of_beq (show (y == z) = true from h)]
  | _ => cases h
theorem rows_get : ∀ {ds : List PyData} {rs : List Row}, rowsOf ds = some rs → ∀ {i : Nat} {d : PyData}, ds[i]? = some d → ∃ x, rs[i]? = some x ∧ rowOf d = some x
  | [], _, _, _, _, h => by cases h
  | e :: ds, rs, h, i, d, hd => by
    unfold rowsOf at h
    obtain ⟨x, hx, h⟩ := Option.bind_eq_some_iff.mp h
    obtain ⟨ys, hy, rfl⟩ := Option.map_eq_some_iff.mp h
    cases i with
    | zero => cases hd; exact ⟨x, rfl, hx⟩
    | succ i => exact rows_get hy hd
theorem rows_snoc : ∀ {ds : List PyData} {rs : List Row} {d : PyData} {x : Row}, rowsOf ds = some rs → rowOf d = some x → rowsOf (ds ++ [d]) = some (rs ++ [x])
  | [], rs, d, x, h, hx => by cases h; show (rowOf d).bind _ = _; rw [hx]; rfl
  | e :: ds, rs, d, x, h, hx => by
    unfold rowsOf at h
    obtain ⟨y, hy, h⟩ := Option.bind_eq_some_iff.mp h
    obtain ⟨ys, hys, rfl⟩ := Option.map_eq_some_iff.mp h
    show (rowOf e).bind _ = _
    rw [hy]
    show (rowsOf (ds ++ [d])).map _ = _
    rw [rows_snoc hys hx]
    rfl
theorem dx_row {K : PySem.W.Frag} {av : List Addr} {H : Hp} {v : V} {d : PyData} {x : Row} (h : Dx K av H v d) (e : rowOf d = some x) : ∃ a, v = .ref a ∧ SqT K H a (rowV x) := by
  unfold rowOf at e
  split at e
  · rename_i a wd y
    cases h with
    | tup sq da =>
      cases da with
      | cons h0 da =>
      cases da with
      | cons h1 da =>
      cases da with
      | cons h2 da =>
      cases da with
      | nil =>
      cases dx_int h0
      split at e
      · rename_i k
        cases isW_str k
        cases dx_str h1
        obtain ⟨z, ez, rfl⟩ := Option.map_eq_some_iff.mp e
        have : y = .str z := by cases y <;> first | (cases ez; done) | (cases ez; rfl)
        subst this
        cases dx_str h2
        exact ⟨_, rfl, sq⟩
      · split at e
        · rename_i k
          cases isW_str k
          cases dx_str h1
          obtain ⟨z, ez, rfl⟩ := Option.map_eq_some_iff.mp e
          have : y = .int z := by cases y <;> first | (cases ez; done) | (cases ez; rfl)
          subst this
          cases dx_int h2
          exact ⟨_, rfl, sq⟩
        · cases e
  · cases e
theorem dx_rows {K : PySem.W.Frag} {av : List Addr} {H : Hp} : ∀ {xs : List V} {ds : List PyData} {rs : List Row}, DxAll K av H xs ds → rowsOf ds = some rs → ∃ as : List (Addr × Row), xs = as.map (fun x => V.ref x.1) ∧ rs = as.map (·.2) ∧ ∀ x ∈ as, SqT K H x.1 (rowV x.2)
  | _, _, rs, .nil, h => by cases h; exact ⟨[], rfl, rfl, fun x hx => nomatch hx⟩
  | _, _, rs, .cons hd da, h => by
    unfold rowsOf at h
    obtain ⟨y, hy, h⟩ := Option.bind_eq_some_iff.mp h
    obtain ⟨ys, hys, rfl⟩ := Option.map_eq_some_iff.mp h
    obtain ⟨a, rfl, sa⟩ := dx_row hd hy
    obtain ⟨as, rfl, rfl, m⟩ := dx_rows da hys
    exact ⟨(a, y) :: as, rfl, rfl, fun x hx => by
      rcases List.mem_cons.mp hx with rfl | hx
      · exact sa
      · exact m x hx⟩
theorem crtB_no {D : List (Int × Int)} {P G : List (Str × Int)} {C : List Int} {d : PyData} (h : ¬ ∃ rs, certOf d = some rs ∧ rs.map rowR = unwL P G C ∧ ∀ x ∈ rs, RowOk D P G C x) : crtB D P G C d = false := Bool.eq_false_iff.mpr fun z => by
  obtain ⟨rs, a, b, c, _⟩ := crtB_iff.mp z
  exact h ⟨rs, a, b, c⟩
/-- what is accepted means that it is not solvable -/
theorem crtB_sound {n : Int} {D : List (Int × Int)} {P G : List (Str × Int)} {C : List Int} {d : PyData} (f : Forest n D) (ndG : (G.map (·.1)).Nodup) (sub : ∀ x ∈ P.map (·.1), x ∈ G.map (·.1)) (pc : Pce D P G C) (ne : C ≠ []) (h : crtB D P G C d = true) : ¬ Sol D P G C := fun so => by
  obtain ⟨rs, _, e, ok, c⟩ := crtB_iff.mp h
  exact crt_not f ndG sub so pc ne (Chs.crt (cs := []) pc.up e ok c)
theorem cert_not {d : PyData} (h : isD "tuple" d = false) : certOf d = none := by
  cases d with
  | tuple ds => simp [isD, kindD] at h
  | _ => rfl
theorem rows_len : ∀ {ds : List PyData} {rs : List Row}, rowsOf ds = some rs → rs.length = ds.length
  | [], _, h => by cases h; rfl
  | e :: ds, rs, h => by
    unfold rowsOf at h
    obtain ⟨y, hy, h⟩ := Option.bind_eq_some_iff.mp h
    obtain ⟨ys, hys, rfl⟩ := Option.map_eq_some_iff.mp h
    rw [List.length_cons, List.length_cons, rows_len hys]
section
variable {P : Program} {w : World} {K : PySem.W.Frag} {mg : Str → Option Value} {base : Heap}
def spIntA (K : PySem.W.Frag) : Sp := fun vs H Q _ => ∃ (v : V) (d : PyData), vs = [v] ∧ Dx K [] H v d ∧ Q (.bl (intOf d).isSome) H
theorem ok_inta {f : Addr} {fd : FuncData} {k : Nat} (F : Fun K "is_integer" "is_integer" sIsInt f fd) (T : Nm mg) : FnOk P w K mg base CX0 (k + 1) f fd pIsInt (spIntA K) := by
  refine F.ok scIsInt (fun vs H Q E h => ?_) (fun cdv A outer s H vs Q E hr h => ?_)
  · obtain ⟨v, d, rfl, _⟩ := h
    rfl
  · obtain ⟨v, d, rfl, hd, q⟩ := h
    refine ⟨_, (pss_one (ps_ret (pe_and (pe_callB (call_isD (av := [])) (by rfl) T.isinstance (by decide +kernel) (pa_cons (pv 0) (pa_cons (pe_bltn (v := .ty "int") (by rfl) T.int (by decide +kernel) rfl) pa_nil))) (pe_one (pe_not (pe_callB (call_isD (av := [])) (by rfl) T.isinstance (by decide +kernel) (pa_cons (pv 0) (pa_cons (pe_bltn (v := .ty "bool") (by rfl) T.bool (by decide +kernel) rfl) pa_nil)))))))), ?_⟩
    refine ⟨_, rfl, v, "int", d, rfl, by decide, hd, _, rfl, ?_⟩
    rw [intOf_num] at q
    cases e : isD "int" d with
    | false => rw [e] at q; exact iteF q
    | true => rw [e] at q; exact iteT ⟨_, rfl, v, "bool", d, rfl, by decide, hd, _, rfl, q⟩
def spRowA (K : PySem.W.Frag) : Sp := fun vs H Q _ => ∃ (h p g rl : Addr) (n : Int) (D : List (Int × Int)) (P G : List (Str × Int)) (C : List Int) (r : Int) (v : V) (d : PyData), vs = [.ref h, .ref p, .ref g, .ref rl, .int r, v] ∧ HouseAt H h n D ∧ Forest n D ∧ n ≤ 8 ∧ PlAt H p P ∧ Pl n P ∧ P.length ≤ 60 ∧ PlAt H g G ∧ Pl n G ∧ (∀ x ∈ P.map (·.1), x ∈ G.map (·.1)) ∧ SqT K H rl (vi C) ∧ Pce D P G C ∧ Unw P G C r ∧ Dx K [] H v d ∧
  ∀ H', Same H H' → Q (.bl (rowB D P G C r d)) H'
abbrev nIsRow : List Str := ["house", "placement", "target", "region", "room", "value", "first", "word", "named"]
abbrev pIsRow : List Str := ["house", "placement", "target", "region", "room", "value"]
theorem scIsRow : FnScope nIsRow pIsRow (defScope sIsRow) := ⟨rfl, rfl, rfl, by decide +kernel, rfl, by decide +kernel, by decide +kernel⟩
theorem ok_isrow {f : Addr} {fd : FuncData} {k : Nat} (F : Fun K "is_row" "is_row" sIsRow f fd) (T : Nm mg) (Cis_integer : Cal P w K mg base k "is_integer" pIsInt (spIntA K)) (Cregion_passing : Cal P w K mg base k "region_passing" pRPas (spRPas K)) (Crooms_back : Cal P w K mg base k "rooms_back" pRPas (spRBack K)) : FnOk P w K mg base CX0 (k + 1) f fd pIsRow (spRowA K) := by
  refine F.ok scIsRow (fun vs H Q E h => ?_) (fun cdv A outer s H vs Q E hr h => ?_)
  · obtain ⟨h, p, g, rl, n, D, P, G, C, r, v, d, rfl, _⟩ := h
    rfl
  · obtain ⟨h, p, g, rl, n, D, P, G, C, r, v, d, rfl, hH, hF, n1, hP, pl, lP, hG, plG, sub, hC, pc, un, hd, q⟩ := h
    refine ⟨_, (pss_cons (ps_if (PW.pt (pw_or (pt_not (pt_val (pe_callB (call_isD (av := [])) (by rfl) T.isinstance (by decide +kernel) (pa_cons (pv 5) (pa_cons (pe_bltn (v := .ty "tuple") (by rfl) T.tuple (by decide +kernel) rfl) pa_nil))))) (pw_or1 (pt_cmpR op_ne (pe_callB (call_lenK K rfl) (by rfl) T.len (by decide +kernel) (pa_cons (pv 5) pa_nil)) pe_int (nomark _)))))
      (pss_one (ps_ret pe_bl))
      pss_nil)
      (pss_cons (ps_asg (pv 5) (pg_tup (by rfl) (pgs_cons (pg_name (i := 6) scIsRow.nd rfl (.inl rfl)) (pgs_cons (pg_name (i := 7) scIsRow.nd rfl (.inl rfl)) (pgs_cons (pg_name (i := 8) scIsRow.nd rfl (.inl rfl)) pgs_nil)))))
      (pss_cons (ps_if (PW.pt (pw_or (pt_not (pt_val (pe_cal Cis_integer hr (by rfl) (pa_cons (pv 6) pa_nil)))) (pw_or1 (pt_cmpR op_ne (pv 6) (pv 4) (nomark _)))))
      (pss_one (ps_ret pe_bl))
      pss_nil)
      (pss_cons (ps_if (pt_cmpR (op_eqAny (av := []) (K := K) rfl hr.units) (pv 7) pe_str (nomark _))
      (pss_one (ps_ret (pe_cmpR (op_inTx (av := []) (K := K) rfl (hu_of hr)) (pv 8) (pe_cal Cregion_passing hr (by rfl) (pa_cons (pv 0) (pa_cons (pv 1) (pa_cons (pv 2) (pa_cons (pv 3) (pa_cons (pv 4) pa_nil)))))) (by rfl))))
      pss_nil)
      (pss_one (ps_ret (pe_and (pe_cmpR (op_eqAny (av := []) (K := K) rfl hr.units) (pv 7) pe_str (nomark _)) (pe_and (pe_cal Cis_integer hr (by rfl) (pa_cons (pv 8) pa_nil)) (pe_one (pe_cmpR (op_inK K rfl) (pv 8) (pe_cal Crooms_back hr (by rfl) (pa_cons (pv 0) (pa_cons (pv 1) (pa_cons (pv 2) (pa_cons (pv 3) (pa_cons (pv 4) pa_nil)))))) (by rfl))))))))))), ?_⟩
    refine ⟨_, rfl, v, "tuple", d, rfl, by decide, hd, _, rfl, ?_⟩
    cases e : isD "tuple" d with
    | false =>
      rw [rowB_no (row_not e)] at q
      exact iteT (iteT (q _ (Same.refl _)))
    | true =>
      cases hd with
      | @tup a xs ds sq da =>
        refine iteF ⟨_, rfl, a, xs, rfl, .inr sq, rfl, _, rfl, ?_⟩
        by_cases l3 : ds.length = 3
        case neg =>
          have l4 : (xs.length : Nat) ≠ 3 := by rw [da.len]; exact l3
          rw [rowB_no (row_len l3)] at q
          exact if_t (by rw [decide_eq_false fun z => l4 (by have := V.int.inj z; omega)]; rfl) (q _ (Same.refl _))
        obtain ⟨d0, d1, d2, rfl⟩ := ln3 l3
        cases da with
        | @cons x0 _ _ _ h0 da =>
        cases da with
        | @cons x1 _ _ _ h1 da =>
        cases da with
        | @cons x2 _ _ _ h2 da =>
        cases da with
        | nil =>
        refine iteF ?_
        refine ⟨_, rfl, a, _, rfl, sq, rfl, _, _, rfl, _, _, rfl, _, _, rfl, rfl, ?_⟩
        refine ⟨_, rfl, x0, d0, rfl, h0, _, rfl, ?_⟩
        cases ei : intOf d0 with
        | none =>
          rw [rowB_no (row_num ei)] at q
          exact iteT (iteT (q _ (Same.refl _)))
        | some i =>
          have e0 : d0 = .int i := by
            cases d0 <;> first | (cases ei; done) | (cases ei; rfl)
          subst e0
          cases dx_int h0
          refine iteF ⟨_, rfl, _, rfl, rfl, _, rfl, ?_⟩
          by_cases ir : i = r
          case neg =>
            have : rowB D P G C r (.tuple [.int i, d1, d2]) = false := Bool.eq_false_iff.mpr fun z => by
              obtain ⟨x, k1, k2, _⟩ := rowB_iff.mp z
              exact ir ((row3_room k1).symm.trans k2)
            rw [this] at q
            exact if_t (by rw [int_dec, decide_eq_false ir]; rfl) (q _ (Same.refl _))
          subst ir
          refine if_f (by simp) ?_
          refine ⟨_, rfl, _, d1, rfl, h1, _, rfl, ?_⟩
          cases ep : isW "passed" d1 with
          | true =>
            refine iteT ⟨_, rfl, _, rfl, _, rfl, _, rfl, _, rfl, _, rfl, h, p, g, rl, n, D, P, G, C, i, rfl, hH, hF, n1, hP, pl, lP, hG, plG, sub, hC, fun H1 t s1 e1 => ?_⟩
            refine ⟨t, pssL D P G C i, d2, rfl, SqT.of e1, dx_sm s1 h2, ?_⟩
            have : ((pssL D P G C i).any fun z => strIs z d2) = rowB D P G C i (.tuple [.int i, d1, d2]) := by
              rw [Bool.eq_iff_iff, List.any_eq_true, rowB_iff]
              rw [row3, if_pos ep]
              constructor
              · rintro ⟨z, hz, es⟩
                have : d2 = .str z := by
                  cases d2 with
                  | str y => rw [eq_of_beq (show (z == y) = true from es)]
                  | _ => cases es
                subst this
                exact ⟨.p i z, rfl, rfl, mem_pssL.mp hz⟩
              · rintro ⟨x, k1, k2, k3⟩
                obtain ⟨z, e2, rfl⟩ := Option.map_eq_some_iff.mp k1
                have : d2 = .str z := by
                  cases d2 <;> first | (cases e2; done) | (cases e2; rfl)
                subst this
                exact ⟨z, mem_pssL.mpr k3, by show (z == z) = true; simp⟩
            rw [this]
            exact q _ s1
          | false =>
            refine iteF ⟨_, rfl, _, d1, rfl, h1, ?_⟩
            have key : ∀ b : Bool, (rowB D P G C i (.tuple [.int i, d1, d2]) = true ↔ b = true) → ∀ H', Same H H' → Q (.bl b) H' := fun b hb H' s' => by
              have : rowB D P G C i (.tuple [.int i, d1, d2]) = b := by rw [Bool.eq_iff_iff]; exact hb
              rw [← this]
              exact q _ s'
            cases eb : isW "back" d1 with
            | false =>
              refine ⟨_, rfl, iteF (key false ?_ _ (Same.refl _))⟩
              rw [rowB_iff]
              rw [row3, if_neg (by rw [ep]; exact Bool.false_ne_true), if_neg (by rw [eb]; exact Bool.false_ne_true)]
              exact ⟨fun ⟨_, k, _⟩ => (nomatch k), fun k => (nomatch k)⟩
            | true =>
              refine ⟨_, rfl, iteT ⟨_, rfl, _, d2, rfl, h2, _, rfl, ?_⟩⟩
              have un' : rowB D P G C i (.tuple [.int i, d1, d2]) = true ↔ ∃ v, intOf d2 = some v ∧ Bck D P G C i v := by
                rw [rowB_iff]
                rw [row3, if_neg (by rw [ep]; exact Bool.false_ne_true), if_pos eb]
                constructor
                · rintro ⟨x, k1, k2, k3⟩
                  obtain ⟨v, e2, rfl⟩ := Option.map_eq_some_iff.mp k1
                  exact ⟨v, e2, k3⟩
                · rintro ⟨v, e2, k3⟩
                  exact ⟨.b i v, by rw [e2]; rfl, rfl, k3⟩
              cases e2 : intOf d2 with
              | none =>
                refine iteF (key false ?_ _ (Same.refl _))
                rw [un', e2]
                exact ⟨fun ⟨_, k, _⟩ => (nomatch k), fun k => (nomatch k)⟩
              | some v =>
                have e3 : d2 = .int v := by
                  cases d2 <;> first | (cases e2; done) | (cases e2; rfl)
                subst e3
                cases dx_int h2
                refine iteT ⟨_, rfl, _, rfl, _, rfl, _, rfl, _, rfl, _, rfl, h, p, g, rl, n, D, P, G, C, i, rfl, hH, hF, n1, hP, pl, lP, hG, plG, sub, hC, pc, un, fun H1 t bs s1 e1 mb _ => ?_⟩
                refine ⟨t, _, rfl, .inr (SqT.of e1), rfl, flat_vi _, ?_⟩
                rw [if_neg (by decide), inV_vi]
                refine key _ ?_ _ s1
                rw [un', decide_eq_true_eq, mb]
                exact ⟨fun ⟨_, k, b⟩ => by cases k; exact b, fun b => ⟨v, rfl, b⟩⟩
      | _ => simp [isD, kindD] at e
def spCertA (K : PySem.W.Frag) : Sp := fun vs H Q _ => ∃ (h p g rl : Addr) (n : Int) (D : List (Int × Int)) (P G : List (Str × Int)) (C : List Int) (v : V) (d : PyData), vs = [.ref h, .ref p, .ref g, .ref rl, v] ∧ HouseAt H h n D ∧ Forest n D ∧ 0 ≤ n ∧ n ≤ 8 ∧ PlAt H p P ∧ Pl n P ∧ P.length ≤ 60 ∧ PlAt H g G ∧ Pl n G ∧ (∀ x ∈ P.map (·.1), x ∈ G.map (·.1)) ∧ SqT K H rl (vi C) ∧ Pce D P G C ∧ C.length ≤ 8 ∧ Dx K [] H v d ∧
  ∀ H', Same H H' → Q (.bl (crtB D P G C d)) H'
abbrev nIsCert : List Str := ["house", "placement", "target", "region", "value", "rooms", "room", "row"]
abbrev pIsCert : List Str := ["house", "placement", "target", "region", "value"]
theorem scIsCert : FnScope nIsCert pIsCert (defScope sIsCert) := ⟨rfl, rfl, rfl, by decide +kernel, rfl, by decide +kernel, by decide +kernel⟩
theorem ok_iscert {f : Addr} {fd : FuncData} {k : Nat} (F : Fun K "is_certificate" "is_certificate" sIsCert f fd) (T : Nm mg) (Cunwanted_rooms : Cal P w K mg base k "unwanted_rooms" pUnw (spUnw K)) (Cis_row : Cal P w K mg base k "is_row" pIsRow (spRowA K)) (Cconditions_hold : Cal P w K mg base k "conditions_hold" pCond (spCond K)) : FnOk P w K mg base CX0 (k + 1) f fd pIsCert (spCertA K) := by
  refine F.ok scIsCert (fun vs H Q E h => ?_) (fun cdv A outer s H vs Q E hr h => ?_)
  · obtain ⟨h, p, g, rl, n, D, P, G, C, v, d, rfl, _⟩ := h
    rfl
  · obtain ⟨h, p, g, rl, n, D, P, G, C, v, d, rfl, hH, hF, n0, n1, hP, pl, lP, hG, plG, sub, hC, pc, l8, hd, q⟩ := h
    refine ⟨_, (pss_cons (ps_set (i := 5) scIsCert.nd rfl (.inl rfl) (pe_cal Cunwanted_rooms hr (by rfl) (pa_cons (pv 1) (pa_cons (pv 2) (pa_cons (pv 3) pa_nil)))))
      (pss_cons (ps_if (PW.pt (pw_or (pt_not (pt_val (pe_callB (call_isD (av := [])) (by rfl) T.isinstance (by decide +kernel) (pa_cons (pv 4) (pa_cons (pe_bltn (v := .ty "tuple") (by rfl) T.tuple (by decide +kernel) rfl) pa_nil))))) (pw_or1 (pt_cmpR op_ne (pe_callB (call_lenK K rfl) (by rfl) T.len (by decide +kernel) (pa_cons (pv 4) pa_nil)) (pe_callB (call_lenK K rfl) (by rfl) T.len (by decide +kernel) (pa_cons (pv 5) pa_nil)) (nomark _)))))
      (pss_one (ps_ret pe_bl))
      pss_nil)
      (pss_cons (ps_for PassesOwn.never rfl (pi_zipA (by rfl) T.zip (pa_cons (pv 5) (pa_cons (pv 4) pa_nil))) (pg_tup (by rfl) (pgs_cons (pg_name (i := 6) scIsCert.nd rfl (.inl rfl)) (pgs_cons (pg_name (i := 7) scIsCert.nd rfl (.inl rfl)) pgs_nil)))
      (pss_one (ps_if (pt_not (pt_val (pe_cal Cis_row hr (by rfl) (pa_cons (pv 0) (pa_cons (pv 1) (pa_cons (pv 2) (pa_cons (pv 3) (pa_cons (pv 6) (pa_cons (pv 7) pa_nil)))))))))
       (pss_one (ps_ret pe_bl))
       pss_nil)))
      (pss_one (ps_ret (pe_cal Cconditions_hold hr (by rfl) (pa_cons (pv 0) (pa_cons (pv 1) (pa_cons (pv 2) (pa_cons (pv 3) (pa_cons (pv 4) pa_nil))))))))))), ?_⟩
    refine ⟨_, rfl, _, rfl, _, rfl, p, g, rl, P, G, C, rfl, hP, by omega, hG, plG.nodup, sub, hC, by omega, fun H1 t s1 e1 => ?_⟩
    have hd1 := dx_sm s1 hd
    refine ⟨_, rfl, v, "tuple", d, rfl, by decide, hd1, _, rfl, ?_⟩
    cases e : isD "tuple" d with
    | false =>
      rw [crtB_no (by rw [cert_not e]; exact fun ⟨_, k, _⟩ => nomatch k)] at q
      exact iteT (iteT (q _ s1))
    | true =>
      cases hd1 with
      | @tup a xs ds sq da =>
        refine iteF ⟨_, rfl, a, xs, rfl, .inr sq, _, rfl, t, _, rfl, .inr (SqT.of e1), rfl, _, rfl, ?_⟩
        by_cases lu : ds.length = (unwL P G C).length
        case neg =>
          rw [crtB_no fun ⟨rs, k1, k2, _⟩ => lu (by rw [← rows_len k1, ← k2, List.length_map])] at q
          exact if_t (by rw [decide_eq_false fun z => lu (by have := V.int.inj z; rw [da.len, List.length_map] at this; omega)]; rfl) (q _ s1)
        have lx : xs.length = (vi (unwL P G C)).length := by rw [da.len, lu, List.length_map]
        refine if_f (by rw [lx]; simp) ?_
        refine ⟨_, rfl, _, rfl, t, a, vi (unwL P G C), xs, rfl, .inr ⟨SqT.of e1, sq, for_it (both_walk (K := K) (a := t) (b := a) (xs := vi (unwL P G C)) (ys := xs) lx) (fun i σ' H' => ∃ y6 y7, σ' = [some (.ref h), some (.ref p), some (.ref g), some (.ref rl), some (.ref a), some (.ref t), y6, y7] ∧ Same H1 H' ∧ ∃ rs, rowsOf (ds.take i) = some rs ∧ rs.map rowR = (unwL P G C).take i ∧ ∀ x ∈ rs, RowOk D P G C x)
          ⟨_, _, rfl, Same.refl _, [], rfl, rfl, fun x hx => nomatch hx⟩ (fun i σ' H' _ hh => ?_) ?_ ?_⟩⟩
        · obtain ⟨_, _, _, s', _⟩ := hh
          exact ⟨SqT.of (s' _ _ e1), sqT_sm s' sq⟩
        · rintro i _ σ' H2 _ hlt ⟨y6, y7, rfl, s2, rs, r1, r2, r3⟩ ⟨tt, x, y, rfl, ht, rfl, hx, hy⟩
          obtain ⟨u, hu, rfl⟩ := get_vi hx
          obtain ⟨dd, hdd, hb⟩ := da.at hy
          have s3 := s2.trans (same_upd (o := .tup [.int u, y]) ht)
          refine ⟨tt, _, rfl, SqT.of upd_same, rfl, _, _, rfl, _, _, rfl, rfl, ?_⟩
          generalize upd H2 tt (.tup [.int u, y]) = H3 at *
          have s13 := s1.trans s3
          refine ⟨_, rfl, _, rfl, _, rfl, _, rfl, _, rfl, _, rfl, h, p, g, rl, n, D, P, G, C, u, y, dd, rfl, hH.same s13, hF, n1, hP.same s13, pl, lP, hG.same s13, plG, sub, sqT_sm s13 hC, pc, mem_unwL.mp (List.mem_of_getElem? hu), dx_sm s3 hb, fun H4 s4 => ⟨_, rfl, ?_⟩⟩
          cases eb : rowB D P G C u dd with
          | false =>
            refine iteT ?_
            rw [crtB_no fun ⟨rs', k1, k2, k3⟩ => by
              obtain ⟨z, z1, z2⟩ := rows_get k1 hdd
              have : rowB D P G C u dd = true := rowB_iff.mpr ⟨z, z2, by
                have h1 : (rs'.map rowR)[i]? = some (rowR z) := by rw [List.getElem?_map, z1]; rfl
                rw [k2, hu] at h1
                exact (Option.some.inj h1).symm, k3 z (List.mem_of_getElem? z1)⟩
              rw [eb] at this
              cases this] at q
            exact q _ (s13.trans s4)
          | true =>
            obtain ⟨z, z1, z2, z3⟩ := rowB_iff.mp eb
            refine iteF ⟨_, _, rfl, s3.trans s4, rs ++ [z], ?_, ?_, fun x hx => ?_⟩
            · rw [take_snoc hdd]
              exact rows_snoc r1 z1
            · rw [List.map_append, r2, take_snoc hu, ← z2]
              rfl
            · rcases List.mem_append.mp hx with hx | hx
              · exact r3 x hx
              · rw [List.mem_singleton.mp hx]; exact z3
        · rintro σ' H2 ⟨y6, y7, rfl, s2, rs, r1, r2, r3⟩
          rw [List.length_map] at r1 r2
          rw [List.take_length] at r2
          rw [← lu, List.take_length] at r1
          obtain ⟨as, a1, a2, a3⟩ := dx_rows da r1
          have s12 := s1.trans s2
          refine ⟨_, rfl, _, rfl, _, rfl, _, rfl, _, rfl, h, p, g, rl, a, n, D, P, G, C, rs, rfl, hH.same s12, hF, n0, n1, hP.same s12, pl, lP, hG.same s12, plG, sub, sqT_sm s12 hC, pc.up, l8, ⟨as, by rw [← a1]; exact sqT_sm s2 sq, a2, fun x hx => sqT_sm s2 (a3 x hx)⟩, ?_, ?_, fun H3 s3 => ?_⟩
          · have h1 := congrArg List.length r2
            have h2 := unwL_len P G C
            rw [List.length_map] at h1
            omega
          · have h1 := bks_sub rs
            rw [r2] at h1
            exact h1.nodup (up_nodup (unwL_up pc.up))
          · have : crtB D P G C (.tuple ds) = cndB D P G C (bks rs) := by
              rw [Bool.eq_iff_iff, crtB_iff, cndB_iff]
              constructor
              · rintro ⟨rs', k1, _, _, k4⟩
                have : rs' = rs := Option.some.inj ((show rowsOf ds = some rs' from k1).symm.trans r1)
                rw [← this]; exact k4
              · exact fun k => ⟨rs, r1, r2, r3, k⟩
            rw [← this]
            exact q _ (s12.trans s3)
      | _ => simp [isD, kindD] at e
end
end Fw
set_option maxHeartbeats 8000000
namespace Fw
open PySem PySem.Spec PyProof.Rows L2
/-! random rows -/
/-- a row of people and rooms -/
def RowF (n : Int) (P : List (Str × Int)) : Row → Prop
  | .p r nm => (0 ≤ r ∧ r < n) ∧ nm ∈ P.map (·.1)
  | .b r v => (0 ≤ r ∧ r < n) ∧ 0 ≤ v ∧ v < n
theorem LRows.tup {H : Hp} {l : Addr} {rs : List Row} (x : LRows H l rs) : ∃ xs, H l = some (.lst xs) ∧ xs.length = rs.length ∧ ∀ t, H t = none → CtA (upd H t (.tup xs)) t rs := by
  obtain ⟨as, a1, a2, a3⟩ := x
  exact ⟨_, a1, by rw [a2, List.length_map, List.length_map], fun t ht => ⟨as, upd_same, a2, fun z hz => same_upd ht _ _ (a3 z hz)⟩⟩
theorem LRows.snoc {H : Hp} {l t : Addr} {rs : List Row} {x : Row} (h : LRows H l rs) (ht : H t = some (.tup (rowV x))) : ∃ acc, H l = some (.lst acc) ∧ acc.length = rs.length ∧ LRows (upd H l (.lst (acc ++ [.ref t]))) l (rs ++ [x]) := by
  obtain ⟨as, a1, a2, a3⟩ := h
  refine ⟨_, a1, by rw [a2, List.length_map, List.length_map], as ++ [(t, x)], ?_, by rw [a2, List.map_append]; rfl, fun z hz => ?_⟩
  · rw [upd_same, List.map_append]
    rfl
  · rcases List.mem_append.mp hz with hz | hz
    · rw [upd_ne (ne_of (a3 z hz) a1 (by intro q; cases q))]
      exact a3 z hz
    · rw [List.mem_singleton.mp hz, upd_ne (ne_of ht a1 (by intro q; cases q))]
      exact ht
theorem LRows.same {H H' : Hp} {l : Addr} {rs : List Row} (h : LRows H l rs) (s : Same H H') : LRows H' l rs := by
  obtain ⟨as, a1, a2, a3⟩ := h
  exact ⟨as, s _ _ a1, a2, fun z hz => s _ _ (a3 z hz)⟩
theorem LRows.fr {s A B : Addr} {c : Nat} {H H' : Hp} {l : Addr} {rs : List Row} (h : LRows H l rs) (hS : StreamAt H s A B c) (f : Fr s A H H') (z : s ≠ l ∧ A ≠ l ∧ B ≠ l) : LRows H' l rs := by
  obtain ⟨as, a1, a2, a3⟩ := h
  exact ⟨as, f _ _ z.1.symm z.2.1.symm a1, a2, fun y hy => f.tup hS (a3 y hy)⟩
theorem sq_frR {K : PySem.W.Frag} {s A B : Addr} {c : Nat} {H H1 : Hp} (hS : StreamAt H s A B c) (f : Fr s A H H1) {a : Addr} {xs : List V} (h : SqT K H a xs) : SqT K H1 a xs := h.elim (fun e => .inl (rd_fr hS f e)) .inr
theorem psgW_mem {D : List (Int × Int)} {G : List (Str × Int)} {r : Int} {R : List Int} {X : List (Str × Int)} {x : Str} (h : x ∈ psgW D G r R X) : x ∈ X.map (·.1) := by
  unfold psgW at h
  obtain ⟨y, hy, rfl⟩ := List.mem_map.mp h
  exact List.mem_map_of_mem (f := (·.1)) (List.mem_filter.mp hy).1
/-- a row as data -/
def rowD : Row → PyData
  | .p r nm => .tuple [.int r, .str "passed", .str nm]
  | .b r v => .tuple [.int r, .str "back", .int v]
theorem rowOf_D (x : Row) : rowOf (rowD x) = some x := by
  cases x with
  | p r nm => rw [rowD, row3, if_pos (by decide)]; rfl
  | b r v => rw [rowD, row3, if_neg (by decide), if_pos (by decide)]; rfl
def certD (rs : List Row) : PyData := .tuple (rs.map rowD)
theorem rowsOf_D : ∀ rs : List Row, rowsOf (rs.map rowD) = some rs
  | [] => rfl
  | x :: rs => by
    rw [List.map_cons, rowsOf, rowOf_D, rowsOf_D rs]
    rfl
theorem certOf_D (rs : List Row) : certOf (certD rs) = some rs := rowsOf_D rs
theorem row_dx {K : PySem.W.Frag} {av : List Addr} {H : Hp} {a : Addr} {x : Row} (h : H a = some (.tup (rowV x))) : Dx K av H (.ref a) (rowD x) := by
  cases x with
  | p r nm => exact .tup (SqT.of h) (.cons (.int _) (.cons (.str _) (.cons (.str _) .nil)))
  | b r v => exact .tup (SqT.of h) (.cons (.int _) (.cons (.str _) (.cons (.int _) .nil)))
theorem rows_dx {K : PySem.W.Frag} {av : List Addr} {H : Hp} : ∀ {as : List (Addr × Row)}, (∀ x ∈ as, H x.1 = some (.tup (rowV x.2))) → DxAll K av H (as.map fun x => V.ref x.1) ((as.map (·.2)).map rowD)
  | [], _ => .nil
  | x :: as, h => .cons (row_dx (h x List.mem_cons_self)) (rows_dx fun y hy => h y (List.mem_cons_of_mem _ hy))
theorem CtA.dx {K : PySem.W.Frag} {av : List Addr} {H : Hp} {t : Addr} {rs : List Row} (h : CtA H t rs) : Dx K av H (.ref t) (certD rs) := by
  obtain ⟨as, a1, rfl, a3⟩ := h
  exact .tup (SqT.of a1) (rows_dx a3)
theorem crtB_own {D : List (Int × Int)} {P G : List (Str × Int)} {C : List Int} {rs : List Row} (e : rs.map rowR = unwL P G C) (ok : ∀ x ∈ rs, RowOk D P G C x) (c : Crt D P G C (bks rs)) : crtB D P G C (certD rs) = true := crtB_iff.mpr ⟨rs, certOf_D rs, e, ok, c.cnd⟩
theorem ChA.snoc {H : Hp} {L t : Addr} {cs : List (List Row)} {rs : List Row} (h : ChA H L cs) (ht : CtA H t rs) : ∃ acc, H L = some (.lst acc) ∧ acc.length = cs.length ∧ ChA (upd H L (.lst (acc ++ [.ref t]))) L (cs ++ [rs]) := by
  obtain ⟨as, a1, a2, a3⟩ := h
  have tk : Tk H (upd H L (.lst ((as.map fun x => V.ref x.1) ++ [.ref t]))) := Tk.refl.put a1
  refine ⟨_, a1, by rw [a2, List.length_map, List.length_map], as ++ [(t, rs)], ?_, by rw [a2, List.map_append]; rfl, fun z hz => ?_⟩
  · rw [upd_same, List.map_append]
    rfl
  · rcases List.mem_append.mp hz with hz | hz
    · exact (a3 z hz).tk tk
    · rw [List.mem_singleton.mp hz]
      exact ht.tk tk
theorem ChA.fr {s A B : Addr} {c : Nat} {H H' : Hp} {L : Addr} {cs : List (List Row)} (h : ChA H L cs) (hS : StreamAt H s A B c) (f : Fr s A H H') (z : s ≠ L ∧ A ≠ L ∧ B ≠ L) : ChA H' L cs := by
  obtain ⟨as, a1, a2, a3⟩ := h
  exact ⟨as, f _ _ z.1.symm z.2.1.symm a1, a2, fun y hy => (a3 y hy).tk (Tk.fr f hS)⟩
section
variable {P : Program} {w : World} {K : PySem.W.Frag} {mg : Str → Option Value} {base : Heap}
def spLRR (K : PySem.W.Frag) : Sp := fun vs H Q _ => ∃ (s A B h p g rl : Addr) (c : Nat) (n : Int) (D : List (Int × Int)) (P G : List (Str × Int)) (C : List Int), vs = [.ref s, .ref h, .ref p, .ref g, .ref rl] ∧ StreamAt H s A B c ∧ c < 2 ^ 28 ∧ HouseAt H h n D ∧ Forest n D ∧ n ≤ 8 ∧ PlAt H p P ∧ Pl n P ∧ P.length ≤ 60 ∧ P ≠ [] ∧ PlD H g G ∧ Pl n G ∧ G.length ≤ 100 ∧ (∀ x ∈ P.map (·.1), x ∈ G.map (·.1)) ∧ SqT K H rl (vi C) ∧ C.length ≤ 8 ∧ (∀ r ∈ C, 0 ≤ r ∧ r < n) ∧
  ∀ H' t rs, StreamAt H' s A B (c + 20) → Fr s A H H' → CtA H' t rs → rs.map rowR = unwL P G C → (∀ x ∈ rs, RowF n P x) → Q (.ref t) H'
abbrev nLRR : List Str := ["_law_stream_here", "_law_house", "_law_placement", "_law_target", "_law_region", "_law_found", "_law_room", "_law_names_here", "_law_near"]
abbrev pLRR : List Str := ["_law_stream_here", "_law_house", "_law_placement", "_law_target", "_law_region"]
theorem scLRR : FnScope nLRR pLRR (defScope sLRR) := ⟨rfl, rfl, rfl, by decide +kernel, rfl, by decide +kernel, by decide +kernel⟩
theorem ok_lrr {f : Addr} {fd : FuncData} {k : Nat} (F : Fun K "_law_random_rows" "_law_random_rows" sLRR f fd) (T : Nm mg) (C_law_unwanted : Cal P w K mg base k "_law_unwanted" pLUnw (spLUnwF K)) (C_law_passing : Cal P w K mg base k "_law_passing" pLPassing (spLPassR K)) (C_law_neighbors : Cal P w K mg base k "_law_neighbors" pLNb spLNb) (C_law_draw : Cal P w K mg base k "_law_draw" pDraw spDraw) : FnOk P w K mg base CX0 (k + 1) f fd pLRR (spLRR K) := by
  refine F.ok scLRR (fun vs H Q E h => ?_) (fun cdv Ar outer sh H vs Q E hr h => ?_)
  · obtain ⟨s, A, B, h, p, g, rl, c, n, D, P, G, C, rfl, _⟩ := h
    rfl
  · obtain ⟨s, A, B, h, p, g, rl, c, n, D, P, G, C, rfl, hS, hc, hH, hF, n1, hP, pl, lP, neP, hG, plG, lG, sub, hC, lC, rC, q⟩ := h
    refine ⟨_, (pss_cons (ps_set (i := 5) scLRR.nd rfl (.inl rfl) (pe_lst pa_nil))
      (pss_cons (ps_for PassesOwn.never rfl (pi_listK K rfl (pe_cal C_law_unwanted hr (by rfl) (pa_cons (pv 2) (pa_cons (pv 3) (pa_cons (pv 4) pa_nil))))) (pg_name (i := 6) scLRR.nd rfl (.inl rfl))
      (pss_cons (ps_par (i := 7) (j := 8) (by rfl) scLRR.nd rfl rfl (by decide) rfl rfl (pa_cons (pe_cal C_law_passing hr (by rfl) (pa_cons (pv 1) (pa_cons (pv 2) (pa_cons (pv 3) (pa_cons (pv 6) (pa_cons (pv 4) pa_nil)))))) (pa_cons (pe_cal C_law_neighbors hr (by rfl) (pa_cons (pv 1) (pa_cons (pv 6) pa_nil))) pa_nil)) (by rfl))
       (pss_one (ps_if (PW.pt (pw_or (pt_cmpR (op_eqL0 (Nat.lt_of_succ_lt (hu_of hr))) (pv 8) (pe_lst pa_nil) (nomark _)) (pw_or1 (PW.pt (pw_and (pt_cmpR (op_neL0 (Nat.lt_of_succ_lt (hu_of hr))) (pv 7) (pe_lst pa_nil) (nomark _)) (pw_and1 (pt_cmpR op_gt (pe_cal C_law_draw hr (by rfl) (pa_cons (pv 0) (pa_cons pe_int pa_nil))) pe_int (nomark _))))))))
       (pss_one (ps_expr (pe_bm PySem.F.plainAttrs_list PySem.F.slot_list_append PySem.F.type_list_append mt_append (pv 5) (pa_cons (pe_tup (pa_cons (pv 6) (pa_cons pe_str (pa_cons (pe_ix (ix_listK K rfl) (pe_op op_cat (pv 7) (pe_lst (pa_cons (pe_ix (ix_tupK K rfl) (pe_ix (ix_tupK K rfl) (pv 2) pe_int (fun _ _ => rfl)) pe_int (fun _ _ => rfl)) pa_nil))) (pe_cal C_law_draw hr (by rfl) (pa_cons (pv 0) (pa_cons (pe_callB (call_max2 rfl) (by rfl) T.max (by decide +kernel) (pa_cons pe_int (pa_cons (pe_callB (call_lenK K rfl) (by rfl) T.len (by decide +kernel) (pa_cons (pv 7) pa_nil)) pa_nil))) pa_nil))) (fun _ _ => rfl)) pa_nil)))) pa_nil))))
       (pss_one (ps_expr (pe_bm PySem.F.plainAttrs_list PySem.F.slot_list_append PySem.F.type_list_append mt_append (pv 5) (pa_cons (pe_tup (pa_cons (pv 6) (pa_cons pe_str (pa_cons (pe_ix (ix_listK K rfl) (pv 8) (pe_cal C_law_draw hr (by rfl) (pa_cons (pv 0) (pa_cons (pe_callB (call_lenK K rfl) (by rfl) T.len (by decide +kernel) (pa_cons (pv 8) pa_nil)) pa_nil))) (fun _ _ => rfl)) pa_nil)))) pa_nil))))))))
      (pss_one (ps_ret (pe_callTy (call_tupleK K rfl) (by rfl) T.tuple (by decide +kernel) (pa_cons (pv 5) pa_nil)))))), ?_⟩
    refine ⟨Nat.zero_le _, fun L hL => ?_⟩
    have s0 := same_upd (o := .lst []) hL
    have z0 := hS.ne hL
    have eL : (upd H L (.lst [])) L = some (.lst []) := upd_same
    have hS0 := hS.same s0
    have hL0 := hL
    generalize upd H L (.lst []) = H0 at *
    refine ⟨_, rfl, _, rfl, _, rfl, p, g, rl, P, G, C, rfl, hP.same s0, by omega, hG.same s0, plG.nodup, lG, sub, sqT_same s0 hC, by omega, fun H2 u s2 fu e2 => ?_⟩
    have zu : L ≠ u := ne_of_none eL fu
    have zsu := hS0.ne fu
    have s02 := s0.trans s2
    refine ⟨u, rfl, ⟨_, SqL.of e2⟩, for_list (K := K) (a := u) (xs := vi (unwL P G C)) (fun i σ' H' => ∃ rs y6 y7 y8, σ' = [some (.ref s), some (.ref h), some (.ref p), some (.ref g), some (.ref rl), some (.ref L), y6, y7, y8] ∧ StreamAt H' s A B (c + 2 * i) ∧ Fr s A H H' ∧ H' u = some (.lst (vi (unwL P G C))) ∧ LRows H' L rs ∧ rs.map rowR = (unwL P G C).take i ∧ ∀ x ∈ rs, RowF n P x)
      ⟨[], _, _, _, rfl, hS.same s02, Fr.of s02, e2, ⟨[], s2 _ _ eL, rfl, fun x hx => nomatch hx⟩, rfl, fun x hx => nomatch hx⟩ (fun i σ' H' _ hh => ?_) ?_ ?_⟩
    · obtain ⟨_, _, _, _, _, _, _, e', _⟩ := hh
      exact SqL.of e'
    · rintro i x σ' H3 hx ⟨rs, y6, y7, y8, rfl, hS3, fr3, eu3, hR3, mr, rf⟩
      obtain ⟨r, hr', rfl⟩ := get_vi hx
      have mu := List.mem_of_getElem? hr'
      have un := mem_unwL.mp mu
      have rr := rC r un.1
      have li := lt_of_get hr'
      have lu := unwL_len P G C
      refine ⟨_, rfl, _, rfl, _, rfl, _, rfl, _, rfl, h, p, g, rl, n, D, P, G, r, C, rfl, hH.fr hS fr3, hF, n1, hP.fr hS fr3, pl, by omega, hG.fr hS fr3, plG, lG, sub, sq_frR hS fr3 hC, fun H4 l4 s4 e4 => ?_⟩
      refine ⟨_, rfl, _, rfl, h, n, D, r, rfl, (hH.fr hS fr3).same s4, hF, fun H5 l5 s5 f5 e5 => ?_⟩
      have s35 := s4.trans s5
      have e45 := s5 _ _ e4
      refine ⟨_, _, rfl, ?_⟩
      dsimp only
      refine ⟨_, rfl, Nat.zero_le _, fun O hO => ⟨l5, O, _, rfl, rfl, SqL.of (same_upd hO _ _ e5), SqL.of upd_same, _, rfl, ?_⟩⟩
      have s6 := same_upd (o := .lst []) hO
      have e46 := s6 _ _ e45
      have e56 := s6 _ _ e5
      have s36 := s35.trans s6
      have f5' : H3 l5 = none := s4.free f5
      generalize upd H5 O (.lst []) = H6 at *
      have hS6 := hS3.same s36
      have fr6 := fr3.trans (Fr.of s36)
      have hR6 := hR3.same s36
      have eu6 := s36 _ _ eu3
      have z5 := hS3.ne f5'
      have zL : s ≠ L ∧ A ≠ L ∧ B ≠ L := z0
      by_cases hn : (vi (nb n D r)).isEmpty = true
      · rw [hn]
        refine iteT (iteT ?_)
        have lrs : rs.length ≤ 8 := by
          have := congrArg List.length mr
          rw [List.length_map, List.length_take] at this
          omega
        have hSJ := hS6
        have frJ := fr6
        have hRJ := hR6
        have euJ := eu6
        have eJ4 := e46
        obtain ⟨as, a1, a2, a3⟩ := id hRJ
        obtain ⟨xp, tp, np, vp, sp, ap, ep, mp⟩ := (hP.fr hS frJ).at (K := K) (r := 0) (by decide) (by have := List.length_pos_iff.mpr neP; omega)
        refine ⟨_, rfl, .inl ⟨rfl, _, SqL.of a1⟩, _, rfl, _, rfl, _, rfl, p, xp, 0, _, rfl, rfl, sp, ap, tp, _, 0, _, rfl, rfl, SqT.of ep, atI0, by show 1 ≤ sizeLine; decide, fun M hM => ?_⟩
        have sM := same_upd (o := .lst [.str np]) hM
        have eM4 := sM _ _ eJ4
        have lns : (psgW D G r C P).length ≤ 60 := Nat.le_trans (psgW_len D G r C P) lP
        refine ⟨l4, M, _, _, rfl, rfl, eM4, upd_same, ?_, fun N hN => ?_⟩
        · rw [List.length_map]
          exact Nat.le_of_lt (small1000 (by simp only [List.length_cons, List.length_nil]; omega))
        have sN := sM.trans (same_upd (o := .lst ((psgW D G r C P).map V.str ++ [.str np])) hN)
        have eN4 := sN _ _ eJ4
        have eN : (upd (upd H6 M (.lst [.str np])) N (.lst ((psgW D G r C P).map V.str ++ [.str np]))) N = some (.lst ((psgW D G r C P).map V.str ++ [.str np])) := upd_same
        have fN : H6 N = none := sM.free hN
        generalize upd (upd H6 M (.lst [.str np])) N (.lst ((psgW D G r C P).map V.str ++ [.str np])) = J2 at *
        have hS2 := hSJ.same sN
        have zN := hSJ.ne fN
        have pos : (0 : Int) < (if (((psgW D G r C P).map V.str).length : Int) > 1 then (((psgW D G r C P).map V.str).length : Int) else 1) := by split <;> omega
        have lt : (if (((psgW D G r C P).map V.str).length : Int) > 1 then (((psgW D G r C P).map V.str).length : Int) else 1) ≤ (((psgW D G r C P) ++ [np]).length : Nat) := by
          rw [List.length_append, List.length_map]
          simp only [List.length_cons, List.length_nil]
          split <;> omega
        have sml : (if (((psgW D G r C P).map V.str).length : Int) > 1 then (((psgW D G r C P).map V.str).length : Int) else 1) < 2 ^ 60 := by
          rw [List.length_map]
          split <;> omega
        refine ⟨_, rfl, _, rfl, l4, _, rfl, .inl (SqL.of eN4), _, _, rfl, s, A, B, _, _, rfl, hS2, by omega, pos, sml, fun J3 r2 hS3' fr3' r20 r21 => ?_⟩
        have eN3 := fr3' _ _ zN.1.symm zN.2.1.symm eN
        obtain ⟨nn, mn, an⟩ := at_str (xs := (psgW D G r C P) ++ [np]) r20 (Int.lt_of_lt_of_le r21 lt)
        refine ⟨N, _, r2, _, rfl, rfl, SqL.of eN3, by rw [List.map_append] at an; exact an, by show 3 ≤ sizeLine; decide, fun b hb => ?_⟩
        have sb := same_upd (o := .tup [.int r, .str "passed", .str nn]) hb
        have frb := frJ.trans ((Fr.of sN).trans (fr3'.trans (Fr.of sb)))
        obtain ⟨acc, c1, c2, c3⟩ := (((hRJ.same sN).fr hS2 fr3' zL).same sb).snoc (t := b) (x := .p r nn) upd_same
        refine ⟨L, acc, _, rfl, rfl, c1, by rw [c2]; exact small1000 (by omega), rs ++ [.p r nn], _, _, _, rfl, ((hS3'.same sb).put zL).mono (by omega), frb.put hL0, ?_, c3, ?_, ?_⟩
        · rw [upd_ne zu.symm]
          exact sb _ _ (fr3' _ _ zsu.1.symm zsu.2.1.symm (sN _ _ euJ))
        · rw [List.map_append, mr, take_snoc hr']
          rfl
        · intro x hx
          rcases List.mem_append.mp hx with hx | hx
          · exact rf x hx
          · rw [List.mem_singleton.mp hx]
            refine ⟨rr, ?_⟩
            rcases List.mem_append.mp mn with mn | mn
            · exact psgW_mem mn
            · rw [List.mem_singleton.mp mn]
              exact List.mem_map_of_mem (f := (·.1)) mp
      · rw [Bool.eq_false_iff.mpr hn]
        refine iteF ?_
        have lrs : rs.length ≤ 8 := by
          have := congrArg List.length mr
          rw [List.length_map, List.length_take] at this
          omega
        refine ⟨_, rfl, Nat.zero_le _, fun O2 hO2 => ⟨l4, O2, _, rfl, rfl, SqL.of (same_upd hO2 _ _ e46), SqL.of upd_same, _, rfl, ?_⟩⟩
        have s7 := same_upd (o := .lst []) hO2
        have e47 := s7 _ _ e46
        have e57 := s7 _ _ e56
        have hS7 := hS6.same s7
        have fr7 := fr6.trans (Fr.of s7)
        have hR7 := hR6.same s7
        have eu7 := s7 _ _ eu6
        generalize upd H6 O2 (.lst []) = H7 at *
        by_cases hp : (!((psgW D G r C P).map V.str).isEmpty) = true
        case neg =>
          rw [Bool.eq_false_iff.mpr hp]
          refine iteF (iteF ?_)
          have hSJ := hS7
          have frJ := fr7
          have hRJ := hR7
          have euJ := eu7
          have eJ5 := e57
          obtain ⟨as, a1, a2, a3⟩ := id hRJ
          have ln : 0 < (nb n D r).length := by
            cases q' : nb n D r with
            | nil => rw [q'] at hn; exact absurd rfl hn
            | cons y ys => exact Nat.succ_pos _
          have ln8 := nb_len n D r
          refine ⟨_, rfl, .inl ⟨rfl, _, SqL.of a1⟩, _, rfl, _, rfl, _, rfl, _, rfl, l5, _, rfl, .inl (SqL.of eJ5), s, A, B, _, _, rfl, hSJ, by omega, by rw [List.length_map]; omega, by rw [List.length_map]; omega, fun J3 r2 hS3' fr3' r20 r21 => ?_⟩
          rw [List.length_map] at r21
          have eN3 := fr3' _ _ z5.1.symm z5.2.1.symm eJ5
          obtain ⟨v, mv, av⟩ := atI_in (xs := nb n D r) r20 r21
          have rv := (mem_nb.mp mv).1
          refine ⟨l5, _, r2, _, rfl, rfl, SqL.of eN3, av, by show 3 ≤ sizeLine; decide, fun b hb => ?_⟩
          have sb := same_upd (o := .tup [.int r, .str "back", .int v]) hb
          have frb := frJ.trans (fr3'.trans (Fr.of sb))
          obtain ⟨acc, c1, c2, c3⟩ := ((hRJ.fr hSJ fr3' zL).same sb).snoc (t := b) (x := .b r v) upd_same
          refine ⟨L, acc, _, rfl, rfl, c1, by rw [c2]; exact small1000 (by omega), rs ++ [.b r v], _, _, _, rfl, ((hS3'.same sb).put zL).mono (by omega), frb.put hL0, ?_, c3, ?_, ?_⟩
          · rw [upd_ne zu.symm]
            exact sb _ _ (fr3' _ _ zsu.1.symm zsu.2.1.symm euJ)
          · rw [List.map_append, mr, take_snoc hr']
            rfl
          · intro x hx
            rcases List.mem_append.mp hx with hx | hx
            · exact rf x hx
            · rw [List.mem_singleton.mp hx]
              exact ⟨rr, rv.1, rv.2⟩
        rw [hp]
        refine iteT ?_
        have z4 : s ≠ l4 ∧ A ≠ l4 ∧ B ≠ l4 := by
          obtain ⟨big, cells, cnt, h1, h2, h3, _⟩ := hS7.ex
          obtain ⟨y, ys, ey⟩ : ∃ y ys, psgW D G r C P = y :: ys := by
            cases q' : psgW D G r C P with
            | nil => rw [q'] at hp; cases hp
            | cons y ys => exact ⟨y, ys, rfl⟩
          have e := e47
          rw [ey, List.map_cons] at e
          refine ⟨fun z => ?_, fun z => ?_, fun z => ?_⟩
          · rw [← z, h1] at e
            injection e with e
            injection e with e
            injection e with e
            cases e
          · rw [← z, h2] at e
            injection e with e
            injection e with e
            cases big with
            | nil => cases e
            | cons x xs => injection e with e; cases e
          · rw [← z, h3] at e
            injection e with e
            injection e with e
            cases cells with
            | nil => cases e
            | cons x xs => injection e with e; cases e
        refine ⟨_, rfl, s, A, B, _, 3, rfl, hS7, by omega, by decide, by decide, fun H8 r3 hS8 fr8 r30 r31 => ?_⟩
        have frJ := fr7.trans fr8
        have hRJ := hR7.fr hS7 fr8 zL
        have euJ := fr8 _ _ zsu.1.symm zsu.2.1.symm eu7
        have eJ4 := fr8 _ _ z4.1.symm z4.2.1.symm e47
        have eJ5 := fr8 _ _ z5.1.symm z5.2.1.symm e57
        have hSJ := hS8
        refine ⟨_, _, rfl, rfl, _, rfl, ?_⟩
        refine ite2 (fun z => ?_) (fun z => ?_)
        · obtain ⟨as, a1, a2, a3⟩ := id hRJ
          obtain ⟨xp, tp, np, vp, sp, ap, ep, mp⟩ := (hP.fr hS frJ).at (K := K) (r := 0) (by decide) (by have := List.length_pos_iff.mpr neP; omega)
          refine ⟨_, rfl, .inl ⟨rfl, _, SqL.of a1⟩, _, rfl, _, rfl, _, rfl, p, xp, 0, _, rfl, rfl, sp, ap, tp, _, 0, _, rfl, rfl, SqT.of ep, atI0, by show 1 ≤ sizeLine; decide, fun M hM => ?_⟩
          have sM := same_upd (o := .lst [.str np]) hM
          have eM4 := sM _ _ eJ4
          have lns : (psgW D G r C P).length ≤ 60 := Nat.le_trans (psgW_len D G r C P) lP
          refine ⟨l4, M, _, _, rfl, rfl, eM4, upd_same, ?_, fun N hN => ?_⟩
          · rw [List.length_map]
            exact Nat.le_of_lt (small1000 (by simp only [List.length_cons, List.length_nil]; omega))
          have sN := sM.trans (same_upd (o := .lst ((psgW D G r C P).map V.str ++ [.str np])) hN)
          have eN4 := sN _ _ eJ4
          have eN : (upd (upd H8 M (.lst [.str np])) N (.lst ((psgW D G r C P).map V.str ++ [.str np]))) N = some (.lst ((psgW D G r C P).map V.str ++ [.str np])) := upd_same
          have fN : H8 N = none := sM.free hN
          generalize upd (upd H8 M (.lst [.str np])) N (.lst ((psgW D G r C P).map V.str ++ [.str np])) = J2 at *
          have hS2 := hSJ.same sN
          have zN := hSJ.ne fN
          have pos : (0 : Int) < (if (((psgW D G r C P).map V.str).length : Int) > 1 then (((psgW D G r C P).map V.str).length : Int) else 1) := by split <;> omega
          have lt : (if (((psgW D G r C P).map V.str).length : Int) > 1 then (((psgW D G r C P).map V.str).length : Int) else 1) ≤ (((psgW D G r C P) ++ [np]).length : Nat) := by
            rw [List.length_append, List.length_map]
            simp only [List.length_cons, List.length_nil]
            split <;> omega
          have sml : (if (((psgW D G r C P).map V.str).length : Int) > 1 then (((psgW D G r C P).map V.str).length : Int) else 1) < 2 ^ 60 := by
            rw [List.length_map]
            split <;> omega
          refine ⟨_, rfl, _, rfl, l4, _, rfl, .inl (SqL.of eN4), _, _, rfl, s, A, B, _, _, rfl, hS2, by omega, pos, sml, fun J3 r2 hS3' fr3' r20 r21 => ?_⟩
          have eN3 := fr3' _ _ zN.1.symm zN.2.1.symm eN
          obtain ⟨nn, mn, an⟩ := at_str (xs := (psgW D G r C P) ++ [np]) r20 (Int.lt_of_lt_of_le r21 lt)
          refine ⟨N, _, r2, _, rfl, rfl, SqL.of eN3, by rw [List.map_append] at an; exact an, by show 3 ≤ sizeLine; decide, fun b hb => ?_⟩
          have sb := same_upd (o := .tup [.int r, .str "passed", .str nn]) hb
          have frb := frJ.trans ((Fr.of sN).trans (fr3'.trans (Fr.of sb)))
          obtain ⟨acc, c1, c2, c3⟩ := (((hRJ.same sN).fr hS2 fr3' zL).same sb).snoc (t := b) (x := .p r nn) upd_same
          refine ⟨L, acc, _, rfl, rfl, c1, by rw [c2]; exact small1000 (by omega), rs ++ [.p r nn], _, _, _, rfl, ((hS3'.same sb).put zL).mono (by omega), frb.put hL0, ?_, c3, ?_, ?_⟩
          · rw [upd_ne zu.symm]
            exact sb _ _ (fr3' _ _ zsu.1.symm zsu.2.1.symm (sN _ _ euJ))
          · rw [List.map_append, mr, take_snoc hr']
            rfl
          · intro x hx
            rcases List.mem_append.mp hx with hx | hx
            · exact rf x hx
            · rw [List.mem_singleton.mp hx]
              refine ⟨rr, ?_⟩
              rcases List.mem_append.mp mn with mn | mn
              · exact psgW_mem mn
              · rw [List.mem_singleton.mp mn]
                exact List.mem_map_of_mem (f := (·.1)) mp
        · obtain ⟨as, a1, a2, a3⟩ := id hRJ
          have ln : 0 < (nb n D r).length := by
            cases q' : nb n D r with
            | nil => rw [q'] at hn; exact absurd rfl hn
            | cons y ys => exact Nat.succ_pos _
          have ln8 := nb_len n D r
          refine ⟨_, rfl, .inl ⟨rfl, _, SqL.of a1⟩, _, rfl, _, rfl, _, rfl, _, rfl, l5, _, rfl, .inl (SqL.of eJ5), s, A, B, _, _, rfl, hSJ, by omega, by rw [List.length_map]; omega, by rw [List.length_map]; omega, fun J3 r2 hS3' fr3' r20 r21 => ?_⟩
          rw [List.length_map] at r21
          have eN3 := fr3' _ _ z5.1.symm z5.2.1.symm eJ5
          obtain ⟨v, mv, av⟩ := atI_in (xs := nb n D r) r20 r21
          have rv := (mem_nb.mp mv).1
          refine ⟨l5, _, r2, _, rfl, rfl, SqL.of eN3, av, by show 3 ≤ sizeLine; decide, fun b hb => ?_⟩
          have sb := same_upd (o := .tup [.int r, .str "back", .int v]) hb
          have frb := frJ.trans (fr3'.trans (Fr.of sb))
          obtain ⟨acc, c1, c2, c3⟩ := ((hRJ.fr hSJ fr3' zL).same sb).snoc (t := b) (x := .b r v) upd_same
          refine ⟨L, acc, _, rfl, rfl, c1, by rw [c2]; exact small1000 (by omega), rs ++ [.b r v], _, _, _, rfl, ((hS3'.same sb).put zL).mono (by omega), frb.put hL0, ?_, c3, ?_, ?_⟩
          · rw [upd_ne zu.symm]
            exact sb _ _ (fr3' _ _ zsu.1.symm zsu.2.1.symm euJ)
          · rw [List.map_append, mr, take_snoc hr']
            rfl
          · intro x hx
            rcases List.mem_append.mp hx with hx | hx
            · exact rf x hx
            · rw [List.mem_singleton.mp hx]
              exact ⟨rr, rv.1, rv.2⟩
    · rintro σ' H3 ⟨rs, y6, y7, y8, rfl, hS3, fr3, eu3, hR3, mr, rf⟩
      rw [List.length_map, List.take_length] at mr
      obtain ⟨xs, x1, x2, x3⟩ := hR3.tup
      have lu := unwL_len P G C
      refine ⟨_, rfl, L, _, rfl, .inl ⟨SqL.of x1, fun t ht => ?_⟩⟩
      exact q _ t rs ((hS3.same (same_upd ht)).mono (by rw [List.length_map]; omega)) (fr3.trans (Fr.of (same_upd ht))) (x3 t ht) mr rf
/-- the same, its value told as data -/
def spFCertD (K : PySem.W.Frag) : Sp := fun vs H Q _ => ∃ (h p g rl : Addr) (n : Int) (D : List (Int × Int)) (P G : List (Str × Int)) (C : List Int), vs = [.ref h, .ref p, .ref g, .ref rl] ∧ HouseAt H h n D ∧ Forest n D ∧ 0 ≤ n ∧ n ≤ 8 ∧ PlAt H p P ∧ Pl n P ∧ P.length ≤ 60 ∧ PlAt H g G ∧ Pl n G ∧ (∀ x ∈ P.map (·.1), x ∈ G.map (·.1)) ∧ SqT K H rl (vi C) ∧ Pce D P G C ∧ C ≠ [] ∧
  ∀ H' v d, Same H H' → Dx K [] H' v d → ((v = .non ∧ d = .none ∧ Sol D P G C) ∨ ((∃ t rs, v = .ref t ∧ d = certD rs ∧ CtA H' t rs ∧ rs.map rowR = unwL P G C ∧ ∀ x ∈ rs, RowOk D P G C x) ∧ ¬ Sol D P G C ∧ crtB D P G C d = true)) → Q v H'
theorem fcertD {k : Nat} (X : Cal P w K mg base k "find_certificate" pFCert (spFCert K)) : Cal P w K mg base k "find_certificate" pFCert (spFCertD K) :=
  X.imp fun vs H Q E ⟨h, p, g, rl, n, D, P, G, C, e1, a1, a2, a3, a4, a5, a6, a7, a8, a9, a10, a11, a12, a13, q⟩ => ⟨h, p, g, rl, n, D, P, G, C, e1, a1, a2, a3, a4, a5, a6, a7, a8, a9, a10, a11, a12, a13, fun so H' s' => q H' .non .none s' .non (.inl ⟨rfl, rfl, so⟩), fun H' t rs no s' ct mr ok cr => q H' (.ref t) (certD rs) s' ct.dx (.inr ⟨⟨t, rs, rfl, rfl, ct, mr, ok⟩, no, crtB_own mr ok cr⟩)⟩
end
end Fw
namespace Fw
open PySem PySem.Spec PyProof.Rows
/-! what repr tells apart -/
theorem text_inj {a b : String} (h : (Str.ofString a).cps.toList = (Str.ofString b).cps.toList) : a = b := by
  rw [signs_ofString, signs_ofString] at h
  have : ∀ {x y : List Char}, x.map Char.toNat = y.map Char.toNat → x = y := by
    intro x
    induction x with
    | nil =>
      intro y e
      cases y with
      | nil => rfl
      | cons _ _ => cases e
    | cons c x ih =>
      intro y e
      cases y with
      | nil => cases e
      | cons d y =>
        rw [List.map_cons, List.map_cons, List.cons.injEq] at e
        rw [Char.toNat_inj.mp e.1, ih e.2]
  exact String.toList_inj.mp (this h)
theorem num_inj {i j : Int} (hj : 0 ≤ j) (h : toString i = toString j) : i = j := by
  rw [Int.toString_eq_repr, Int.toString_eq_repr, Int.repr_eq_if, Int.repr_eq_if, if_pos hj] at h
  split at h
  · rename_i hi
    have e := congrArg String.toList h
    rw [Nat.toList_repr, Nat.toList_repr] at e
    have := congrArg (fun l => Nat.ofDigitChars 10 l 0) e
    simp only [Nat.ofDigitChars_toDigits (b := 10) (by decide) (by decide)] at this
    omega
  · have e := congrArg String.toList h
    rw [String.toList_append, Nat.toList_repr, Nat.toList_repr] at e
    have m : '-' ∈ Nat.toDigits 10 j.toNat := by
      rw [← e]
      exact List.mem_append_left _ (by simp)
    have := Nat.isDigit_of_mem_toDigits (by decide) (by decide) m
    cases this
theorem shown_len {d : PyData} (h : d.shown.length = 1) : ∃ i, d = .int i := by
  have app : ∀ a b : Str, (a ++ b).length = a.length + b.length := fun a b => by
    show (a ++ b).cps.size = a.cps.size + b.cps.size
    rw [Str.cps_append, Array.size_append]
  cases d with
  | int i => exact ⟨i, rfl⟩
  | none => rw [PyData.shown_none] at h; exact absurd h (by decide)
  | bool b => rw [PyData.shown_bool] at h; exact absurd h (by cases b <;> decide)
  | str x =>
    rw [PyData.shown_str] at h
    have := StrLaws.reprText_ge2 x
    omega
  | list xs =>
    rw [PyData.shown_list, app, app] at h
    have h1 : (("[" : String) : Str).length = 1 := by decide
    have h2 : (("]" : String) : Str).length = 1 := by decide
    omega
  | tuple xs =>
    rw [PyData.shown_tuple, app, app] at h
    have h1 : (("(" : String) : Str).length = 1 := by decide
    have h2 : 1 ≤ ((if xs.length == 1 then ",)" else ")" : String) : Str).length := by split <;> decide
    omega
  | dict kvs =>
    rw [PyData.shown_dict, app, app] at h
    have h1 : (("{" : String) : Str).length = 1 := by decide
    have h2 : (("}" : String) : Str).length = 1 := by decide
    omega
theorem room_one {r : Int} (h0 : 0 ≤ r) (h1 : r < 8) : (PyData.int r).shown.length = 1 := by
  have h2 : r = 0 ∨ r = 1 ∨ r = 2 ∨ r = 3 ∨ r = 4 ∨ r = 5 ∨ r = 6 ∨ r = 7 := by omega
  rcases h2 with rfl | rfl | rfl | rfl | rfl | rfl | rfl | rfl <;> decide +kernel
/-- a room is told by its repr -/
theorem room_tells {d : PyData} {r : Int} (h0 : 0 ≤ r) (h1 : r < 8) : d.shown = (PyData.int r).shown ↔ d = .int r := by
  refine ⟨fun h => ?_, fun h => by rw [h]⟩
  obtain ⟨i, rfl⟩ := shown_len (by rw [h]; exact room_one h0 h1)
  rw [PyData.shown_int, PyData.shown_int] at h
  rw [num_inj h0 (text_inj (congrArg (fun x : Str => x.cps.toList) h))]
theorem repr_signs (x : Str) : (reprText x).cps.toList = reprQuote x :: x.cps.toList.flatMap (Builtin.Str.reprChar (reprQuote x)) ++ [reprQuote x] := by
  unfold reprText
  have : ∀ (l : List Nat) (q : Nat) (a : Array Nat), (l.foldl (fun out c => out ++ (Builtin.Str.reprChar q c).toArray) a).toList = a.toList ++ l.flatMap (Builtin.Str.reprChar q) := by
    intro l
    induction l with
    | nil => intro q a; simp
    | cons c l ih => intro q a; rw [List.foldl_cons, ih, List.flatMap_cons, Array.toList_append, List.append_assoc]
  rw [Array.toList_push, ← Array.foldl_toList, this]
  rfl
theorem char_cases (q c : Nat) : Builtin.Str.reprChar q c = [c] ∨ ∃ r, Builtin.Str.reprChar q c = 92 :: r := by
  unfold Builtin.Str.reprChar
  simp only
  split
  · exact .inr ⟨_, rfl⟩
  split
  · exact .inr ⟨_, rfl⟩
  split
  · exact .inr ⟨_, rfl⟩
  split
  · exact .inr ⟨_, rfl⟩
  split
  · exact .inl rfl
  split
  · exact .inr ⟨_, rfl⟩
  split
  · exact .inr ⟨_, rfl⟩
  · exact .inr ⟨_, rfl⟩
theorem plain_signs {q : Nat} : ∀ {l w : List Nat}, l.flatMap (Builtin.Str.reprChar q) = w → 92 ∉ w → l = w
  | [], w, h, _ => h
  | c :: l, w, h, n => by
    rw [List.flatMap_cons] at h
    rcases char_cases q c with e | ⟨r, e⟩
    · rw [e] at h
      cases w with
      | nil => cases h
      | cons d w =>
        rw [List.singleton_append, List.cons.injEq] at h
        rw [h.1, plain_signs h.2 fun m => n (List.mem_cons_of_mem _ m)]
    · rw [e] at h
      exact absurd (by rw [← h]; exact List.mem_append_left _ List.mem_cons_self) n
theorem ext_signs {x y : Str} (h : x.cps.toList = y.cps.toList) : x = y := by
  obtain ⟨a⟩ := x
  obtain ⟨b⟩ := y
  exact congrArg Str.mk (Array.toList_inj.mp h)
theorem first_sign {d : PyData} {t : List Nat} (h : d.shown.cps.toList = 39 :: t) : ∃ z, d = .str z := by
  cases d with
  | str z => exact ⟨z, rfl⟩
  | int i => exact absurd (by rw [h]; exact List.mem_cons_self) (shown_int_free' (k := 39) ⟨by decide, by decide⟩ i)
  | none => exact absurd (by rw [h]; exact List.mem_cons_self) (shown_none_free (k := 39) (by omega))
  | bool b => exact absurd (by rw [h]; exact List.mem_cons_self) (shown_bool_free (k := 39) (by omega) b)
  | list xs => rw [PyData.shown_list, cps_toList_append, cps_toList_append, signs_lbrack] at h; cases h
  | tuple xs => rw [PyData.shown_tuple, cps_toList_append, cps_toList_append, signs_lparen] at h; cases h
  | dict kvs =>
    rw [PyData.shown_dict, cps_toList_append, cps_toList_append, show (("{" : String) : Str).cps.toList = [123] by decide] at h
    cases h
/-- a text without quotes and escapes is told by its repr -/
theorem word_tells {d : PyData} {z : Str} {w : List Nat} (e : (PyData.str z).shown.cps.toList = 39 :: w ++ [39]) (ez : z.cps.toList = w) (n : 92 ∉ w) : d.shown = (PyData.str z).shown ↔ d = .str z := by
  refine ⟨fun h => ?_, fun h => by rw [h]⟩
  have h1 : d.shown.cps.toList = 39 :: (w ++ [39]) := by rw [h, e]; rfl
  obtain ⟨y, rfl⟩ := first_sign h1
  rw [PyData.shown_str, repr_signs, List.cons_append, List.cons.injEq] at h1
  obtain ⟨q, h2⟩ := h1
  rw [q] at h2
  have := plain_signs (List.append_cancel_right h2) n
  rw [ext_signs (this.trans ez.symm)]
theorem passed_tells {d : PyData} : d.shown = (PyData.str "passed").shown ↔ d = .str "passed" := word_tells (w := [112, 97, 115, 115, 101, 100]) (by decide +kernel) (by decide +kernel) (by decide)
theorem back_tells {d : PyData} : d.shown = (PyData.str "back").shown ↔ d = .str "back" := word_tells (w := [98, 97, 99, 107]) (by decide +kernel) (by decide +kernel) (by decide)
end Fw
set_option maxHeartbeats 8000000
namespace Fw
open PySem PySem.Spec PyProof.Rows L2
/-! the law's check of a certificate -/
theorem op_neL0K {X : Cx} {K : PySem.W.Frag} (hK : X.K = K) (hu : X.A.units < cLine) : OpR X (compareOp .NotEq) (rNeL0 K) := by
  subst hK
  exact op_neL0 hu
theorem dkJ_merge : ∀ {B B0 : List (Int × Int)}, (B0.map (·.1) ++ B.map (·.1)).Nodup → mergeK (dkJ B0) (dkJ B) = dkJ (B0 ++ B)
  | [], B0, _ => by rw [List.append_nil]; rfl
  | (r, v) :: B, B0, nd => by
    have h : r ∉ B0.map (·.1) := fun m => by
      rw [List.nodup_append] at nd
      exact nd.2.2 r m r (by rw [List.map_cons]; exact List.mem_cons_self ..) rfl
    have e : mergeK (dkJ B0) (dkJ ((r, v) :: B)) = mergeK (putK (dkJ B0) (Sum.inl r) (V.int v)) (dkJ B) := rfl
    rw [e, dkJ_put h, dkJ_merge (B0 := B0 ++ [(r, v)]) (by rw [List.map_append, List.append_assoc]; exact nd), List.append_assoc]
    rfl
/-- whether x's room is beside I -/
def bes (n : Int) (D : List (Int × Int)) (I : List Int) (x : Int × Int) : Bool := !(vi ((nb n D x.1).filter fun o => decide (o ∈ I))).isEmpty
theorem bes_of {n : Int} {D : List (Int × Int)} (f : Forest n D) {I : List Int} {b v o : Int} (h : o ∈ I) (ad : adj D b o) : bes n D I (b, v) = true := by
  unfold bes
  rw [Bool.not_eq_true', Bool.eq_false_iff]
  intro z
  rw [List.isEmpty_iff, List.map_eq_nil_iff, List.filter_eq_nil_iff] at z
  exact z o (f.mem_nb.mpr ad) (decide_eq_true h)
theorem paired_J {K : PySem.W.Frag} {H : Hp} : ∀ {ps : List (Addr × Int × Int)}, (∀ q ∈ ps, H q.1 = some (.tup [.int q.2.1, .int q.2.2])) → Paired (fun p kv => SqT K H p [kV kv.1, kv.2]) (ps.map (·.1)) (dkJ (ps.map (·.2)))
  | [], _ => .nil
  | q :: ps, h => .cons (SqT.of (h q (List.mem_cons_self ..))) (paired_J fun x hx => h x (List.mem_cons_of_mem _ hx))
theorem rowR_get {rs : List Row} {us : List Int} (al : rs.map rowR = us) {as : List (Addr × Row)} (e : rs = as.map (·.2)) {i : Nat} {r : Int} (h : us[i]? = some r) : ∃ a, as[i]? = some a ∧ rowR a.2 = r ∧ a.2 ∈ rs := by
  rw [← al, e, List.map_map, List.getElem?_map] at h
  cases ea : as[i]? with
  | none => rw [ea] at h; cases h
  | some a =>
    rw [ea] at h
    exact ⟨a, rfl, Option.some.inj h, by rw [e]; exact List.mem_map_of_mem (f := (·.2)) (List.mem_of_getElem? ea)⟩
section
variable {P : Program} {w : World} {K : PySem.W.Frag} {mg : Str → Option Value} {base : Heap}
def spLIsCert (K : PySem.W.Frag) : Sp := fun vs H Q _ => ∃ (h p g rl t : Addr) (n : Int) (D : List (Int × Int)) (P G : List (Str × Int)) (C : List Int) (rs : List Row), vs = [.ref h, .ref p, .ref g, .ref rl, .ref t] ∧ HouseAt H h n D ∧ Forest n D ∧ n ≤ 8 ∧ PlAt H p P ∧ Pl n P ∧ P.length ≤ 100 ∧ PlD H g G ∧ Pl n G ∧ G.length ≤ 100 ∧ (∀ x ∈ P.map (·.1), x ∈ G.map (·.1)) ∧ SqT K H rl (vi C) ∧ C.length ≤ 8 ∧ Pce D P G C ∧ CtA H t rs ∧ rs.map rowR = unwL P G C ∧ (∀ x ∈ rs, RowOk D P G C x) ∧ Crt D P G C (bks rs) ∧ ∀ H', Same H H' → Q (.bl true) H'
abbrev nLIsCert : List Str := ["_law_house", "_law_placement", "_law_target", "_law_region", "_law_thing", "_law_rooms", "_law_k", "_law_backs", "_law_row", "_law_room", "_law_rest", "_law_island", "_law_beside", "_law_one"]
theorem scLIsCert : FnScope nLIsCert ["_law_house", "_law_placement", "_law_target", "_law_region", "_law_thing"] (defScope sLIsCert) := ⟨rfl, rfl, rfl, by decide +kernel, rfl, by decide +kernel, by decide +kernel⟩
abbrev pLIsCert : List Str := ["_law_house", "_law_placement", "_law_target", "_law_region", "_law_thing"]
theorem ok_liscert {f : Addr} {fd : FuncData} {k : Nat} (F : Fun K "_law_is_certificate" "_law_is_certificate" sLIsCert f fd) (T : Nm mg) (Tdict : mg "dict" = none) (Tset : mg "set" = none) (C_law_unwanted : Cal P w K mg base (k + 4) "_law_unwanted" pLUnw (spLUnw K)) (C_law_is_row : CalG P w K mg base (k + 4) "_law_is_row" pLIsRow (spLIsRow K)) (C_law_connected : Cal P w K mg base (k + 4) "_law_connected" pConn (spConn K)) (C_law_neighbors : Cal P w K mg base (k + 4) "_law_neighbors" ["_law_house", "_law_room"] spLNb) (C_law_still : Cal P w K mg base (k + 4) "_law_still" pLStill (spLStill K)) : FnG P w K mg base (k + 5) f fd pLIsCert (spLIsCert K) := by
  refine Fun.okG F scLIsCert (fun vs H Q E h => ?_) (fun cdv A outer s H vs Q gd hr h => ?_)
  · obtain ⟨h, p, g, rl, t, n, D, P, G, C, rs, rfl, _⟩ := h
    rfl
  · obtain ⟨prog, ep⟩ : ∃ p : Program, p = P := ⟨P, rfl⟩
    obtain ⟨h, p, g, rl, t, n, D, P, G, C, rs, rfl, hH, hF, n1, hP, pl, lP, hG, plG, lG, sub, hC, lC, pc, ct, al, ok, cr, q⟩ := h
    refine ⟨_, (pss_cons (ps_set (i := 5) scLIsCert.nd rfl (.inr rfl) (pe_cal C_law_unwanted hr (by rfl) (pa_cons (pv 1) (pa_cons (pv 2) (pa_cons (pv 3) pa_nil)))))
      (pss_cons (ps_if (PW.pt (pw_or (pt_not (pt_val (pe_callB call_isi (by rfl) T.isinstance (by decide +kernel) (pa_cons (pv 4) (pa_cons (pe_bltn (v := .ty "tuple") (by rfl) T.tuple (by decide +kernel) rfl) pa_nil))))) (pw_or1 (pt_cmpR op_ne (pe_callB (call_lenK K rfl) (by rfl) T.len (by decide +kernel) (pa_cons (pv 4) pa_nil)) (pe_callB (call_lenK K rfl) (by rfl) T.len (by decide +kernel) (pa_cons (pv 5) pa_nil)) (nomark _)))))
      (pss_one (ps_ret pe_bl))
      pss_nil)
      (pss_cons (ps_if (pt_cmpR (op_neL0K rfl (Nat.lt_of_succ_lt (hu_of hr))) (pe_lc (own := [("_law_k", 6)]) (g := gName 6) (by rfl) scLIsCert.nd (pi_range1 (by rfl) T.range (pa_cons (pe_callB (call_lenK K rfl) (by rfl) T.len (by decide +kernel) (pa_cons (pv 5) pa_nil)) pa_nil))
 (blkOk_by (own := [("_law_k", 6)]) (N := nLIsCert) (sc := defScope sLIsCert) (by decide +kernel))
 (fun _ _ _ _ _ => (pg_name (i := 6) scLIsCert.nd rfl (.inl rfl))) (fun _ _ _ _ _ => pts_one (pt_not (pt_val (pe_calG C_law_is_row gd hr (by rfl) (pa_cons (pv 0) (pa_cons (pv 1) (pa_cons (pv 2) (pa_cons (pv 3) (pa_cons (pe_ix (ix_listK K rfl) (pv 5) (pv 6) (fun _ _ => rfl)) (pa_cons (pe_ix (ix_tupK K rfl) (pv 4) (pv 6) (fun _ _ => rfl)) pa_nil)))))))))) (fun _ _ _ _ _ => (pv 6))) (pe_lst pa_nil) (nomark _))
      (pss_one (ps_ret pe_bl))
      pss_nil)
      (pss_cons (ps_set (i := 7) scLIsCert.nd rfl (.inr rfl) (pe_callTy (call_dictK K rfl rfl) (by rfl) Tdict (by decide +kernel) (pa_cons (pe_lc (own := [("_law_row", 8)]) (g := gName 8) (by rfl) scLIsCert.nd (pi_tupK K rfl (pv 4))
 (blkOk_by (own := [("_law_row", 8)]) (N := nLIsCert) (sc := defScope sLIsCert) (by decide +kernel))
 (fun _ _ _ _ _ => (pg_name (i := 8) scLIsCert.nd rfl (.inl rfl))) (fun _ _ _ _ _ => pts_one (pt_cmpR op_eq (pe_ix (ix_tupK K rfl) (pv 8) pe_int (fun _ _ => rfl)) pe_str (nomark _))) (fun _ _ _ _ _ => (pe_tup (pa_cons (pe_ix (ix_tupK K rfl) (pv 8) pe_int (fun _ _ => rfl)) (pa_cons (pe_ix (ix_tupK K rfl) (pv 8) pe_int (fun _ _ => rfl)) pa_nil))))) pa_nil)))
      (pss_cons (ps_if (pt_cmpR (op_neL0K rfl (Nat.lt_of_succ_lt (hu_of hr))) (pe_lock (pe_lc (own := [("_law_room", 9)]) (g := gName 9) (by rfl) scLIsCert.nd (pi_keys (pv 7))
 (blkOk_by (own := [("_law_room", 9)]) (N := nLIsCert) (sc := defScope sLIsCert) (by decide +kernel))
 (fun _ _ _ _ _ => (pg_name (i := 9) scLIsCert.nd rfl (.inl rfl))) (fun _ _ _ _ _ => pts_one (pt_cmpR (op_eqDK K rfl hr.units) (pe_dget2 (hu_of hr) (pv 7) (pe_dget (hu_of hr) (pv 7) (pv 9) (fun _ _ => rfl)) pe_non ⟨rfl, rfl, rfl, rfl⟩) (pv 9) (nomark _))) (fun _ _ _ _ _ => (pv 9)))) (pe_lst pa_nil) (nomark _))
      (pss_one (ps_ret pe_bl))
      pss_nil)
      (pss_cons (ps_set (i := 10) scLIsCert.nd rfl (.inr rfl) (pe_lc (own := [("_law_room", 9)]) (g := gName 9) (by rfl) scLIsCert.nd (pi_tupK K rfl (pv 3))
 (blkOk_by (own := [("_law_room", 9)]) (N := nLIsCert) (sc := defScope sLIsCert) (by decide +kernel))
 (fun _ _ _ _ _ => (pg_name (i := 9) scLIsCert.nd rfl (.inl rfl))) (fun _ _ _ _ _ => pts_one (pt_cmp (pc_dnotin (hu_of hr) (pv 9) (pv 7)))) (fun _ _ _ _ _ => (pv 9))))
      (pss_cons (ps_for PassesOwn.never rfl (pi_listK K rfl (pe_callB (cr_sortedTV rfl) (by rfl) T.sorted (by decide +kernel) (pa_cons (pe_callTy (cr_setOfT rfl hr.units) (by rfl) Tset (by decide +kernel) (pa_cons (pe_lc (own := [("_law_room", 9)]) (g := gName 9) (by rfl) scLIsCert.nd (pi_listK K rfl (pv 10))
 (blkOk_by (own := [("_law_room", 9)]) (N := nLIsCert) (sc := defScope sLIsCert) (by decide +kernel))
 (fun _ _ _ _ _ => (pg_name (i := 9) scLIsCert.nd rfl (.inl rfl))) (fun _ _ _ _ _ => pts_nil) (fun _ _ _ _ _ => (pe_cal C_law_connected hr (by rfl) (pa_cons (pv 0) (pa_cons (pv 10) (pa_cons (pv 9) pa_nil)))))) pa_nil)) pa_nil))) (pg_name (i := 11) scLIsCert.nd rfl (.inr rfl))
      (pss_cons (ps_lock (ps_setLc (i := 12) (own := [("_law_room", 9)]) (g := gName 9) (by rfl) scLIsCert.nd rfl rfl (sw_true rfl rfl rfl (by decide +kernel)) (pi_keys (pv 7))
 (blkOk_by (own := [("_law_room", 9)]) (N := nLIsCert) (sc := defScope sLIsCert) (by decide +kernel))
 (fun _ _ _ _ _ => (pg_name (i := 9) scLIsCert.nd rfl (.inl rfl))) (fun _ _ _ _ _ => pts_one (pt_cmpR (op_neL0K rfl (Nat.lt_of_succ_lt (hu_of hr))) (pe_lc (own := [("_law_one", 13)]) (g := gName 13) (by rfl) scLIsCert.nd (pi_listK K rfl (pe_cal C_law_neighbors hr (by rfl) (pa_cons (pv 0) (pa_cons (pv 9) pa_nil))))
 (blkOk_by (own := [("_law_one", 13)]) (N := nLIsCert) (sc := { kind := .function, names := [(".0", .local), ("_law_room", .local), ("_law_neighbors", .globalImplicit), ("_law_house", .cell), ("_law_island", .cell)], isGenerator := false, isCoroutine := false }) (by decide +kernel))
 (fun _ _ _ _ _ => (pg_name (i := 13) scLIsCert.nd rfl (.inl rfl))) (fun _ _ _ _ _ => pts_one (pt_cmpR (op_inK K rfl) (pv 13) (pv 11) (by rfl))) (fun _ _ _ _ _ => (pv 13))) (pe_lst pa_nil) (nomark _))) (fun _ _ _ _ _ => (pv 9))))
       (pss_one (ps_if (PW.pt (pw_and (pt_val (pe_cal C_law_still hr (by rfl) (pa_cons (pv 1) (pa_cons (pv 2) (pa_cons (pv 11) pa_nil))))) (pw_and1 (pt_cmpR (op_eqL0 (Nat.lt_of_succ_lt (hu_of hr))) (pe_lc (own := [("_law_room", 9)]) (g := gName 9) (by rfl) scLIsCert.nd (pi_listK K rfl (pv 12))
 (blkOk_by (own := [("_law_room", 9)]) (N := nLIsCert) (sc := defScope sLIsCert) (by decide +kernel))
 (fun _ _ _ _ _ => (pg_name (i := 9) scLIsCert.nd rfl (.inl rfl))) (fun _ _ _ _ _ => pts_one (pt_cmpR (op_notInK K rfl) (pe_dget (hu_of hr) (pv 7) (pv 9) (fun _ _ => rfl)) (pv 11) (by rfl))) (fun _ _ _ _ _ => (pv 9))) (pe_lst pa_nil) (nomark _)))))
       (pss_one (ps_ret pe_bl))
       pss_nil))))
      (pss_one (ps_ret pe_bl))))))))), ?_⟩
    refine ⟨_, rfl, _, rfl, _, rfl, p, g, rl, P, G, C, rfl, hP, lP, hG, plG.nodup, lG, sub, hC, by omega, fun H1 l s1 el => ?_⟩
    have ct1 := ct.same s1
    obtain ⟨as, a1, a2, a3⟩ := id ct1
    have la : as.length = (unwL P G C).length := by rw [← al, a2, List.length_map, List.length_map]
    refine ⟨_, rfl, _, _, _, _, _, rfl, .ty _, .base (.tup a1), kit_ty k_tt, _, rfl, iteF ?_⟩
    have e : ((as.map fun x => V.ref x.1).length : Int) = ((vi (unwL P G C)).length : Int) := by rw [List.length_map, la, List.length_map]
    refine ⟨_, rfl, t, _, rfl, .inr (SqT.of a1), _, rfl, l, _, rfl, .inl (SqL.of el), rfl, _, rfl, ?_⟩
    rw [e, ne_self]
    refine iteF ?_
    have lU : (unwL P G C).length ≤ 8 := Nat.le_trans (unwL_len P G C) lC
    refine ⟨_, rfl, l, _, rfl, .inl (SqL.of el), (unwL P G C).length, by rw [List.length_map], by omega, by omega, fun L hL => lc_range (lo := 0) (n := ((unwL P G C).length : Int).toNat) (fun i H' => Same H1 H' ∧ H' L = some (.lst [])) ⟨same_upd hL, upd_same⟩ ?_ ?_⟩
    · rintro i H2 hi ⟨s2, e2⟩
      rw [Int.toNat_natCast] at hi
      have hr' : (unwL P G C)[i]? = some ((unwL P G C)[i]) := List.getElem?_eq_getElem hi
      generalize (unwL P G C)[i] = r at hr'
      obtain ⟨a, ha, hra, mra⟩ := rowR_get al a2 hr'
      have s02 := s1.trans s2
      have uw := mem_unwL.mp (List.mem_of_getElem? hr')
      refine ⟨rfl, _, rfl, _, rfl, _, rfl, _, rfl, _, rfl, _, rfl, l, _, _, _, rfl, rfl, SqL.of (s2 _ _ el), ?_, _, rfl, _, rfl, t, _, _, _, rfl, rfl, SqT.of (s2 _ _ a1), ?_, h, p, g, rl, a.1, n, D, P, G, C, r, a.2, rfl, hH.same s02, hF, n1, hP.same s02, pl, lP, hG.same s02, plG, lG, sub, sqT_same s02 hC, lC, pc, uw, s2 _ _ (a3 a (List.mem_of_getElem? ha)), hra, ok a.2 mra, fun H3 s3 => ⟨_, rfl, iteF ⟨s2.trans s3, s3 _ _ e2⟩⟩⟩
      · rw [show (0 + (i : Int)) = (i : Int) by omega]
        exact atI_nat (by rw [List.getElem?_map, hr']; rfl)
      · rw [show (0 + (i : Int)) = (i : Int) by omega]
        exact atI_nat (by rw [List.getElem?_map, ha]; rfl)
    rintro H2 ⟨s2, e2⟩
    refine ⟨Nat.zero_le _, fun O hO => ⟨L, O, _, rfl, rfl, SqL.of (same_upd hO _ _ e2), SqL.of upd_same, _, rfl, iteF ?_⟩⟩
    have s12 := s2.trans (same_upd (o := .lst []) hO)
    have s02 := s1.trans s12
    generalize upd H2 O (.lst []) = H3 at *
    clear hO s2 e2 hL
    have ct3 := ct1.same s12
    obtain ⟨as3, b1, b2, b3⟩ := id ct3
    clear ct1 a1 a3
    have nd := cr.nd
    have lrs : rs.length ≤ 8 := by
      have := congrArg List.length al
      rw [List.length_map] at this
      omega
    have lB : (bks rs).length ≤ 8 := Nat.le_trans (bks_len rs) lrs
    have las : as3.length = rs.length := by rw [b2, List.length_map]
    refine ⟨_, rfl, t, rfl, ⟨_, SqT.of b1⟩, fun M hM => lc_tup (K := K) (a := t) (xs := as3.map fun x => V.ref x.1) (fun i H' => Same H3 H' ∧ ∃ ps : List (Addr × Int × Int), H' M = some (.lst (ps.map fun x => V.ref x.1)) ∧ ps.map (·.2) = bks (rs.take i) ∧ ∀ x ∈ ps, H' x.1 = some (.tup [.int x.2.1, .int x.2.2])) ⟨same_upd hM, [], upd_same, rfl, fun x hx => nomatch hx⟩ (fun i H' _ hh => SqT.of (hh.1 _ _ b1)) ?_ ?_⟩
    · rintro i x H4 hx ⟨s4, ps, c1, c2, c3⟩
      obtain ⟨y, hy, rfl⟩ := get_row hx
      have il := lt_of_get hy
      have hri : rs[i]? = some y.2 := by rw [b2, List.getElem?_map, hy]; rfl
      have ey := s4 _ _ (b3 y (List.mem_of_getElem? hy))
      have es : bks (rs.take (i + 1)) = bks (rs.take i) ++ bks [y.2] := by rw [take_snoc hri, bks_app]
      have lps : ps.length ≤ 8 := by
        have h1 := congrArg List.length c2
        have h2 := bks_len (rs.take i)
        rw [List.length_map] at h1
        rw [List.length_take] at h2
        omega
      cases hrow : y.2 with
      | p r nm =>
        rw [hrow] at ey es
        refine ⟨rfl, _, rfl, y.1, _, _, _, rfl, rfl, SqT.of ey, atI1, rfl, _, rfl, iteF ⟨s4, ps, c1, ?_, c3⟩⟩
        rw [es, c2]
        exact (List.append_nil _).symm
      | b r v =>
        rw [hrow] at ey es
        refine ⟨rfl, _, rfl, y.1, _, _, _, rfl, rfl, SqT.of ey, atI1, rfl, _, rfl, iteT ⟨_, rfl, y.1, _, _, _, rfl, rfl, SqT.of ey, atI0, _, rfl, y.1, _, _, _, rfl, rfl, SqT.of ey, atI2, by show 2 ≤ sizeLine; decide, fun u hu => ?_⟩⟩
        have s5 := same_upd (o := .tup [V.int r, V.int v]) hu
        refine ⟨_, s5 _ _ c1, ?_, same_put (s4.trans s5) hM, ps ++ [(u, r, v)], ?_, ?_, fun z hz => ?_⟩
        · rw [List.length_map]
          exact small1000 (by omega)
        · rw [upd_same, List.map_append]
          rfl
        · rw [List.map_append, c2, es]
          rfl
        · rcases List.mem_append.mp hz with hz | hz
          · have := s5 _ _ (c3 z hz)
            rw [upd_ne (ne_of this (s5 _ _ c1) (by intro w; cases w))]
            exact this
          · rw [List.mem_singleton.mp hz]
            rw [upd_ne (ne_of (upd_same (H := H4) (a := u)) (s5 _ _ c1) (by intro w; cases w))]
            exact upd_same
    rintro H4 ⟨s4, ps, c1, c2, c3⟩
    rw [List.length_map, las, List.take_length] at c2
    refine ⟨M, ps.map (·.1), dkJ (bks rs), rfl, by rw [List.map_map]; exact SqL.of c1, by rw [← c2]; exact paired_J c3, fun d hd => ?_⟩
    have em : mergeK [] (dkJ (bks rs)) = dkJ (bks rs) := dkJ_merge (B0 := []) nd
    rw [em]
    have s04 := (s02.trans s4).trans (same_upd (o := .dK (dkJ (bks rs))) hd)
    have e4 : (upd H4 d (.dK (dkJ (bks rs)))) d = some (.dK (dkJ (bks rs))) := upd_same
    have ok' := cr.ok
    have cn := cr.cnd
    generalize bks rs = B at *
    generalize upd H4 d (.dK (dkJ B)) = H5 at *
    clear c1 c2 c3 hd s4 b1 b3 s12 s02 ct3
    refine ⟨d, _, e4, True.intro, fun od => ⟨_, rfl, d, od, rfl, .inl ⟨_, upd_same, fun N hN => ?_⟩⟩⟩
    have un : ∀ {H' : Hp}, Same (upd H5 d (.frz od (.dK (dkJ B)))) H' → H' d = some (.frz od (.dK (dkJ B))) ∧ Same H5 (upd H' d (.dK (dkJ B))) := fun {H'} s' => ⟨s' _ _ upd_same, same_unlock e4 s'⟩
    have lk : (upd H5 d (.frz od (.dK (dkJ B)))) d = some (.frz od (.dK (dkJ B))) := upd_same
    generalize upd H5 d (.frz od (.dK (dkJ B))) = H6 at *
    refine lc_it (walk_keys (d := d) (o := od) (kvs := dkJ B)) (fun i H' => Same H6 H' ∧ H' N = some (.lst [])) ⟨same_upd hN, upd_same⟩ ?_ ?_ ?_
    · rintro i H' _ ⟨s', _⟩
      exact s' _ _ lk
    · rintro i x H7 H7' hi ⟨s7, e7⟩ ⟨rfl, kk, vv, hk, rfl⟩
      obtain ⟨⟨b, v⟩, hb, rfl⟩ := dkJ_at hk
      have mb := List.mem_of_getElem? hb
      have rd : Rd H7' d (.dK (dkJ B)) := .inr ⟨od, s7 _ _ lk⟩
      refine ⟨rfl, _, rfl, d, rfl, .inl ⟨_, rd⟩, _, rfl, _, rfl, d, _, rfl, .inl ⟨_, Sum.inl b, rd, rfl, (dkJ_some nd mb).symm⟩, valV (dkJ B) (Sum.inl v), .inl ⟨_, Sum.inl v, rd, rfl, rfl⟩, _, rfl, ?_⟩
      by_cases vb : v ∈ B.map (·.1)
      · obtain ⟨y, hy, e⟩ := List.mem_map.mp vb
        obtain ⟨v', b'⟩ := y
        replace e : v' = v := e
        subst e
        rw [dkJ_some nd hy]
        have ne : b' ≠ b := fun e => cn.no2 b v' mb (e ▸ hy)
        refine ⟨_, _, .int b', .int b, rfl, rfl, _, rfl, ?_⟩
        rw [show PyData.eqv (.int b') (.int b) = false by simp [PyData.eqv, ne]]
        exact iteF ⟨s7, e7⟩
      · rw [dkJ_none vb]
        exact ⟨_, _, .non, .int b, rfl, rfl, _, rfl, iteF ⟨s7, e7⟩⟩
    rintro H7 ⟨s7, e7⟩
    obtain ⟨u1, u2⟩ := un s7
    have dN : N ≠ d := fun e => by rw [e, lk] at hN; cases hN
    refine ⟨u1, Nat.zero_le _, fun O hO => ?_⟩
    refine ⟨N, O, _, rfl, rfl, SqL.of (same_upd hO _ _ (by rw [upd_ne dN]; exact e7)), SqL.of upd_same, _, rfl, ?_⟩
    refine iteF ?_
    have s08 := (s04.trans u2).trans (same_upd (o := .lst []) hO)
    have e8 : (upd (upd H7 d (.dK (dkJ B))) O (.lst [])) d = some (.dK (dkJ B)) := same_upd hO _ _ upd_same
    generalize upd (upd H7 d (.dK (dkJ B))) O (.lst []) = H8 at *
    clear un lk hN hO u1 u2 s7 e7 dN e4 s04
    refine ⟨_, rfl, rl, rfl, ⟨_, sqT_same s08 hC⟩, fun L2 hL2 => lc_tup (K := K) (a := rl) (xs := vi C) (fun i H' => Same H8 H' ∧ H' L2 = some (.lst (vi (wo (C.take i) (B.map (·.1)))))) ⟨same_upd hL2, upd_same⟩ (fun i H' _ hh => sqT_same (s08.trans hh.1) hC) ?_ ?_⟩
    · rintro i x H9 hx ⟨s9, e9⟩
      obtain ⟨y, hy, rfl⟩ := get_vi hx
      have es : wo (C.take (i + 1)) (B.map (·.1)) = wo (C.take i) (B.map (·.1)) ++ if (!decide (y ∈ B.map (·.1))) = true then [y] else [] := by
        unfold wo
        rw [take_snoc hy, filter_snoc]
      refine ⟨rfl, _, rfl, _, rfl, d, _, rfl, .k (k := Sum.inl y) (s9 _ _ e8), ?_⟩
      have hs : (valV (dkJ B) (Sum.inl y)).isSome = decide (y ∈ B.map (·.1)) := by
        by_cases m : y ∈ B.map (·.1)
        · obtain ⟨x, hx, e⟩ := List.mem_map.mp m
          rw [decide_eq_true m, ← e, dkJ_some nd (v := x.2) hx]
          rfl
        · rw [decide_eq_false m, dkJ_none m]
          rfl
      rw [hs, es]
      refine ⟨_, rfl, ite2 (fun c => ?_) (fun c => ?_)⟩
      · rw [if_pos c]
        refine ⟨_, rfl, _, e9, ?_, same_put s9 hL2, ?_⟩
        · rw [List.length_map]
          have h1 : (wo (C.take i) (B.map (·.1))).length ≤ (C.take i).length := List.length_filter_le _ _
          rw [List.length_take] at h1
          exact small1000 (by omega)
        · rw [upd_same, vi_app]
          rfl
      · rw [if_neg c, List.append_nil]
        exact ⟨s9, e9⟩
    rintro H9 ⟨s9, e9⟩
    rw [List.length_map, List.take_length] at e9
    have s09 := s08.trans s9
    have ed9 := s9 _ _ e8
    have lR : (wo C (B.map (·.1))).length ≤ 8 := Nat.le_trans (List.length_filter_le _ _) lC
    have rR : ∀ x ∈ wo C (B.map (·.1)), 0 ≤ x ∧ x < n := fun x hx => by
      obtain ⟨nm, m, _⟩ := pc.who x (mem_wo.mp hx).1
      exact pl.rm _ m
    have out := cn.out
    generalize wo C (B.map (·.1)) = R at *
    clear s9 e8 s08
    refine ⟨_, rfl, L2, rfl, ⟨_, SqL.of e9⟩, fun M2 hM2 => lc_list (K := K) (a := L2) (xs := vi R) (fun j H2 => ∃ ks : List (Addr × List Int), Same H9 H2 ∧ H2 M2 = some (.lst (refs ks)) ∧ TupsAt H2 ks ∧ ks.length = j ∧ (∀ c ∈ ks, ∃ r ∈ R, IsC D R r c.2) ∧ ∀ r ∈ R.take j, ∃ c ∈ ks, IsC D R r c.2)
      ⟨[], same_upd hM2, upd_same, fun c hc => (by cases hc), rfl, fun c hc => (by cases hc), fun r hr => (by simp at hr)⟩ (fun j H2 _ hh => ?_) ?_ ?_⟩
    · obtain ⟨ks, s2, _⟩ := hh
      exact SqL.of (s2 _ _ e9)
    · rintro j x H2 hx ⟨ks, s2, e2, hT, hl, h1, h2⟩
      obtain ⟨r, er, rfl⟩ := get_vi hx
      have hj : j < R.length := lt_of_get er
      have mr := List.mem_of_getElem? er
      refine ⟨rfl, tYes_q (iteT ?_)⟩
      refine ⟨_, rfl, _, rfl, _, rfl, h, L2, n, D, R, r, rfl, hH.same (s09.trans s2), hF, n1, .inl (SqL.of (s2 _ _ e9)), (rR r mr).1, (rR r mr).2, fun H3 t l s3 et hC ll => ?_⟩
      have e3 := s3 _ _ e2
      refine ⟨_, e3, by unfold refs; rw [List.length_map]; exact small1000 (by omega), ks ++ [(t, l)], same_put (s2.trans s3) hM2, ?_, fun c hc => ?_, ?_, fun c hc => ?_, fun x hx => ?_⟩
      · rw [upd_same]
        unfold refs
        rw [List.map_append]
        rfl
      · rcases List.mem_append.mp hc with hc | hc
        · have z := hT.same s3 c hc
          exact ⟨(upd_ne (ne_of z.1 e3 (by intro q; cases q))).trans z.1, z.2⟩
        · rw [List.mem_singleton.mp hc]
          exact ⟨(upd_ne (ne_of et e3 (by intro q; cases q))).trans et, ll⟩
      · rw [List.length_append, List.length_singleton, hl]
      · rcases List.mem_append.mp hc with hc | hc
        · exact h1 c hc
        · rw [List.mem_singleton.mp hc]
          exact ⟨r, mr, hC⟩
      · rcases (take_succ_mem er).mp hx with hx | hx
        · obtain ⟨c, hc, z⟩ := h2 x hx
          exact ⟨c, List.mem_append_left _ hc, z⟩
        · rw [hx]
          exact ⟨(t, l), List.mem_append_right _ (List.mem_singleton.mpr rfl), hC⟩
    rintro H10 ⟨ks, s10, e10, hT, hl, h1, h2⟩
    rw [List.length_map] at hl h2
    rw [List.take_length] at h2
    refine ⟨M2, ks, rfl, SqL.of e10, fun p hp => SqT.of (hT p hp).1, by omega, fun a S ha m1 m2 => ?_⟩
    have sa : Same H10 (upd H10 a (SetTO prog w a S)) := same_upd ha
    refine ⟨a, S, rfl, by rw [← ep]; exact upd_same, fun p hp => ⟨by rw [← ep]; exact SqT.of (sa _ _ (hT p (m1 p hp)).1), ?_⟩, fun S' b mm up hb => ?_⟩
    · obtain ⟨r, _, hC⟩ := h1 p (m1 p hp)
      intro e
      have := hC.has
      rw [e] at this
      cases this
    rw [← ep] at hb ⊢
    have ep2 : (cxOf CX0 prog w K mg base nLIsCert (Str.ofString "_law_is_certificate") (defScope sLIsCert) f cdv A outer s H E0).nox.prog = prog := rfl
    have ew : (cxOf CX0 prog w K mg base nLIsCert (Str.ofString "_law_is_certificate") (defScope sLIsCert) f cdv A outer s H E0).nox.w = w := rfl
    rw [ep2, ew]
    have sb := sa.trans (same_upd (o := .lst (S'.map fun q => V.ref q.1)) hb)
    have rgs : Regs D R (S'.map (·.2)) := by
      refine ⟨up, fun l => ⟨fun hl => ?_, fun hl => ?_⟩⟩
      · obtain ⟨c, hc, rfl⟩ := List.mem_map.mp hl
        obtain ⟨r, hr', hC⟩ := h1 c (m1 c ((mm c).mp hc))
        exact ⟨r, hr', hC⟩
      · obtain ⟨r, hr', hC⟩ := hl
        obtain ⟨c, hc, hC2⟩ := h2 r hr'
        obtain ⟨c2, hc2, e2⟩ := List.mem_map.mp (m2 c hc)
        rw [hC.one hC2, ← e2]
        exact List.mem_map_of_mem ((mm c2).mpr hc2)
    have s11 := s10.trans sb
    have eb : (upd (upd H10 a (SetTO prog w a S)) b (.lst (S'.map fun q => V.ref q.1))) b = some (.lst (refs S')) := upd_same
    have hT11 : TupsAt (upd (upd H10 a (SetTO prog w a S)) b (.lst (S'.map fun q => V.ref q.1))) S' := fun c hc => hT.same sb c (m1 c ((mm c).mp hc))
    generalize upd (upd H10 a (SetTO prog w a S)) b (.lst (S'.map fun q => V.ref q.1)) = H11 at *
    have s011 := s09.trans s11
    have ed11 := s11 _ _ ed9
    clear hb sb mm up m1 m2 ha sa h1 h2 hl hT e10 s10 hM2 e9
    refine ⟨b, rfl, ⟨_, SqL.of eb⟩, for_list (K := K) (a := b) (xs := refs S') (fun i σ' H' => ∃ y11 y12, σ' = [some (.ref h), some (.ref p), some (.ref g), some (.ref rl), some (.ref t), some (.ref l), none, some (.ref d), none, none, some (.ref L2), y11, y12, none] ∧ Same H11 H') ⟨_, _, rfl, Same.refl _⟩ (fun i σ' H' _ hh => ?_) ?_ ?_⟩
    · obtain ⟨_, _, _, s'⟩ := hh
      exact SqL.of (s' _ _ eb)
    · rintro i x σ' H12 hx ⟨y11, y12, rfl, s12⟩
      obtain ⟨c, hc, rfl⟩ := get_refs hx
      have mc := List.mem_of_getElem? hc
      have ec := s12 _ _ (hT11 c mc).1
      obtain ⟨ss, hs, ic⟩ := (rgs.mem c.2).mp (List.mem_map_of_mem (f := (·.2)) mc)
      have e12 := s12 _ _ ed11
      have s012 := s011.trans s12
      refine ⟨d, _, e12, True.intro, fun od => ⟨_, rfl, d, od, rfl, .inl ⟨_, upd_same, fun N hN => ?_⟩⟩⟩
      have un : ∀ {H' : Hp}, Same (upd H12 d (.frz od (.dK (dkJ B)))) H' → H' d = some (.frz od (.dK (dkJ B))) ∧ Same H12 (upd H' d (.dK (dkJ B))) := fun {H'} s' => ⟨s' _ _ upd_same, same_unlock e12 s'⟩
      have lk : (upd H12 d (.frz od (.dK (dkJ B)))) d = some (.frz od (.dK (dkJ B))) := upd_same
      have tk : Tk H12 (upd H12 d (.frz od (.dK (dkJ B)))) := Tk.refl.putD e12
      have ec3 := tk.t ec
      have hH3 := (hH.same s012).tk tk
      generalize upd H12 d (.frz od (.dK (dkJ B))) = H13 at *
      refine lc_it (walk_keys (d := d) (o := od) (kvs := dkJ B)) (fun i H' => Same H13 H' ∧ H' N = some (.lst (vi (((B.take i).filter (bes n D c.2)).map (·.1))))) ⟨same_upd hN, upd_same⟩ ?_ ?_ ?_
      · rintro i H' _ ⟨s', _⟩
        exact s' _ _ lk
      · rintro i x H14 H14' hi ⟨s14, e14⟩ ⟨rfl, kk, vv, hk, rfl⟩
        obtain ⟨⟨r, v⟩, hb, rfl⟩ := dkJ_at hk
        have ib := lt_of_get hb
        refine ⟨rfl, _, rfl, _, rfl, h, n, D, r, rfl, hH3.same s14, hF, fun H15 u s15 nu eu => ?_⟩
        have ln := nb_len n D r
        refine ⟨u, rfl, ⟨_, SqL.of eu⟩, fun M3 hM3 => lc_list (K := K) (a := u) (xs := vi (nb n D r)) (fun j H' => Same H15 H' ∧ H' M3 = some (.lst (vi (((nb n D r).take j).filter fun o => decide (o ∈ c.2))))) ⟨same_upd hM3, upd_same⟩ (fun j H' _ hh => SqL.of (hh.1 _ _ eu)) ?_ ?_⟩
        · rintro j x H16 hx ⟨s16, e16⟩
          obtain ⟨o, ho, rfl⟩ := get_vi hx
          have jo := lt_of_get ho
          refine ⟨rfl, _, rfl, _, rfl, c.1, _, rfl, .inr (SqT.of (((s14.trans s15).trans s16) _ _ ec3)), rfl, flat_vi _, _, rfl, ?_⟩
          rw [if_neg (show ¬ (false = true) by decide), inV_vi, take_snoc ho, filter_snoc]
          refine ite2 (fun z => ?_) (fun z => ?_)
          · rw [if_pos z]
            refine ⟨_, rfl, _, e16, ?_, same_put s16 hM3, ?_⟩
            · rw [List.length_map]
              refine small1000 (Nat.le_trans (List.length_filter_le _ _) ?_)
              rw [List.length_take]
              omega
            · rw [upd_same, vi_app]
              rfl
          · rw [if_neg z, List.append_nil]
            exact ⟨s16, e16⟩
        rintro H16 ⟨s16, e16⟩
        rw [List.length_map, List.take_length] at e16
        refine ⟨Nat.zero_le _, fun O hO => ?_⟩
        refine ⟨M3, O, _, rfl, rfl, SqL.of (same_upd hO _ _ e16), SqL.of upd_same, _, rfl, ?_⟩
        have s17 := (s15.trans s16).trans (same_upd (o := .lst []) hO)
        have e17 := s17 _ _ e14
        rw [take_snoc hb, filter_snoc]
        have eb' : (!(vi ((nb n D r).filter fun o => decide (o ∈ c.2))).isEmpty) = bes n D c.2 (r, v) := rfl
        rw [eb']
        refine ite2 (fun z => ?_) (fun z => ?_)
        · rw [if_pos z]
          refine ⟨_, rfl, _, e17, ?_, same_put (s14.trans s17) hN, ?_⟩
          · rw [List.length_map, List.length_map]
            refine small1000 (Nat.le_trans (List.length_filter_le _ _) ?_)
            rw [List.length_take]
            omega
          · rw [upd_same, List.map_append, vi_app]
            rfl
        · rw [if_neg z, List.append_nil]
          exact ⟨s14.trans s17, e17⟩
      rintro H14 ⟨s14, e14⟩
      unfold dkJ at e14
      rw [List.length_map, List.take_length] at e14
      obtain ⟨u1, u2⟩ := un s14
      have dN : N ≠ d := fun e => by rw [e, lk] at hN; cases hN
      refine ⟨u1, ?_⟩
      have e15 : (upd H14 d (.dK (dkJ B))) N = some (.lst (vi ((B.filter (bes n D c.2)).map (·.1)))) := by
        rw [upd_ne dN]
        exact e14
      have ed15 : (upd H14 d (.dK (dkJ B))) d = some (.dK (dkJ B)) := upd_same
      generalize upd H14 d (.dK (dkJ B)) = H15 at *
      have s015 := s012.trans u2
      have ec15 := u2 _ _ ec
      refine ⟨_, rfl, _, rfl, _, rfl, p, g, c.1, P, G, c.2, rfl, hP.same s015, lP, hG.same s015, plG.nodup, lG, sub, SqT.of ec15, fun H16 s16 => ⟨_, rfl, ?_⟩⟩
      by_cases st : Stl P G c.2
      · rw [stlB_iff.mpr st]
        have e16 := s16 _ _ e15
        refine iteT ⟨_, rfl, N, rfl, ⟨_, SqL.of e16⟩, fun M4 hM4 => lc_list (K := K) (a := N) (xs := vi ((B.filter (bes n D c.2)).map (·.1))) (fun j H' => Same H16 H' ∧ H' M4 = some (.lst (vi ((((B.filter (bes n D c.2)).take j).filter fun x => !decide (x.2 ∈ c.2)).map (·.1))))) ⟨same_upd hM4, upd_same⟩ (fun j H' _ hh => SqL.of (hh.1 _ _ e16)) ?_ ?_⟩
        · rintro j x H17 hx ⟨s17, e17⟩
          obtain ⟨r, hr', rfl⟩ := get_vi hx
          rw [List.getElem?_map] at hr'
          cases hf : (B.filter (bes n D c.2))[j]? with
          | none => rw [hf] at hr'; cases hr'
          | some y =>
            obtain ⟨r', v⟩ := y
            rw [hf] at hr'
            replace hr' : r' = r := Option.some.inj hr'
            subst hr'
            have jl := lt_of_get hf
            have lf : (B.filter (bes n D c.2)).length ≤ B.length := List.length_filter_le _ _
            have mB := (List.mem_filter.mp (List.mem_of_getElem? hf)).1
            refine ⟨rfl, _, rfl, _, rfl, d, _, rfl, .inl ⟨_, Sum.inl r', .inl ((s16.trans s17) _ _ ed15), rfl, (dkJ_some nd mB).symm⟩, _, rfl, c.1, _, rfl, .inr (SqT.of ((s16.trans s17) _ _ ec15)), rfl, flat_vi _, _, rfl, ?_⟩
            rw [if_pos rfl, inV_vi, take_snoc hf, filter_snoc]
            refine ite2 (fun z => ?_) (fun z => ?_)
            · rw [if_pos z]
              refine ⟨_, rfl, _, e17, ?_, same_put s17 hM4, ?_⟩
              · rw [List.length_map, List.length_map]
                refine small1000 (Nat.le_trans (List.length_filter_le _ _) ?_)
                rw [List.length_take]
                omega
              · rw [upd_same, List.map_append, vi_app]
                rfl
            · rw [if_neg z, List.append_nil]
              exact ⟨s17, e17⟩
        rintro H17 ⟨s17, e17⟩
        rw [List.length_map, List.length_map, List.take_length] at e17
        refine ⟨Nat.zero_le _, fun O hO => ?_⟩
        refine ⟨M4, O, _, rfl, rfl, SqL.of (same_upd hO _ _ e17), SqL.of upd_same, _, rfl, ?_⟩
        have ee : (vi (((B.filter (bes n D c.2)).filter fun x => !decide (x.2 ∈ c.2)).map (·.1))).isEmpty = false := by
          rw [Bool.eq_false_iff]
          intro z
          rw [List.isEmpty_iff, List.map_eq_nil_iff, List.map_eq_nil_iff, List.filter_eq_nil_iff] at z
          obtain ⟨b', v, o, m1, m2, m3, ad⟩ := out ss hs c.2 ic st
          exact z (b', v) (List.mem_filter.mpr ⟨m1, bes_of hF m3 ad⟩) (by rw [decide_eq_false m2]; rfl)
        rw [ee]
        exact iteF ⟨_, _, rfl, (((s12.trans u2).trans s16).trans s17).trans (same_upd hO)⟩
      · rw [Bool.eq_false_iff.mpr fun z => st (stlB_iff.mp z)]
        exact iteF ⟨_, _, rfl, (s12.trans u2).trans s16⟩
    · rintro σ' H12 ⟨y11, y12, rfl, s12⟩
      exact q _ (s011.trans s12)
end
end Fw
set_option maxHeartbeats 8000000
namespace Fw
open PySem PySem.Spec PyProof.Rows L2
/-! the law's rows and certificates of any value -/
mutual
/-- such a value, without the addresses that it avoids -/
theorem dx_nil {K : PySem.W.Frag} {av : List Addr} {H : Hp} : ∀ {v : V} {d : PyData}, Dx K av H v d → Dx K [] H v d
  | _, _, .non => .non
  | _, _, .bl b => .bl b
  | _, _, .int i => .int i
  | _, _, .str x => .str x
  | _, _, .lst h n t => .lst h (fun m => n (by rw [List.mem_singleton.mp m]; exact List.mem_cons_self)) (dxA_nil t)
  | _, _, .tup h t => .tup h (dxA_nil t)
  | _, _, .dct e => .dct e
theorem dxA_nil {K : PySem.W.Frag} {av : List Addr} {H : Hp} : ∀ {vs : List V} {ds : List PyData}, DxAll K av H vs ds → DxAll K [] H vs ds
  | _, _, .nil => .nil
  | _, _, .cons h t => .cons (dx_nil h) (dxA_nil t)
end
open Classical in
theorem psgW_pss {D : List (Int × Int)} {P G : List (Str × Int)} {C : List Int} {r : Int} {nm : Str} : nm ∈ psgW D G r C P ↔ Pss D P G C r nm := by
  refine ⟨fun h => ?_, mem_psgW⟩
  unfold psgW at h
  obtain ⟨x, hx, rfl⟩ := List.mem_map.mp h
  obtain ⟨h1, h2⟩ := List.mem_filter.mp hx
  obtain ⟨h3, t, h4, h5⟩ := of_decide_eq_true h2
  exact ⟨x.2, t, h1, h3, h4, h5⟩
theorem bes_iff {n : Int} {D : List (Int × Int)} (f : Forest n D) {I : List Int} {b v : Int} : bes n D I (b, v) = true ↔ ∃ o ∈ I, adj D b o := by
  refine ⟨fun h => ?_, fun ⟨o, h1, h2⟩ => bes_of f h1 h2⟩
  unfold bes at h
  rw [Bool.not_eq_true', Bool.eq_false_iff] at h
  cases e : (nb n D b).filter fun o => decide (o ∈ I) with
  | nil => exact absurd (by rw [e]; rfl) h
  | cons o os =>
    have m : o ∈ (nb n D b).filter fun o => decide (o ∈ I) := by rw [e]; exact List.mem_cons_self
    obtain ⟨m1, m2⟩ := List.mem_filter.mp m
    exact ⟨o, of_decide_eq_true m2, f.mem_nb.mp m1⟩
theorem crtB_rows {D : List (Int × Int)} {P G : List (Str × Int)} {C : List Int} {ds : List PyData} {rs : List Row} (h : rowsOf ds = some rs) (al : rs.map rowR = unwL P G C) (ok : ∀ x ∈ rs, RowOk D P G C x) : crtB D P G C (.tuple ds) = true ↔ Cnd D P G C (bks rs) := by
  rw [crtB_iff]
  constructor
  · rintro ⟨rs', k1, _, _, k4⟩
    have : rs' = rs := Option.some.inj ((show rowsOf ds = some rs' from k1).symm.trans h)
    rw [← this]
    exact k4
  · exact fun k => ⟨rs, h, al, ok, k⟩
theorem rows_all {D : List (Int × Int)} {P G : List (Str × Int)} {C : List Int} : ∀ {us : List Int} {ds : List PyData}, ds.length = us.length → (∀ (i : Nat) u d, us[i]? = some u → ds[i]? = some d → rowB D P G C u d = true) → ∃ rs, rowsOf ds = some rs ∧ rs.map rowR = us ∧ ∀ x ∈ rs, RowOk D P G C x
  | [], [], _, _ => ⟨[], rfl, rfl, fun x hx => nomatch hx⟩
  | u :: us, d :: ds, l, h => by
    obtain ⟨x, h1, h2, h3⟩ := rowB_iff.mp (h 0 u d rfl rfl)
    obtain ⟨rs, k1, k2, k3⟩ := rows_all (D := D) (P := P) (G := G) (C := C) (us := us) (ds := ds) (by simpa using l) fun i u d a b => h (i + 1) u d a b
    refine ⟨x :: rs, ?_, by rw [List.map_cons, h2, k2], fun y hy => ?_⟩
    · unfold rowsOf
      rw [h1, k1]
      rfl
    · rcases List.mem_cons.mp hy with rfl | hy
      · exact h3
      · exact k3 y hy
  | [], _ :: _, l, _ => by cases l
  | _ :: _, [], l, _ => by cases l
section
variable {P : Program} {w : World} {K : PySem.W.Frag} {mg : Str → Option Value} {base : Heap}
def spLRowA (K : PySem.W.Frag) : Sp := fun vs H Q _ => ∃ (h p g rl : Addr) (n : Int) (D : List (Int × Int)) (P G : List (Str × Int)) (C : List Int) (r : Int) (v : V) (d : PyData) (b k m : Nat), vs = [.ref h, .ref p, .ref g, .ref rl, .int r, v] ∧ HouseAt H h n D ∧ Forest n D ∧ n ≤ 8 ∧ PlAt H p P ∧ Pl n P ∧ P.length ≤ 100 ∧ PlD H g G ∧ Pl n G ∧ G.length ≤ 100 ∧ (∀ x ∈ P.map (·.1), x ∈ G.map (·.1)) ∧ SqT K H rl (vi C) ∧ C.length ≤ 8 ∧ Pce D P G C ∧ Unw P G C r ∧ Dx K [] H v d ∧ Gd b k m d ∧ b ≤ 1000 ∧ k ≤ 60 ∧ m ≤ 100000 ∧ ∀ H', Same H H' → Q (.bl (rowB D P G C r d)) H'
theorem ok_lrowA {f : Addr} {fd : FuncData} {k : Nat} (F : Fun K "_law_is_row" "_law_is_row" sLIsRow f fd) (T : Nm mg) (C_law_passing : Cal P w K mg base (k + 3) "_law_passing" pLPassing (spLPassR K)) (C_law_neighbors : Cal P w K mg base (k + 3) "_law_neighbors" ["_law_house", "_law_room"] spLNb) (C_law_next_room : Cal P w K mg base (k + 3) "_law_next_room" pLNextR spLNextR) : FnG P w K mg base (k + 4) f fd pLIsRow (spLRowA K) := by
  refine Fun.okG F scLIsRow (fun vs H Q E h => ?_) (fun cdv A outer s H vs Q gd hr h => ?_)
  · obtain ⟨h, p, g, rl, n, D, P, G, C, r, v, d, b, k, m, rfl, _⟩ := h
    rfl
  · obtain ⟨h, p, g, rl, n, D, P, G, C, r, v, d, b, k, m, rfl, hH, hF, n1, hP, pl, lP, hG, plG, lG, sub, hC, lC, pc, uw, hd, gdd, gb, gk, gm, q⟩ := h
    refine ⟨_, (pss_cons (ps_if (PW.pt (pw_or (pt_not (pt_val (pe_callB (call_isD (av := [])) (by rfl) T.isinstance (by decide +kernel) (pa_cons (pv 5) (pa_cons (pe_bltn (v := .ty "tuple") (by rfl) T.tuple (by decide +kernel) rfl) pa_nil))))) (pw_or (pt_cmpR op_ne (pe_callB (call_lenK K rfl) (by rfl) T.len (by decide +kernel) (pa_cons (pv 5) pa_nil)) pe_int (nomark _)) (pw_or1 (pt_cmpR op_ne (pe_callB (call_reprVK (av := []) rfl gd (units65 hr)) (by rfl) T.repr (by decide +kernel) (pa_cons (pe_ix (ix_tupK K rfl) (pv 5) pe_int (fun _ _ => rfl)) pa_nil)) (pe_callB (call_reprVK (av := []) rfl gd (units65 hr)) (by rfl) T.repr (by decide +kernel) (pa_cons (pv 4) pa_nil)) (nomark _))))))
      (pss_one (ps_ret pe_bl))
      pss_nil)
      (pss_cons (ps_if (pt_cmpR op_eq (pe_callB (call_reprVK (av := []) rfl gd (units65 hr)) (by rfl) T.repr (by decide +kernel) (pa_cons (pe_ix (ix_tupK K rfl) (pv 5) pe_int (fun _ _ => rfl)) pa_nil)) (pe_callB (call_reprVK (av := []) rfl gd (units65 hr)) (by rfl) T.repr (by decide +kernel) (pa_cons pe_str pa_nil)) (nomark _))
      (pss_cons (ps_set (i := 6) scLIsRow.nd rfl (.inl rfl) (pe_cal C_law_passing hr (by rfl) (pa_cons (pv 0) (pa_cons (pv 1) (pa_cons (pv 2) (pa_cons (pv 4) (pa_cons (pv 3) pa_nil)))))))
       (pss_one (ps_ret (pe_and (pe_callB (call_isD (av := [])) (by rfl) T.isinstance (by decide +kernel) (pa_cons (pe_ix (ix_tupK K rfl) (pv 5) pe_int (fun _ _ => rfl)) (pa_cons (pe_bltn (v := .ty "str") (by rfl) T.str (by decide +kernel) rfl) pa_nil))) (pe_one (pe_cmpR (op_inK K rfl) (pe_ix (ix_tupK K rfl) (pv 5) pe_int (fun _ _ => rfl)) (pv 6) (by rfl)))))))
      pss_nil)
      (pss_cons (ps_if (PW.pt (pw_or (pt_cmpR op_ne (pe_callB (call_reprVK (av := []) rfl gd (units65 hr)) (by rfl) T.repr (by decide +kernel) (pa_cons (pe_ix (ix_tupK K rfl) (pv 5) pe_int (fun _ _ => rfl)) pa_nil)) (pe_callB (call_reprVK (av := []) rfl gd (units65 hr)) (by rfl) T.repr (by decide +kernel) (pa_cons pe_str pa_nil)) (nomark _)) (pw_or1 (pt_cmpR (op_notInK K rfl) (pe_callB (call_reprVK (av := []) rfl gd (units65 hr)) (by rfl) T.repr (by decide +kernel) (pa_cons (pe_ix (ix_tupK K rfl) (pv 5) pe_int (fun _ _ => rfl)) pa_nil)) (pe_lc (own := [("_law_one", 7)]) (g := gName 7) (by rfl) scLIsRow.nd (pi_tupK K rfl (pv 3))
 (blkOk_by (own := [("_law_one", 7)]) (N := nLIsRow) (sc := defScope sLIsRow) (by decide +kernel))
 (fun _ _ _ _ _ => (pg_name (i := 7) scLIsRow.nd rfl (.inl rfl))) (fun _ _ _ _ _ => pts_nil) (fun _ _ _ _ _ => (pe_callB (call_reprVK (av := []) rfl gd (units65 hr)) (by rfl) T.repr (by decide +kernel) (pa_cons (pv 7) pa_nil)))) (by rfl)))))
      (pss_one (ps_ret pe_bl))
      pss_nil)
      (pss_one (ps_ret (pe_and (pe_cmpR (op_inK K rfl) (pe_ix (ix_tupK K rfl) (pv 5) pe_int (fun _ _ => rfl)) (pe_cal C_law_neighbors hr (by rfl) (pa_cons (pv 0) (pa_cons (pv 4) pa_nil))) (by rfl)) (pe_one (pe_cmpR op_ne (pe_ix (ix_tupK K rfl) (pv 5) pe_int (fun _ _ => rfl)) (pe_cal C_law_next_room hr (by rfl) (pa_cons (pv 0) (pa_cons (pv 1) (pa_cons (pv 2) (pa_cons (pv 4) pa_nil))))) (nomark _))))))))), ?_⟩
    have rC := uw.1
    have rng : ∀ v ∈ C, 0 ≤ v ∧ v < 8 := fun v hv => by
      obtain ⟨nm, m, _⟩ := pc.who v hv
      have := pl.rm _ m
      omega
    have sr := small_int (rng r rC).1 (rng r rC).2
    refine ⟨_, rfl, v, "tuple", d, rfl, by decide, hd, _, rfl, ?_⟩
    cases e : isD "tuple" d with
    | false =>
      rw [rowB_no (row_not e)] at q
      exact iteT (iteT (q _ (Same.refl _)))
    | true =>
      cases hd with
      | @tup a xs ds sq da =>
        refine iteF ⟨_, rfl, a, xs, rfl, .inr sq, rfl, _, rfl, ?_⟩
        by_cases l3 : ds.length = 3
        case neg =>
          have l4 : (xs.length : Nat) ≠ 3 := by rw [da.len]; exact l3
          rw [rowB_no (row_len l3)] at q
          exact if_t (by rw [decide_eq_false fun z => l4 (by have := V.int.inj z; omega)]; rfl) (iteT (q _ (Same.refl _)))
        have gA : GdA b (k - 1) m ds := by
          cases k with
          | zero => exact gdd.flat.elim
          | succ k => exact gdd.un
        obtain ⟨d0, d1, d2, rfl⟩ := ln3 l3
        have sh0 := (gA.get (d := d0) (by simp)).shows gb (by omega) gm
        have sh1 := (gA.get (d := d1) (by simp)).shows gb (by omega) gm
        have sh2 := (gA.get (d := d2) (by simp)).shows gb (by omega) gm
        cases da with
        | @cons x0 _ _ _ h0 da =>
        cases da with
        | @cons x1 _ _ _ h1 da =>
        cases da with
        | @cons x2 _ _ _ h2 da =>
        cases da with
        | nil =>
        refine iteF ?_
        refine ⟨_, rfl, a, _, _, _, rfl, rfl, sq, atI0, _, _, rfl, h0, sh0.1, sh0.2.1, sh0.2.2, _, rfl, _, _, rfl, .int r, sr.1, sr.2.1, sr.2.2, rfl, _, rfl, ?_⟩
        rw [str_dec]
        by_cases e0 : d0 = .int r
        case neg =>
          have no : rowB D P G C r (.tuple [d0, d1, d2]) = false := Bool.eq_false_iff.mpr fun z => by
            obtain ⟨x, k1, k2, _⟩ := rowB_iff.mp z
            cases d0 with
            | int i => exact e0 (by rw [← k2, row3_room k1])
            | _ => cases k1
          rw [no] at q
          exact if_t (by rw [decide_eq_false fun z => e0 ((room_tells (rng r rC).1 (rng r rC).2).mp z)]; rfl) (q _ (Same.refl _))
        subst e0
        cases dx_int h0
        refine if_f (by rw [decide_eq_true rfl]; rfl) ?_
        refine ⟨_, rfl, a, _, _, _, rfl, rfl, sq, atI1, _, _, rfl, h1, sh1.1, sh1.2.1, sh1.2.2, _, _, rfl, .str _, word_p.1, word_p.2.1, word_p.2.2, rfl, _, rfl, ?_⟩
        rw [str_dec]
        by_cases ep : d1 = .str "passed"
        · subst ep
          refine if_t (decide_eq_true rfl) ?_
          refine ⟨_, rfl, _, rfl, _, rfl, _, rfl, _, rfl, h, p, g, rl, n, D, P, G, r, C, rfl, hH, hF, n1, hP, pl, lP, hG, plG, lG, sub, hC, fun H1 l s1 el => ?_⟩
          have sq1 := sqT_sm s1 sq
          refine ⟨_, rfl, a, _, _, _, rfl, rfl, sq1, atI2, x2, "str", d2, rfl, by decide, dx_sm s1 h2, _, rfl, ?_⟩
          have eq : rowB D P G C r (.tuple [.int r, .str "passed", d2]) = true ↔ ∃ z, d2 = .str z ∧ Pss D P G C r z := by
            rw [rowB_iff, row3, if_pos (by decide)]
            constructor
            · rintro ⟨x, k1, k2, k3⟩
              obtain ⟨z, e2, rfl⟩ := Option.map_eq_some_iff.mp k1
              exact ⟨z, by cases d2 <;> first | (cases e2; done) | (cases e2; rfl), k3⟩
            · rintro ⟨z, rfl, k3⟩
              exact ⟨.p r z, rfl, rfl, k3⟩
          cases e2 : isD "str" d2 with
          | false =>
            have no : rowB D P G C r (.tuple [.int r, .str "passed", d2]) = false := Bool.eq_false_iff.mpr fun z => by
              obtain ⟨y, rfl, _⟩ := eq.mp z
              simp [isD, kindD] at e2
            rw [no] at q
            exact iteF (q _ s1)
          | true =>
            cases h2 with
            | str z =>
              refine iteT ⟨_, rfl, a, _, _, _, rfl, rfl, sq1, atI2, _, rfl, l, _, rfl, .inl (SqL.of el), rfl, flat_vs _, ?_⟩
              rw [if_neg (by decide), inV_vs]
              have : decide (z ∈ psgW D G r C P) = rowB D P G C r (.tuple [.int r, .str "passed", .str z]) := by
                rw [Bool.eq_iff_iff, decide_eq_true_eq, eq, psgW_pss]
                exact ⟨fun h => ⟨z, rfl, h⟩, fun ⟨y, e, h⟩ => by cases e; exact h⟩
              rw [this]
              exact q _ s1
            | _ => simp [isD, kindD] at e2
        have hp : isW "passed" d1 = false := Bool.eq_false_iff.mpr fun z => ep (isW_str z)
        refine if_f (decide_eq_false fun z => ep (passed_tells.mp z)) ?_
        refine ⟨_, rfl, a, _, _, _, rfl, rfl, sq, atI1, _, _, rfl, h1, sh1.1, sh1.2.1, sh1.2.2, _, _, rfl, .str _, word_b.1, word_b.2.1, word_b.2.2, rfl, _, rfl, ?_⟩
        rw [str_dec]
        by_cases eb : d1 = .str "back"
        case neg =>
          have hb : isW "back" d1 = false := Bool.eq_false_iff.mpr fun z => eb (isW_str z)
          have no : rowB D P G C r (.tuple [.int r, d1, d2]) = false := Bool.eq_false_iff.mpr fun z => by
            obtain ⟨x, k1, _⟩ := rowB_iff.mp z
            rw [row3, if_neg (by rw [hp]; exact Bool.false_ne_true), if_neg (by rw [hb]; exact Bool.false_ne_true)] at k1
            cases k1
          rw [no] at q
          exact if_t (by rw [decide_eq_false fun z => eb (back_tells.mp z)]; rfl) (iteT (q _ (Same.refl _)))
        subst eb
        have eq : rowB D P G C r (.tuple [.int r, .str "back", d2]) = true ↔ ∃ v, d2 = .int v ∧ Bck D P G C r v := by
          rw [rowB_iff, row3, if_neg (by decide), if_pos (by decide)]
          constructor
          · rintro ⟨x, k1, k2, k3⟩
            obtain ⟨z, e2, rfl⟩ := Option.map_eq_some_iff.mp k1
            exact ⟨z, by cases d2 <;> first | (cases e2; done) | (cases e2; rfl), k3⟩
          · rintro ⟨z, rfl, k3⟩
            exact ⟨.b r z, rfl, rfl, k3⟩
        refine if_f (by rw [decide_eq_true rfl]; rfl) ?_
        refine ⟨_, rfl, a, _, _, _, rfl, rfl, sq, atI2, _, _, rfl, h2, sh2.1, sh2.2.1, sh2.2.2, ?_⟩
        refine ⟨_, rfl, rl, rfl, ⟨_, hC⟩, fun L hL => lc_tup (K := K) (a := rl) (xs := vi C) (fun i H' => Same H H' ∧ H' L = some (.lst (((C.take i).map fun v => (PyData.int v).shown).map V.str))) ⟨same_upd hL, upd_same⟩ (fun i H' _ hh => sqT_same hh.1 hC) ?_ ?_⟩
        · rintro i x H1 hx ⟨s1, e1⟩
          obtain ⟨y, hy, rfl⟩ := get_vi hx
          have iy := lt_of_get hy
          have yC := List.mem_of_getElem? hy
          have sy := small_int (rng y yC).1 (rng y yC).2
          refine ⟨rfl, tYes_q (iteT ⟨_, rfl, _, _, rfl, .int y, sy.1, sy.2.1, sy.2.2, _, e1, ?_, same_put s1 hL, ?_⟩)⟩
          · rw [List.length_map, List.length_map, List.length_take]
            exact small1000 (by omega)
          · rw [upd_same, take_snoc hy, List.map_append, List.map_append]
            rfl
        · rintro H1 ⟨s1, e1⟩
          rw [List.length_map, List.take_length] at e1
          have sq1 := sqT_sm s1 sq
          refine ⟨L, _, rfl, .inl (SqL.of e1), rfl, flat_vs _, _, rfl, ?_⟩
          rw [if_pos rfl, inV_vs]
          by_cases ev : ∃ v ∈ C, d2 = .int v
          case neg =>
            have no : rowB D P G C r (.tuple [.int r, .str "back", d2]) = false := Bool.eq_false_iff.mpr fun z => by
              obtain ⟨v, e2, k3⟩ := eq.mp z
              exact ev ⟨v, k3.1, e2⟩
            rw [no] at q
            refine if_t ?_ (q _ s1)
            rw [decide_eq_false fun z => ?_]
            · rfl
            · obtain ⟨v, vC, e2⟩ := List.mem_map.mp z
              exact ev ⟨v, vC, (room_tells (rng v vC).1 (rng v vC).2).mp e2.symm⟩
          obtain ⟨v, vC, rfl⟩ := ev
          cases dx_int h2
          refine if_f (by rw [decide_eq_true (List.mem_map_of_mem (f := fun v => (PyData.int v).shown) vC)]; rfl) ?_
          refine ⟨_, rfl, a, _, _, _, rfl, rfl, sq1, atI2, _, rfl, _, rfl, h, n, D, r, rfl, hH.same s1, hF, fun H2 l s2 _ el => ⟨l, _, rfl, .inl (SqL.of el), rfl, flat_vi _, _, rfl, ?_⟩⟩
          rw [if_neg (show ¬ (false = true) by decide), inV_vi]
          have s12 := s1.trans s2
          by_cases ad : adj D r v
          case neg =>
            have no : rowB D P G C r (.tuple [.int r, .str "back", .int v]) = false := Bool.eq_false_iff.mpr fun z => by
              obtain ⟨v', e2, k3⟩ := eq.mp z
              cases e2
              exact ad k3.2.1
            rw [no] at q
            rw [decide_eq_false fun z => ad (hF.mem_nb.mp z)]
            exact iteF (q _ s12)
          rw [decide_eq_true (hF.mem_nb.mpr ad)]
          obtain ⟨nm, tt, aa, qq, mm, un, mt, sp, aC⟩ := uw.ahead (n := n) pc sub
          refine iteT ⟨_, rfl, a, _, _, _, rfl, rfl, sqT_sm s12 sq, atI2, _, rfl, _, rfl, _, rfl, _, rfl, h, p, g, n, D, P, G, nm, r, tt, aa, qq, rfl, hH.same s12, hF, n1, hP.same s12, pl, lP, hG.same s12, plG, lG, mm, un, mt, sp, fun H3 s3 => ⟨rfl, ?_⟩⟩
          rw [int_dec]
          have : (!decide (v = aa)) = rowB D P G C r (.tuple [.int r, .str "back", .int v]) := by
            rw [Bool.eq_iff_iff, eq, Bool.not_eq_true', decide_eq_false_iff_not]
            constructor
            · exact fun ne => ⟨v, rfl, vC, ad, fun ah => ne (pc.ahd_one hF plG.nodup rC ah ⟨nm, tt, qq, mm, mt, sp⟩)⟩
            · rintro ⟨v', e2, k3⟩ e3
              cases e2
              exact k3.2.2 (by rw [e3]; exact ⟨nm, tt, qq, mm, mt, sp⟩)
          rw [this]
          exact q _ (s12.trans s3)
      | _ => simp [isD, kindD] at e
def spLCertA (K : PySem.W.Frag) : Sp := fun vs H Q _ => ∃ (h p g rl : Addr) (n : Int) (D : List (Int × Int)) (P G : List (Str × Int)) (C : List Int) (v : V) (d : PyData) (b k m : Nat), vs = [.ref h, .ref p, .ref g, .ref rl, v] ∧ HouseAt H h n D ∧ Forest n D ∧ n ≤ 8 ∧ PlAt H p P ∧ Pl n P ∧ P.length ≤ 100 ∧ PlD H g G ∧ Pl n G ∧ G.length ≤ 100 ∧ (∀ x ∈ P.map (·.1), x ∈ G.map (·.1)) ∧ SqT K H rl (vi C) ∧ C.length ≤ 8 ∧ Pce D P G C ∧ Dx K [] H v d ∧ Gd b k m d ∧ b ≤ 1000 ∧ k ≤ 60 ∧ m ≤ 100000 ∧ ∀ H', Same H H' → Q (.bl (crtB D P G C d)) H'
theorem ok_lcertA {f : Addr} {fd : FuncData} {k : Nat} (F : Fun K "_law_is_certificate" "_law_is_certificate" sLIsCert f fd) (T : Nm mg) (Tdict : mg "dict" = none) (Tset : mg "set" = none) (C_law_unwanted : Cal P w K mg base (k + 4) "_law_unwanted" pLUnw (spLUnw K)) (C_law_is_row : CalG P w K mg base (k + 4) "_law_is_row" pLIsRow (spLRowA K)) (C_law_connected : Cal P w K mg base (k + 4) "_law_connected" pConn (spConn K)) (C_law_neighbors : Cal P w K mg base (k + 4) "_law_neighbors" ["_law_house", "_law_room"] spLNb) (C_law_still : Cal P w K mg base (k + 4) "_law_still" pLStill (spLStill K)) : FnG P w K mg base (k + 5) f fd pLIsCert (spLCertA K) := by
  refine Fun.okG F scLIsCert (fun vs H Q E h => ?_) (fun cdv A outer s H vs Q gd hr h => ?_)
  · obtain ⟨h, p, g, rl, n, D, P, G, C, v, d, b, k, m, rfl, _⟩ := h
    rfl
  · obtain ⟨prog, ep⟩ : ∃ p : Program, p = P := ⟨P, rfl⟩
    obtain ⟨h, p, g, rl, n, D, P, G, C, v0, d0, b0, k0, m0, rfl, hH, hF, n1, hP, pl, lP, hG, plG, lG, sub, hC, lC, pc, hd0, gdd, gb, gk, gm, q⟩ := h
    refine ⟨_, (pss_cons (ps_set (i := 5) scLIsCert.nd rfl (.inr rfl) (pe_cal C_law_unwanted hr (by rfl) (pa_cons (pv 1) (pa_cons (pv 2) (pa_cons (pv 3) pa_nil)))))
      (pss_cons (ps_if (PW.pt (pw_or (pt_not (pt_val (pe_callB (call_isD (av := [])) (by rfl) T.isinstance (by decide +kernel) (pa_cons (pv 4) (pa_cons (pe_bltn (v := .ty "tuple") (by rfl) T.tuple (by decide +kernel) rfl) pa_nil))))) (pw_or1 (pt_cmpR op_ne (pe_callB (call_lenK K rfl) (by rfl) T.len (by decide +kernel) (pa_cons (pv 4) pa_nil)) (pe_callB (call_lenK K rfl) (by rfl) T.len (by decide +kernel) (pa_cons (pv 5) pa_nil)) (nomark _)))))
      (pss_one (ps_ret pe_bl))
      pss_nil)
      (pss_cons (ps_if (pt_cmpR (op_neL0K rfl (Nat.lt_of_succ_lt (hu_of hr))) (pe_lc (own := [("_law_k", 6)]) (g := gName 6) (by rfl) scLIsCert.nd (pi_range1 (by rfl) T.range (pa_cons (pe_callB (call_lenK K rfl) (by rfl) T.len (by decide +kernel) (pa_cons (pv 5) pa_nil)) pa_nil))
 (blkOk_by (own := [("_law_k", 6)]) (N := nLIsCert) (sc := defScope sLIsCert) (by decide +kernel))
 (fun _ _ _ _ _ => (pg_name (i := 6) scLIsCert.nd rfl (.inl rfl))) (fun _ _ _ _ _ => pts_one (pt_not (pt_val (pe_calG C_law_is_row gd hr (by rfl) (pa_cons (pv 0) (pa_cons (pv 1) (pa_cons (pv 2) (pa_cons (pv 3) (pa_cons (pe_ix (ix_listK K rfl) (pv 5) (pv 6) (fun _ _ => rfl)) (pa_cons (pe_ix (ix_tupK K rfl) (pv 4) (pv 6) (fun _ _ => rfl)) pa_nil)))))))))) (fun _ _ _ _ _ => (pv 6))) (pe_lst pa_nil) (nomark _))
      (pss_one (ps_ret pe_bl))
      pss_nil)
      (pss_cons (ps_set (i := 7) scLIsCert.nd rfl (.inr rfl) (pe_callTy (call_dictK K rfl rfl) (by rfl) Tdict (by decide +kernel) (pa_cons (pe_lc (own := [("_law_row", 8)]) (g := gName 8) (by rfl) scLIsCert.nd (pi_tupK K rfl (pv 4))
 (blkOk_by (own := [("_law_row", 8)]) (N := nLIsCert) (sc := defScope sLIsCert) (by decide +kernel))
 (fun _ _ _ _ _ => (pg_name (i := 8) scLIsCert.nd rfl (.inl rfl))) (fun _ _ _ _ _ => pts_one (pt_cmpR op_eq (pe_ix (ix_tupK K rfl) (pv 8) pe_int (fun _ _ => rfl)) pe_str (nomark _))) (fun _ _ _ _ _ => (pe_tup (pa_cons (pe_ix (ix_tupK K rfl) (pv 8) pe_int (fun _ _ => rfl)) (pa_cons (pe_ix (ix_tupK K rfl) (pv 8) pe_int (fun _ _ => rfl)) pa_nil))))) pa_nil)))
      (pss_cons (ps_if (pt_cmpR (op_neL0K rfl (Nat.lt_of_succ_lt (hu_of hr))) (pe_lock (pe_lc (own := [("_law_room", 9)]) (g := gName 9) (by rfl) scLIsCert.nd (pi_keys (pv 7))
 (blkOk_by (own := [("_law_room", 9)]) (N := nLIsCert) (sc := defScope sLIsCert) (by decide +kernel))
 (fun _ _ _ _ _ => (pg_name (i := 9) scLIsCert.nd rfl (.inl rfl))) (fun _ _ _ _ _ => pts_one (pt_cmpR (op_eqDK K rfl hr.units) (pe_dget2 (hu_of hr) (pv 7) (pe_dget (hu_of hr) (pv 7) (pv 9) (fun _ _ => rfl)) pe_non ⟨rfl, rfl, rfl, rfl⟩) (pv 9) (nomark _))) (fun _ _ _ _ _ => (pv 9)))) (pe_lst pa_nil) (nomark _))
      (pss_one (ps_ret pe_bl))
      pss_nil)
      (pss_cons (ps_set (i := 10) scLIsCert.nd rfl (.inr rfl) (pe_lc (own := [("_law_room", 9)]) (g := gName 9) (by rfl) scLIsCert.nd (pi_tupK K rfl (pv 3))
 (blkOk_by (own := [("_law_room", 9)]) (N := nLIsCert) (sc := defScope sLIsCert) (by decide +kernel))
 (fun _ _ _ _ _ => (pg_name (i := 9) scLIsCert.nd rfl (.inl rfl))) (fun _ _ _ _ _ => pts_one (pt_cmp (pc_dnotin (hu_of hr) (pv 9) (pv 7)))) (fun _ _ _ _ _ => (pv 9))))
      (pss_cons (ps_for PassesOwn.never rfl (pi_listK K rfl (pe_callB (cr_sortedTV rfl) (by rfl) T.sorted (by decide +kernel) (pa_cons (pe_callTy (cr_setOfT rfl hr.units) (by rfl) Tset (by decide +kernel) (pa_cons (pe_lc (own := [("_law_room", 9)]) (g := gName 9) (by rfl) scLIsCert.nd (pi_listK K rfl (pv 10))
 (blkOk_by (own := [("_law_room", 9)]) (N := nLIsCert) (sc := defScope sLIsCert) (by decide +kernel))
 (fun _ _ _ _ _ => (pg_name (i := 9) scLIsCert.nd rfl (.inl rfl))) (fun _ _ _ _ _ => pts_nil) (fun _ _ _ _ _ => (pe_cal C_law_connected hr (by rfl) (pa_cons (pv 0) (pa_cons (pv 10) (pa_cons (pv 9) pa_nil)))))) pa_nil)) pa_nil))) (pg_name (i := 11) scLIsCert.nd rfl (.inr rfl))
      (pss_cons (ps_lock (ps_setLc (i := 12) (own := [("_law_room", 9)]) (g := gName 9) (by rfl) scLIsCert.nd rfl rfl (sw_true rfl rfl rfl (by decide +kernel)) (pi_keys (pv 7))
 (blkOk_by (own := [("_law_room", 9)]) (N := nLIsCert) (sc := defScope sLIsCert) (by decide +kernel))
 (fun _ _ _ _ _ => (pg_name (i := 9) scLIsCert.nd rfl (.inl rfl))) (fun _ _ _ _ _ => pts_one (pt_cmpR (op_neL0K rfl (Nat.lt_of_succ_lt (hu_of hr))) (pe_lc (own := [("_law_one", 13)]) (g := gName 13) (by rfl) scLIsCert.nd (pi_listK K rfl (pe_cal C_law_neighbors hr (by rfl) (pa_cons (pv 0) (pa_cons (pv 9) pa_nil))))
 (blkOk_by (own := [("_law_one", 13)]) (N := nLIsCert) (sc := { kind := .function, names := [(".0", .local), ("_law_room", .local), ("_law_neighbors", .globalImplicit), ("_law_house", .cell), ("_law_island", .cell)], isGenerator := false, isCoroutine := false }) (by decide +kernel))
 (fun _ _ _ _ _ => (pg_name (i := 13) scLIsCert.nd rfl (.inl rfl))) (fun _ _ _ _ _ => pts_one (pt_cmpR (op_inK K rfl) (pv 13) (pv 11) (by rfl))) (fun _ _ _ _ _ => (pv 13))) (pe_lst pa_nil) (nomark _))) (fun _ _ _ _ _ => (pv 9))))
       (pss_one (ps_if (PW.pt (pw_and (pt_val (pe_cal C_law_still hr (by rfl) (pa_cons (pv 1) (pa_cons (pv 2) (pa_cons (pv 11) pa_nil))))) (pw_and1 (pt_cmpR (op_eqL0 (Nat.lt_of_succ_lt (hu_of hr))) (pe_lc (own := [("_law_room", 9)]) (g := gName 9) (by rfl) scLIsCert.nd (pi_listK K rfl (pv 12))
 (blkOk_by (own := [("_law_room", 9)]) (N := nLIsCert) (sc := defScope sLIsCert) (by decide +kernel))
 (fun _ _ _ _ _ => (pg_name (i := 9) scLIsCert.nd rfl (.inl rfl))) (fun _ _ _ _ _ => pts_one (pt_cmpR (op_notInK K rfl) (pe_dget (hu_of hr) (pv 7) (pv 9) (fun _ _ => rfl)) (pv 11) (by rfl))) (fun _ _ _ _ _ => (pv 9))) (pe_lst pa_nil) (nomark _)))))
       (pss_one (ps_ret pe_bl))
       pss_nil))))
      (pss_one (ps_ret pe_bl))))))))), ?_⟩
    refine ⟨_, rfl, _, rfl, _, rfl, p, g, rl, P, G, C, rfl, hP, lP, hG, plG.nodup, lG, sub, hC, by omega, fun H1 l s1 el => ?_⟩
    refine ⟨_, rfl, v0, "tuple", d0, rfl, by decide, dx_sm s1 hd0, _, rfl, ?_⟩
    cases e : isD "tuple" d0 with
    | false =>
      rw [crtB_no (by rw [cert_not e]; exact fun ⟨_, k, _⟩ => nomatch k)] at q
      exact iteT (iteT (q _ s1))
    | true =>
      cases hd0 with
      | @tup t xs ds sq da =>
        refine iteF ⟨_, rfl, t, xs, rfl, .inr (sqT_sm s1 sq), _, rfl, l, _, rfl, .inl (SqL.of el), rfl, _, rfl, ?_⟩
        by_cases lu : ds.length = (unwL P G C).length
        case neg =>
          rw [crtB_no fun ⟨rs, k1, k2, _⟩ => lu (by rw [← rows_len k1, ← k2, List.length_map])] at q
          exact if_t (by rw [decide_eq_false fun z => lu (by have := V.int.inj z; rw [da.len, List.length_map] at this; omega)]; rfl) (q _ s1)
        have lx : xs.length = (vi (unwL P G C)).length := by rw [da.len, lu, List.length_map]
        refine if_f (by rw [lx]; simp) ?_
        have gA : GdA b0 (k0 - 1) m0 ds := by
          cases k0 with
          | zero => exact gdd.flat.elim
          | succ k => exact gdd.un
        have lU : (unwL P G C).length ≤ 8 := Nat.le_trans (unwL_len P G C) lC
        refine ⟨_, rfl, l, _, rfl, .inl (SqL.of el), (unwL P G C).length, by rw [List.length_map], by omega, by omega, fun L hL => lc_range (lo := 0) (n := ((unwL P G C).length : Int).toNat) (fun i H' => Same H1 H' ∧ ∃ acc, H' L = some (.lst acc) ∧ acc.length ≤ i ∧ (acc.isEmpty = true ↔ ∀ j u dd, j < i → (unwL P G C)[j]? = some u → ds[j]? = some dd → rowB D P G C u dd = true)) ⟨same_upd hL, [], upd_same, Nat.zero_le _, ⟨fun _ j _ _ hj => absurd hj (Nat.not_lt_zero _), fun _ => rfl⟩⟩ ?_ ?_⟩
        · rintro i H2 hi ⟨s2, acc, e2, la, ea⟩
          rw [Int.toNat_natCast] at hi
          have hr' : (unwL P G C)[i]? = some ((unwL P G C)[i]) := List.getElem?_eq_getElem hi
          generalize (unwL P G C)[i] = r at hr'
          have hx : ∃ x, xs[i]? = some x := ⟨xs[i]'(by rw [lx, List.length_map]; exact hi), List.getElem?_eq_getElem _⟩
          obtain ⟨x, hx⟩ := hx
          obtain ⟨dd, hdd, hb⟩ := da.at hx
          have s02 := s1.trans s2
          have uw := mem_unwL.mp (List.mem_of_getElem? hr')
          refine ⟨rfl, _, rfl, _, rfl, _, rfl, _, rfl, _, rfl, _, rfl, l, _, _, _, rfl, rfl, SqL.of (s2 _ _ el), ?_, _, rfl, _, rfl, t, _, _, _, rfl, rfl, sqT_sm s02 sq, ?_, h, p, g, rl, n, D, P, G, C, r, x, dd, b0, k0 - 1, m0, rfl, hH.same s02, hF, n1, hP.same s02, pl, lP, hG.same s02, plG, lG, sub, sqT_same s02 hC, lC, pc, uw, dx_sm s02 hb, gA.get (List.mem_of_getElem? hdd), gb, by omega, gm, fun H3 s3 => ⟨_, rfl, ?_⟩⟩
          · rw [show (0 + (i : Int)) = (i : Int) by omega]
            exact atI_nat (by rw [List.getElem?_map, hr']; rfl)
          · rw [show (0 + (i : Int)) = (i : Int) by omega]
            exact atI_nat hx
          have e3 := s3 _ _ e2
          cases er : rowB D P G C r dd with
          | true =>
            refine iteF ⟨s2.trans s3, acc, e3, Nat.le_succ_of_le la, ea.trans ⟨fun h j u d' hj a1 a2 => ?_, fun h j u d' hj => h j u d' (Nat.lt_succ_of_lt hj)⟩⟩
            rcases Nat.lt_succ_iff_lt_or_eq.mp hj with hj | hj
            · exact h j u d' hj a1 a2
            · subst hj
              rw [hr'] at a1
              rw [hdd] at a2
              cases a1
              cases a2
              exact er
          | false =>
            refine iteT ⟨_, rfl, acc, e3, small1000 (by omega), same_put (s2.trans s3) hL, _, upd_same, by rw [List.length_append]; simp only [List.length_cons, List.length_nil]; omega, ⟨fun z => ?_, fun z => ?_⟩⟩
            · cases acc <;> cases z
            · have := z i r dd (Nat.lt_succ_self i) hr' hdd
              rw [er] at this
              cases this
        rintro H2 ⟨s2, acc, e2, la, ea⟩
        rw [Int.toNat_natCast] at ea
        refine ⟨Nat.zero_le _, fun O hO => ⟨L, O, _, rfl, rfl, SqL.of (same_upd hO _ _ e2), SqL.of upd_same, _, rfl, ?_⟩⟩
        have s12 := s2.trans (same_upd (o := .lst []) hO)
        have s02 := s1.trans s12
        cases em : acc.isEmpty with
        | false =>
          have no : crtB D P G C (.tuple ds) = false := Bool.eq_false_iff.mpr fun z => by
            obtain ⟨rs, a1, a2, a3, _⟩ := crtB_iff.mp z
            have : acc.isEmpty = true := ea.mpr fun j u dd hj b1 b2 => by
              obtain ⟨y, y1, y2⟩ := rows_get a1 b2
              refine rowB_iff.mpr ⟨y, y2, ?_, a3 y (List.mem_of_getElem? y1)⟩
              have h1 : (rs.map rowR)[j]? = some (rowR y) := by rw [List.getElem?_map, y1]; rfl
              rw [a2, b1] at h1
              exact (Option.some.inj h1).symm
            rw [em] at this
            cases this
          rw [no] at q
          exact iteT (q _ s02)
        | true =>
        refine iteF ?_
        obtain ⟨rs, hrs, al, ok⟩ := rows_all (D := D) (P := P) (G := G) (C := C) lu fun i u d a1 a2 => ea.mp em i u d (lt_of_get a1) a1 a2
        have cq := crtB_rows hrs al ok
        generalize crtB D P G C (.tuple ds) = cb at q cq
        obtain ⟨as3, rfl, b2, b3⟩ := dx_rows da hrs
        replace sq := sqT_sm s02 sq
        replace b3 : ∀ x ∈ as3, SqT K (upd H2 O (.lst [])) x.1 (rowV x.2) := fun x hx => sqT_sm s02 (b3 x hx)
        generalize upd H2 O (.lst []) = H3 at *
        clear hO s2 e2 hL ea em la
        have nd : ((bks rs).map (·.1)).Nodup := by
          have h1 := bks_sub rs
          rw [al] at h1
          exact h1.nodup (up_nodup (unwL_up pc.up))
        have lrs : rs.length ≤ 8 := by
          have := congrArg List.length al
          rw [List.length_map] at this
          omega
        have lB : (bks rs).length ≤ 8 := Nat.le_trans (bks_len rs) lrs
        have las : as3.length = rs.length := by rw [b2, List.length_map]
        refine ⟨_, rfl, t, rfl, ⟨_, sq⟩, fun M hM => lc_tup (K := K) (a := t) (xs := as3.map fun x => V.ref x.1) (fun i H' => Same H3 H' ∧ ∃ ps : List (Addr × Int × Int), H' M = some (.lst (ps.map fun x => V.ref x.1)) ∧ ps.map (·.2) = bks (rs.take i) ∧ ∀ x ∈ ps, H' x.1 = some (.tup [.int x.2.1, .int x.2.2])) ⟨same_upd hM, [], upd_same, rfl, fun x hx => nomatch hx⟩ (fun i H' _ hh => sqT_sm hh.1 sq) ?_ ?_⟩
        · rintro i x H4 hx ⟨s4, ps, c1, c2, c3⟩
          obtain ⟨y, hy, rfl⟩ := get_row hx
          have il := lt_of_get hy
          have hri : rs[i]? = some y.2 := by rw [b2, List.getElem?_map, hy]; rfl
          have ey := sqT_sm s4 (b3 y (List.mem_of_getElem? hy))
          have es : bks (rs.take (i + 1)) = bks (rs.take i) ++ bks [y.2] := by rw [take_snoc hri, bks_app]
          have lps : ps.length ≤ 8 := by
            have h1 := congrArg List.length c2
            have h2 := bks_len (rs.take i)
            rw [List.length_map] at h1
            rw [List.length_take] at h2
            omega
          cases hrow : y.2 with
          | p r nm =>
            rw [hrow] at ey es
            refine ⟨rfl, _, rfl, y.1, _, _, _, rfl, rfl, ey, atI1, rfl, _, rfl, iteF ⟨s4, ps, c1, ?_, c3⟩⟩
            rw [es, c2]
            exact (List.append_nil _).symm
          | b r v =>
            rw [hrow] at ey es
            refine ⟨rfl, _, rfl, y.1, _, _, _, rfl, rfl, ey, atI1, rfl, _, rfl, iteT ⟨_, rfl, y.1, _, _, _, rfl, rfl, ey, atI0, _, rfl, y.1, _, _, _, rfl, rfl, ey, atI2, by show 2 ≤ sizeLine; decide, fun u hu => ?_⟩⟩
            have s5 := same_upd (o := .tup [V.int r, V.int v]) hu
            refine ⟨_, s5 _ _ c1, ?_, same_put (s4.trans s5) hM, ps ++ [(u, r, v)], ?_, ?_, fun z hz => ?_⟩
            · rw [List.length_map]
              exact small1000 (by omega)
            · rw [upd_same, List.map_append]
              rfl
            · rw [List.map_append, c2, es]
              rfl
            · rcases List.mem_append.mp hz with hz | hz
              · have := s5 _ _ (c3 z hz)
                rw [upd_ne (ne_of this (s5 _ _ c1) (by intro w; cases w))]
                exact this
              · rw [List.mem_singleton.mp hz]
                rw [upd_ne (ne_of (upd_same (H := H4) (a := u)) (s5 _ _ c1) (by intro w; cases w))]
                exact upd_same
        rintro H4 ⟨s4, ps, c1, c2, c3⟩
        rw [List.length_map, las, List.take_length] at c2
        refine ⟨M, ps.map (·.1), dkJ (bks rs), rfl, by rw [List.map_map]; exact SqL.of c1, by rw [← c2]; exact paired_J c3, fun d hd => ?_⟩
        have em : mergeK [] (dkJ (bks rs)) = dkJ (bks rs) := dkJ_merge (B0 := []) nd
        rw [em]
        have s04 := (s02.trans s4).trans (same_upd (o := .dK (dkJ (bks rs))) hd)
        have e4 : (upd H4 d (.dK (dkJ (bks rs)))) d = some (.dK (dkJ (bks rs))) := upd_same
        generalize bks rs = B at *
        generalize upd H4 d (.dK (dkJ B)) = H5 at *
        clear c1 c2 c3 hd s4 b3 s12 s02 sq
        refine ⟨d, _, e4, True.intro, fun od => ⟨_, rfl, d, od, rfl, .inl ⟨_, upd_same, fun N hN => ?_⟩⟩⟩
        have un : ∀ {H' : Hp}, Same (upd H5 d (.frz od (.dK (dkJ B)))) H' → H' d = some (.frz od (.dK (dkJ B))) ∧ Same H5 (upd H' d (.dK (dkJ B))) := fun {H'} s' => ⟨s' _ _ upd_same, same_unlock e4 s'⟩
        have lk : (upd H5 d (.frz od (.dK (dkJ B)))) d = some (.frz od (.dK (dkJ B))) := upd_same
        generalize upd H5 d (.frz od (.dK (dkJ B))) = H6 at *
        refine lc_it (walk_keys (d := d) (o := od) (kvs := dkJ B)) (fun i H' => Same H6 H' ∧ ∃ acc, H' N = some (.lst acc) ∧ acc.length ≤ i ∧ (acc.isEmpty = true ↔ ∀ x ∈ B.take i, (x.2, x.1) ∉ B)) ⟨same_upd hN, [], upd_same, Nat.zero_le _, ⟨(fun _ x hx => nomatch hx), fun _ => rfl⟩⟩ ?_ ?_ ?_
        · rintro i H' _ ⟨s', _⟩
          exact s' _ _ lk
        · rintro i x H7 H7' hi ⟨s7, acc, e7, la, ea⟩ ⟨rfl, kk, vv, hk, rfl⟩
          obtain ⟨⟨b, v⟩, hb, rfl⟩ := dkJ_at hk
          have mb := List.mem_of_getElem? hb
          have rd : Rd H7' d (.dK (dkJ B)) := .inr ⟨od, s7 _ _ lk⟩
          refine ⟨rfl, _, rfl, d, rfl, .inl ⟨_, rd⟩, _, rfl, _, rfl, d, _, rfl, .inl ⟨_, Sum.inl b, rd, rfl, (dkJ_some nd mb).symm⟩, valV (dkJ B) (Sum.inl v), .inl ⟨_, Sum.inl v, rd, rfl, rfl⟩, _, rfl, ?_⟩
          have ib := lt_of_get hb
          have stay : (v, b) ∉ B → (acc.isEmpty = true ↔ ∀ x ∈ B.take (i + 1), (x.2, x.1) ∉ B) := fun no => by
            rw [take_snoc hb]
            exact ea.trans ⟨fun h x hx => (List.mem_append.mp hx).elim (h x) fun hx => by rw [List.mem_singleton.mp hx]; exact no, fun h x hx => h x (List.mem_append_left _ hx)⟩
          by_cases vb : v ∈ B.map (·.1)
          · obtain ⟨y, hy, e⟩ := List.mem_map.mp vb
            obtain ⟨v', b'⟩ := y
            replace e : v' = v := e
            subst e
            rw [dkJ_some nd hy]
            refine ⟨_, _, .int b', .int b, rfl, rfl, _, rfl, ?_⟩
            by_cases ne : b' = b
            · subst ne
              rw [show PyData.eqv (.int b') (.int b') = true by simp [PyData.eqv]]
              refine iteT ⟨_, rfl, acc, e7, small1000 (by omega), same_put s7 hN, _, upd_same, by rw [List.length_append]; simp only [List.length_cons, List.length_nil]; omega, ⟨fun z => ?_, fun z => ?_⟩⟩
              · cases acc <;> cases z
              · exact absurd hy (z (b', v') (by rw [take_snoc hb]; exact List.mem_append_right _ (List.mem_singleton.mpr rfl)))
            · rw [show PyData.eqv (.int b') (.int b) = false by simp [PyData.eqv, ne]]
              refine iteF ⟨s7, acc, e7, Nat.le_succ_of_le la, stay fun m => ne ?_⟩
              exact V.int.inj (Option.some.inj ((dkJ_some nd hy).symm.trans (dkJ_some nd m)))
          · rw [dkJ_none vb]
            exact ⟨_, _, .non, .int b, rfl, rfl, _, rfl, iteF ⟨s7, acc, e7, Nat.le_succ_of_le la, stay fun m => vb (List.mem_map_of_mem (f := (·.1)) m)⟩⟩
        rintro H7 ⟨s7, acc, e7, la, ea⟩
        obtain ⟨u1, u2⟩ := un s7
        have dN : N ≠ d := fun e => by rw [e, lk] at hN; cases hN
        refine ⟨u1, Nat.zero_le _, fun O hO => ?_⟩
        refine ⟨N, O, _, rfl, rfl, SqL.of (same_upd hO _ _ (by rw [upd_ne dN]; exact e7)), SqL.of upd_same, _, rfl, ?_⟩
        have s08 := (s04.trans u2).trans (same_upd (o := .lst []) hO)
        rw [show (dkJ B).length = B.length from List.length_map .., List.take_length] at ea
        cases em : acc.isEmpty with
        | false =>
          have : cb = false := Bool.eq_false_iff.mpr fun z => by
            have : acc.isEmpty = true := ea.mpr fun x hx => (cq.mp z).no2 x.1 x.2 hx
            rw [em] at this
            cases this
          rw [this] at q
          exact iteT (q _ s08)
        | true =>
        refine iteF ?_
        have no2 := ea.mp em
        have e8 : (upd (upd H7 d (.dK (dkJ B))) O (.lst [])) d = some (.dK (dkJ B)) := same_upd hO _ _ upd_same
        generalize upd (upd H7 d (.dK (dkJ B))) O (.lst []) = H8 at *
        clear un lk hN hO u1 u2 s7 e7 dN e4 s04
        refine ⟨_, rfl, rl, rfl, ⟨_, sqT_same s08 hC⟩, fun L2 hL2 => lc_tup (K := K) (a := rl) (xs := vi C) (fun i H' => Same H8 H' ∧ H' L2 = some (.lst (vi (wo (C.take i) (B.map (·.1)))))) ⟨same_upd hL2, upd_same⟩ (fun i H' _ hh => sqT_same (s08.trans hh.1) hC) ?_ ?_⟩
        · rintro i x H9 hx ⟨s9, e9⟩
          obtain ⟨y, hy, rfl⟩ := get_vi hx
          have es : wo (C.take (i + 1)) (B.map (·.1)) = wo (C.take i) (B.map (·.1)) ++ if (!decide (y ∈ B.map (·.1))) = true then [y] else [] := by
            unfold wo
            rw [take_snoc hy, filter_snoc]
          refine ⟨rfl, _, rfl, _, rfl, d, _, rfl, .k (k := Sum.inl y) (s9 _ _ e8), ?_⟩
          have hs : (valV (dkJ B) (Sum.inl y)).isSome = decide (y ∈ B.map (·.1)) := by
            by_cases m : y ∈ B.map (·.1)
            · obtain ⟨x, hx, e⟩ := List.mem_map.mp m
              rw [decide_eq_true m, ← e, dkJ_some nd (v := x.2) hx]
              rfl
            · rw [decide_eq_false m, dkJ_none m]
              rfl
          rw [hs, es]
          refine ⟨_, rfl, ite2 (fun c => ?_) (fun c => ?_)⟩
          · rw [if_pos c]
            refine ⟨_, rfl, _, e9, ?_, same_put s9 hL2, ?_⟩
            · rw [List.length_map]
              have h1 : (wo (C.take i) (B.map (·.1))).length ≤ (C.take i).length := List.length_filter_le _ _
              rw [List.length_take] at h1
              exact small1000 (by omega)
            · rw [upd_same, vi_app]
              rfl
          · rw [if_neg c, List.append_nil]
            exact ⟨s9, e9⟩
        rintro H9 ⟨s9, e9⟩
        rw [List.length_map, List.take_length] at e9
        have s09 := s08.trans s9
        have ed9 := s9 _ _ e8
        have lR : (wo C (B.map (·.1))).length ≤ 8 := Nat.le_trans (List.length_filter_le _ _) lC
        have rR : ∀ x ∈ wo C (B.map (·.1)), 0 ≤ x ∧ x < n := fun x hx => by
          obtain ⟨nm, m, _⟩ := pc.who x (mem_wo.mp hx).1
          exact pl.rm _ m
        have cq' : cb = true ↔ ∀ s ∈ wo C (B.map (·.1)), ∀ I, IsC D (wo C (B.map (·.1))) s I → Stl P G I → ∃ b v o, (b, v) ∈ B ∧ v ∉ I ∧ o ∈ I ∧ adj D b o := cq.trans ⟨fun c => c.out, fun c => ⟨fun r v m => no2 (r, v) m, c⟩⟩
        clear cq
        generalize wo C (B.map (·.1)) = R at *
        clear s9 e8 s08
        refine ⟨_, rfl, L2, rfl, ⟨_, SqL.of e9⟩, fun M2 hM2 => lc_list (K := K) (a := L2) (xs := vi R) (fun j H2 => ∃ ks : List (Addr × List Int), Same H9 H2 ∧ H2 M2 = some (.lst (refs ks)) ∧ TupsAt H2 ks ∧ ks.length = j ∧ (∀ c ∈ ks, ∃ r ∈ R, IsC D R r c.2) ∧ ∀ r ∈ R.take j, ∃ c ∈ ks, IsC D R r c.2)
          ⟨[], same_upd hM2, upd_same, fun c hc => (by cases hc), rfl, fun c hc => (by cases hc), fun r hr => (by simp at hr)⟩ (fun j H2 _ hh => ?_) ?_ ?_⟩
        · obtain ⟨ks, s2, _⟩ := hh
          exact SqL.of (s2 _ _ e9)
        · rintro j x H2 hx ⟨ks, s2, e2, hT, hl, h1, h2⟩
          obtain ⟨r, er, rfl⟩ := get_vi hx
          have hj : j < R.length := lt_of_get er
          have mr := List.mem_of_getElem? er
          refine ⟨rfl, tYes_q (iteT ?_)⟩
          refine ⟨_, rfl, _, rfl, _, rfl, h, L2, n, D, R, r, rfl, hH.same (s09.trans s2), hF, n1, .inl (SqL.of (s2 _ _ e9)), (rR r mr).1, (rR r mr).2, fun H3 t l s3 et hC ll => ?_⟩
          have e3 := s3 _ _ e2
          refine ⟨_, e3, by unfold refs; rw [List.length_map]; exact small1000 (by omega), ks ++ [(t, l)], same_put (s2.trans s3) hM2, ?_, fun c hc => ?_, ?_, fun c hc => ?_, fun x hx => ?_⟩
          · rw [upd_same]
            unfold refs
            rw [List.map_append]
            rfl
          · rcases List.mem_append.mp hc with hc | hc
            · have z := hT.same s3 c hc
              exact ⟨(upd_ne (ne_of z.1 e3 (by intro q; cases q))).trans z.1, z.2⟩
            · rw [List.mem_singleton.mp hc]
              exact ⟨(upd_ne (ne_of et e3 (by intro q; cases q))).trans et, ll⟩
          · rw [List.length_append, List.length_singleton, hl]
          · rcases List.mem_append.mp hc with hc | hc
            · exact h1 c hc
            · rw [List.mem_singleton.mp hc]
              exact ⟨r, mr, hC⟩
          · rcases (take_succ_mem er).mp hx with hx | hx
            · obtain ⟨c, hc, z⟩ := h2 x hx
              exact ⟨c, List.mem_append_left _ hc, z⟩
            · rw [hx]
              exact ⟨(t, l), List.mem_append_right _ (List.mem_singleton.mpr rfl), hC⟩
        rintro H10 ⟨ks, s10, e10, hT, hl, h1, h2⟩
        rw [List.length_map] at hl h2
        rw [List.take_length] at h2
        refine ⟨M2, ks, rfl, SqL.of e10, fun p hp => SqT.of (hT p hp).1, by omega, fun a S ha m1 m2 => ?_⟩
        have sa : Same H10 (upd H10 a (SetTO prog w a S)) := same_upd ha
        refine ⟨a, S, rfl, by rw [← ep]; exact upd_same, fun p hp => ⟨by rw [← ep]; exact SqT.of (sa _ _ (hT p (m1 p hp)).1), ?_⟩, fun S' b mm up hb => ?_⟩
        · obtain ⟨r, _, hC⟩ := h1 p (m1 p hp)
          intro e
          have := hC.has
          rw [e] at this
          cases this
        rw [← ep] at hb ⊢
        have ep2 : (cxOf CX0 prog w K mg base nLIsCert (Str.ofString "_law_is_certificate") (defScope sLIsCert) f cdv A outer s H E0).nox.prog = prog := rfl
        have ew : (cxOf CX0 prog w K mg base nLIsCert (Str.ofString "_law_is_certificate") (defScope sLIsCert) f cdv A outer s H E0).nox.w = w := rfl
        rw [ep2, ew]
        have sb := sa.trans (same_upd (o := .lst (S'.map fun q => V.ref q.1)) hb)
        have rgs : Regs D R (S'.map (·.2)) := by
          refine ⟨up, fun l => ⟨fun hl => ?_, fun hl => ?_⟩⟩
          · obtain ⟨c, hc, rfl⟩ := List.mem_map.mp hl
            obtain ⟨r, hr', hC⟩ := h1 c (m1 c ((mm c).mp hc))
            exact ⟨r, hr', hC⟩
          · obtain ⟨r, hr', hC⟩ := hl
            obtain ⟨c, hc, hC2⟩ := h2 r hr'
            obtain ⟨c2, hc2, e2⟩ := List.mem_map.mp (m2 c hc)
            rw [hC.one hC2, ← e2]
            exact List.mem_map_of_mem ((mm c2).mpr hc2)
        have s11 := s10.trans sb
        have eb : (upd (upd H10 a (SetTO prog w a S)) b (.lst (S'.map fun q => V.ref q.1))) b = some (.lst (refs S')) := upd_same
        have hT11 : TupsAt (upd (upd H10 a (SetTO prog w a S)) b (.lst (S'.map fun q => V.ref q.1))) S' := fun c hc => hT.same sb c (m1 c ((mm c).mp hc))
        generalize upd (upd H10 a (SetTO prog w a S)) b (.lst (S'.map fun q => V.ref q.1)) = H11 at *
        have s011 := s09.trans s11
        have ed11 := s11 _ _ ed9
        clear hb sb mm up m1 m2 ha sa h1 h2 hl hT e10 s10 hM2 e9
        refine ⟨b, rfl, ⟨_, SqL.of eb⟩, for_list (K := K) (a := b) (xs := refs S') (fun i σ' H' => ∃ y11 y12, σ' = [some (.ref h), some (.ref p), some (.ref g), some (.ref rl), some (.ref t), some (.ref l), none, some (.ref d), none, none, some (.ref L2), y11, y12, none] ∧ Same H11 H' ∧ ∀ I ∈ (S'.take i).map (·.2), Stl P G I → ∃ b v o, (b, v) ∈ B ∧ v ∉ I ∧ o ∈ I ∧ adj D b o) ⟨_, _, rfl, Same.refl _, fun I hI => nomatch hI⟩ (fun i σ' H' _ hh => ?_) ?_ ?_⟩
        · obtain ⟨_, _, _, s', _⟩ := hh
          exact SqL.of (s' _ _ eb)
        · rintro i x σ' H12 hx ⟨y11, y12, rfl, s12, done⟩
          obtain ⟨c, hc', rfl⟩ := get_refs hx
          have mc := List.mem_of_getElem? hc'
          have ec := s12 _ _ (hT11 c mc).1
          obtain ⟨ss, hs, ic⟩ := (rgs.mem c.2).mp (List.mem_map_of_mem (f := (·.2)) mc)
          have e12 := s12 _ _ ed11
          have s012 := s011.trans s12
          refine ⟨d, _, e12, True.intro, fun od => ⟨_, rfl, d, od, rfl, .inl ⟨_, upd_same, fun N hN => ?_⟩⟩⟩
          have un : ∀ {H' : Hp}, Same (upd H12 d (.frz od (.dK (dkJ B)))) H' → H' d = some (.frz od (.dK (dkJ B))) ∧ Same H12 (upd H' d (.dK (dkJ B))) := fun {H'} s' => ⟨s' _ _ upd_same, same_unlock e12 s'⟩
          have lk : (upd H12 d (.frz od (.dK (dkJ B)))) d = some (.frz od (.dK (dkJ B))) := upd_same
          have tk : Tk H12 (upd H12 d (.frz od (.dK (dkJ B)))) := Tk.refl.putD e12
          have ec3 := tk.t ec
          have hH3 := (hH.same s012).tk tk
          generalize upd H12 d (.frz od (.dK (dkJ B))) = H13 at *
          refine lc_it (walk_keys (d := d) (o := od) (kvs := dkJ B)) (fun i H' => Same H13 H' ∧ H' N = some (.lst (vi (((B.take i).filter (bes n D c.2)).map (·.1))))) ⟨same_upd hN, upd_same⟩ ?_ ?_ ?_
          · rintro i H' _ ⟨s', _⟩
            exact s' _ _ lk
          · rintro i x H14 H14' hi ⟨s14, e14⟩ ⟨rfl, kk, vv, hk, rfl⟩
            obtain ⟨⟨r, v⟩, hb, rfl⟩ := dkJ_at hk
            have ib := lt_of_get hb
            refine ⟨rfl, _, rfl, _, rfl, h, n, D, r, rfl, hH3.same s14, hF, fun H15 u s15 nu eu => ?_⟩
            have ln := nb_len n D r
            refine ⟨u, rfl, ⟨_, SqL.of eu⟩, fun M3 hM3 => lc_list (K := K) (a := u) (xs := vi (nb n D r)) (fun j H' => Same H15 H' ∧ H' M3 = some (.lst (vi (((nb n D r).take j).filter fun o => decide (o ∈ c.2))))) ⟨same_upd hM3, upd_same⟩ (fun j H' _ hh => SqL.of (hh.1 _ _ eu)) ?_ ?_⟩
            · rintro j x H16 hx ⟨s16, e16⟩
              obtain ⟨o, ho, rfl⟩ := get_vi hx
              have jo := lt_of_get ho
              refine ⟨rfl, _, rfl, _, rfl, c.1, _, rfl, .inr (SqT.of (((s14.trans s15).trans s16) _ _ ec3)), rfl, flat_vi _, _, rfl, ?_⟩
              rw [if_neg (show ¬ (false = true) by decide), inV_vi, take_snoc ho, filter_snoc]
              refine ite2 (fun z => ?_) (fun z => ?_)
              · rw [if_pos z]
                refine ⟨_, rfl, _, e16, ?_, same_put s16 hM3, ?_⟩
                · rw [List.length_map]
                  refine small1000 (Nat.le_trans (List.length_filter_le _ _) ?_)
                  rw [List.length_take]
                  omega
                · rw [upd_same, vi_app]
                  rfl
              · rw [if_neg z, List.append_nil]
                exact ⟨s16, e16⟩
            rintro H16 ⟨s16, e16⟩
            rw [List.length_map, List.take_length] at e16
            refine ⟨Nat.zero_le _, fun O hO => ?_⟩
            refine ⟨M3, O, _, rfl, rfl, SqL.of (same_upd hO _ _ e16), SqL.of upd_same, _, rfl, ?_⟩
            have s17 := (s15.trans s16).trans (same_upd (o := .lst []) hO)
            have e17 := s17 _ _ e14
            rw [take_snoc hb, filter_snoc]
            have eb' : (!(vi ((nb n D r).filter fun o => decide (o ∈ c.2))).isEmpty) = bes n D c.2 (r, v) := rfl
            rw [eb']
            refine ite2 (fun z => ?_) (fun z => ?_)
            · rw [if_pos z]
              refine ⟨_, rfl, _, e17, ?_, same_put (s14.trans s17) hN, ?_⟩
              · rw [List.length_map, List.length_map]
                refine small1000 (Nat.le_trans (List.length_filter_le _ _) ?_)
                rw [List.length_take]
                omega
              · rw [upd_same, List.map_append, vi_app]
                rfl
            · rw [if_neg z, List.append_nil]
              exact ⟨s14.trans s17, e17⟩
          rintro H14 ⟨s14, e14⟩
          unfold dkJ at e14
          rw [List.length_map, List.take_length] at e14
          obtain ⟨u1, u2⟩ := un s14
          have dN : N ≠ d := fun e => by rw [e, lk] at hN; cases hN
          refine ⟨u1, ?_⟩
          have e15 : (upd H14 d (.dK (dkJ B))) N = some (.lst (vi ((B.filter (bes n D c.2)).map (·.1)))) := by
            rw [upd_ne dN]
            exact e14
          have ed15 : (upd H14 d (.dK (dkJ B))) d = some (.dK (dkJ B)) := upd_same
          generalize upd H14 d (.dK (dkJ B)) = H15 at *
          have s015 := s012.trans u2
          have ec15 := u2 _ _ ec
          refine ⟨_, rfl, _, rfl, _, rfl, p, g, c.1, P, G, c.2, rfl, hP.same s015, lP, hG.same s015, plG.nodup, lG, sub, SqT.of ec15, fun H16 s16 => ⟨_, rfl, ?_⟩⟩
          by_cases st : Stl P G c.2
          · rw [stlB_iff.mpr st]
            have e16 := s16 _ _ e15
            refine iteT ⟨_, rfl, N, rfl, ⟨_, SqL.of e16⟩, fun M4 hM4 => lc_list (K := K) (a := N) (xs := vi ((B.filter (bes n D c.2)).map (·.1))) (fun j H' => Same H16 H' ∧ H' M4 = some (.lst (vi ((((B.filter (bes n D c.2)).take j).filter fun x => !decide (x.2 ∈ c.2)).map (·.1))))) ⟨same_upd hM4, upd_same⟩ (fun j H' _ hh => SqL.of (hh.1 _ _ e16)) ?_ ?_⟩
            · rintro j x H17 hx ⟨s17, e17⟩
              obtain ⟨r, hr', rfl⟩ := get_vi hx
              rw [List.getElem?_map] at hr'
              cases hf : (B.filter (bes n D c.2))[j]? with
              | none => rw [hf] at hr'; cases hr'
              | some y =>
                obtain ⟨r', v⟩ := y
                rw [hf] at hr'
                replace hr' : r' = r := Option.some.inj hr'
                subst hr'
                have jl := lt_of_get hf
                have lf : (B.filter (bes n D c.2)).length ≤ B.length := List.length_filter_le _ _
                have mB := (List.mem_filter.mp (List.mem_of_getElem? hf)).1
                refine ⟨rfl, _, rfl, _, rfl, d, _, rfl, .inl ⟨_, Sum.inl r', .inl ((s16.trans s17) _ _ ed15), rfl, (dkJ_some nd mB).symm⟩, _, rfl, c.1, _, rfl, .inr (SqT.of ((s16.trans s17) _ _ ec15)), rfl, flat_vi _, _, rfl, ?_⟩
                rw [if_pos rfl, inV_vi, take_snoc hf, filter_snoc]
                refine ite2 (fun z => ?_) (fun z => ?_)
                · rw [if_pos z]
                  refine ⟨_, rfl, _, e17, ?_, same_put s17 hM4, ?_⟩
                  · rw [List.length_map, List.length_map]
                    refine small1000 (Nat.le_trans (List.length_filter_le _ _) ?_)
                    rw [List.length_take]
                    omega
                  · rw [upd_same, List.map_append, vi_app]
                    rfl
                · rw [if_neg z, List.append_nil]
                  exact ⟨s17, e17⟩
            rintro H17 ⟨s17, e17⟩
            rw [List.length_map, List.length_map, List.take_length] at e17
            refine ⟨Nat.zero_le _, fun O hO => ?_⟩
            refine ⟨M4, O, _, rfl, rfl, SqL.of (same_upd hO _ _ e17), SqL.of upd_same, _, rfl, ?_⟩
            have key : (vi (((B.filter (bes n D c.2)).filter fun x => !decide (x.2 ∈ c.2)).map (·.1))).isEmpty = true ↔ ¬ ∃ b v o, (b, v) ∈ B ∧ v ∉ c.2 ∧ o ∈ c.2 ∧ adj D b o := by
              rw [List.isEmpty_iff, List.map_eq_nil_iff, List.map_eq_nil_iff, List.filter_eq_nil_iff]
              constructor
              · rintro z ⟨b', v, o, m1, m2, m3, ad⟩
                exact z (b', v) (List.mem_filter.mpr ⟨m1, bes_of hF m3 ad⟩) (by rw [decide_eq_false m2]; rfl)
              · rintro z ⟨b', v⟩ hx m2
                obtain ⟨m1, m3⟩ := List.mem_filter.mp hx
                obtain ⟨o, h1, h2⟩ := (bes_iff hF).mp m3
                rw [Bool.not_eq_true', decide_eq_false_iff_not] at m2
                exact z ⟨b', v, o, m1, m2, h1, h2⟩
            have sZ := (((s12.trans u2).trans s16).trans s17).trans (same_upd (o := .lst []) hO)
            cases ee : (vi (((B.filter (bes n D c.2)).filter fun x => !decide (x.2 ∈ c.2)).map (·.1))).isEmpty with
            | true =>
              have : cb = false := Bool.eq_false_iff.mpr fun z => key.mp ee (cq'.mp z ss hs c.2 ic st)
              rw [this] at q
              exact iteT (q _ (s011.trans sZ))
            | false =>
              refine iteF ⟨_, _, rfl, sZ, fun I hI => ?_⟩
              rw [take_snoc hc', List.map_append] at hI
              rcases List.mem_append.mp hI with hI | hI
              · exact done I hI
              · rw [List.mem_singleton.mp hI]
                intro _
                exact Classical.not_not.mp fun z => by
                  rw [key.mpr z] at ee
                  cases ee
          · rw [Bool.eq_false_iff.mpr fun z => st (stlB_iff.mp z)]
            refine iteF ⟨_, _, rfl, (s12.trans u2).trans s16, fun I hI => ?_⟩
            rw [take_snoc hc', List.map_append] at hI
            rcases List.mem_append.mp hI with hI | hI
            · exact done I hI
            · rw [List.mem_singleton.mp hI]
              exact fun z => absurd z st
        · rintro σ' H12 ⟨y11, y12, rfl, s12, done⟩
          rw [show (refs S').length = S'.length from List.length_map .., List.take_length] at done
          have : cb = true := cq'.mpr fun s hs I ic => done I ((rgs.mem I).mpr ⟨s, hs, ic⟩)
          rw [this] at q
          exact q _ (s011.trans s12)
      | _ => simp [isD, kindD] at e
end
end Fw
set_option maxHeartbeats 8000000
namespace Fw
open PySem PySem.Spec PyProof.Rows L2
/-! values with one element replaced -/
theorem sqT_fr {K : PySem.W.Frag} {s A B : Addr} {c : Nat} {H H1 : Hp} (hS : StreamAt H s A B c) (f : Fr s A H H1) {a : Addr} {xs : List V} (h : SqT K H a xs) : SqT K H1 a xs := h.elim (fun e => .inl (rd_fr hS f e)) .inr
theorem pss_imp {X : Cx} {b : List Stmt} {t t' : TS} (h : PSs X b t) (i : ∀ D σ H, t' D σ H → t D σ H) : PSs X b t' := ⟨fun pins s σ H D I q => h.run pins s σ H D I (i D σ H q)⟩
section
variable {X : Cx}
/-- t != (), whatever lies in t -/
def rNe0 (K : PySem.W.Frag) : R2 := fun x y H Q => ∃ (a b : Addr) (xs : List V), x = .ref a ∧ y = .ref b ∧ SqT K H a xs ∧ SqT K H b [] ∧ Q (.bl (!xs.isEmpty)) H
theorem op_ne0 (hu : X.A.units < cLine) : OpR X (compareOp .NotEq) (rNe0 X.K) := by
  rintro pn z σ H _ _ v u Q J rx ry ⟨a, b, xs, rfl, rfl, ha, hb, q⟩
  cases (show v = Value.ref a from rx)
  cases (show u = Value.ref b from ry)
  obtain ⟨ia, ra, pa, _⟩ := J.tuple ha
  obtain ⟨_, rb, pb, _⟩ := J.tuple hb
  cases rb
  refine SeqAt.RcNeAt.tuples (e := fun _ => true) pa pb hu (fun j _ h2 => absurd h2 (by simp)) X.prog X.w _ _ ⟨.bl (!xs.isEmpty), H, J, ?_, q⟩
  have hl := ra.length
  show Value.bool _ = Value.bool _
  congr 1
  cases xs with
  | nil => cases ra; rfl
  | cons _ _ => cases ra; simp
/-- an int or a bool as a number -/
def numV : V → Option Int
  | .int i => some i
  | .bl b => some (if b = true then 1 else 0)
  | _ => none
theorem numV_of {x : V} {i : Int} (h : numV x = some i) : x = .int i ∨ ∃ b, x = .bl b ∧ i = if b = true then 1 else 0 := by
  cases x with
  | int j => cases h; exact .inl rfl
  | bl b => cases h; exact .inr ⟨b, rfl, rfl⟩
  | _ => cases h
def rNum (f : Int → Int → Int) : R2 := fun x y H Q => ∃ i k, numV x = some i ∧ y = .int k ∧ Q (.int (f i k)) H
theorem op_addN : OpR X (binaryOp .Add) (rNum (· + ·)) := by
  rintro pn sh σ H x y v u Q J rx ry ⟨i, k, hx, rfl, q⟩
  obtain ⟨t, rfl⟩ := ry
  rcases numV_of hx with rfl | ⟨b, rfl, rfl⟩
  · obtain ⟨t0, rfl⟩ := rx
    exact add_int ⟨.int _, H, J.tok _, ⟨_, rfl⟩, q⟩
  · cases rx
    exact IntBool.add_bool_int ⟨.int _, H, J.tok _, ⟨_, rfl⟩, q⟩
theorem op_subN : OpR X (binaryOp .Sub) (rNum (· - ·)) := by
  rintro pn sh σ H x y v u Q J rx ry ⟨i, k, hx, rfl, q⟩
  obtain ⟨t, rfl⟩ := ry
  rcases numV_of hx with rfl | ⟨b, rfl, rfl⟩
  · obtain ⟨t0, rfl⟩ := rx
    exact sub_int ⟨.int _, H, J.tok _, ⟨_, rfl⟩, q⟩
  · cases rx
    exact IntBool.sub_bool_int ⟨.int _, H, J.tok _, ⟨_, rfl⟩, q⟩
/-- str of an int or a bool -/
theorem call_strN : CallR X (.type "str") (fun xs H Q => (∃ i : Int, xs = [.int i] ∧ i.natAbs.log2 < 1920 ∧ Q (.str (toString i)) H) ∨ ∃ b : Bool, xs = [.bl b] ∧ Q (.str (if b then "True" else "False")) H) := by
  intro pins s σ H xs us Q I r h
  rcases h with ⟨i, rfl, hz, q⟩ | ⟨b, rfl, q⟩
  · obtain ⟨u, rfl, t, rfl⟩ := vals1 r
    exact PySem.P.str_of_int hz ⟨.str _, H, I.tok _, ⟨_, rfl⟩, q⟩
  · obtain ⟨u, rfl, r1⟩ := vals1 r
    cases r1
    exact PySem.P.str_of_bool ⟨.str _, H, I.tok _, ⟨_, rfl⟩, q⟩
end
theorem iteF' {b : Bool} {A B : Prop} (h : ¬ b = true) (a : B) : if b = true then A else B := by rw [if_neg h]; exact a
theorem iteT' {b : Bool} {A B : Prop} (h : b = true) (a : A) : if b = true then A else B := by rw [if_pos h]; exact a
theorem cut_m1 (xs : List V) : cutV xs none (some (-1)) = xs.take (xs.length - 1) := by
  unfold cutV
  show (xs.drop 0).take ((if (-1 : Int) < 0 then ((-1 : Int) + (xs.length : Nat)).toNat else min (-1 : Int).toNat xs.length) - 0) = _
  rw [if_pos (by decide), List.drop_zero, Nat.sub_zero]
  congr 1
  omega
theorem cut_1 (xs : List V) : cutV xs none (some 1) = xs.take 1 := by
  unfold cutV
  show (xs.drop 0).take ((if (1 : Int) < 0 then ((1 : Int) + (xs.length : Nat)).toNat else min (1 : Int).toNat xs.length) - 0) = _
  rw [if_neg (by decide), List.drop_zero, Nat.sub_zero]
  cases xs with
  | nil => rfl
  | cons x r => rw [show min (1 : Int).toNat (x :: r).length = 1 by show min 1 _ = 1; rw [List.length_cons]; omega]
theorem cut_d1 (xs : List V) : cutV xs (some 1) none = xs.drop 1 := by
  unfold cutV
  show (xs.drop (if (1 : Int) < 0 then ((1 : Int) + (xs.length : Nat)).toNat else min (1 : Int).toNat xs.length)).take (xs.length - (if (1 : Int) < 0 then ((1 : Int) + (xs.length : Nat)).toNat else min (1 : Int).toNat xs.length)) = _
  rw [if_neg (by decide)]
  cases xs with
  | nil => rfl
  | cons x r =>
    rw [show min (1 : Int).toNat (x :: r).length = 1 by show min 1 _ = 1; rw [List.length_cons]; omega]
    show r.take _ = r
    rw [List.take_of_length_le (by rw [List.length_cons]; omega)]
/-- what stands in for a value -/
def dataM : List PyData := [.none, .bool true, .bool false, .int 0, .int 1, .int 2, .int (-1), .str "", .str "passed", .str "back", .str "outside", .str "stuck", .tuple [], .list [], .dict []]
theorem dataM_gd : ∀ d ∈ dataM, okI 0 d = true ∧ d.depth ≤ 1 ∧ d.bulk ≤ 10 := by decide +kernel
theorem gd_dataM {d : PyData} (h : d ∈ dataM) : Gd 0 1 10 d := ⟨(dataM_gd d h).1, (dataM_gd d h).2.1, (dataM_gd d h).2.2⟩
theorem gd_text {i : Int} {b : Nat} (h : i.natAbs ≤ 10 ^ 59 + b) (hb : b ≤ 1000) : Gd 0 0 70 (.str (Str.ofString (toString i))) := by
  have h1 := (int_short h hb).1
  rw [PyData.shown_int] at h1
  refine ⟨?_, Nat.le_refl 0, h1⟩
  show ((Str.ofString (toString i)).cps.toList.all fun c => decide (c < 1114112)) = true
  rw [List.all_eq_true]
  intro c hc
  rw [signs_ofString] at hc
  obtain ⟨ch, hm, rfl⟩ := List.mem_map.mp hc
  refine decide_eq_true ?_
  rcases int_sign i ch hm with hd | rfl
  · have := digit_range hd
    omega
  · decide
theorem gd_int {i : Int} {b k n : Nat} (h : i.natAbs ≤ 10 ^ 59 + b) : Gd b k n (.int i) := ⟨decide_eq_true h, Nat.zero_le _, Nat.zero_le _⟩
theorem gd_tf (b : Bool) : Gd 0 0 10 (.str (if b then "True" else "False")) := by cases b <;> exact ⟨by decide +kernel, by decide +kernel, by decide +kernel⟩
theorem gd_big : Gd 0 0 0 (.int (10 ^ (40 : Int).toNat)) := ⟨by decide +kernel, Nat.le_refl 0, Nat.le_refl 0⟩
section
variable {P : Program} {w : World} {K : PySem.W.Frag} {mg : Str → Option Value} {base : Heap}
def spMut (K : PySem.W.Frag) (k : Nat) : Sp := fun vs H Q _ => ∃ (st SA SB : Addr) (c : Nat) (v : V) (d : PyData) (b n : Nat), vs = [.ref st, v] ∧ StreamAt H st SA SB c ∧ c + 4 * (k + 1) < 2 ^ 28 ∧ Dx K [st, SA] H v d ∧ Gd b k n d ∧ b ≤ 900 ∧ n ≤ 5000 ∧
  ∀ H' v' d', StreamAt H' st SA SB (c + 4 * (k + 1)) → Fr st SA H H' → Dx K [st, SA] H' v' d' → Gd (b + 1) (k + 1) (2 * n + 100) d' → Q v' H'
/-- what the end asks -/
def tMut (K : PySem.W.Frag) (st SA : Addr) : TS := fun D σ J => ∃ (SB : Addr) (c : Nat) (v : V) (d : PyData) (b k n : Nat), σ = [some (.ref st), some v, none, none] ∧ StreamAt J st SA SB c ∧ c < 2 ^ 28 ∧ Dx K [st, SA] J v d ∧ Gd b k n d ∧ b ≤ 900 ∧ n ≤ 5000 ∧
  ∀ H' v' d', StreamAt H' st SA SB (c + 1) → Fr st SA J H' → Dx K [st, SA] H' v' d' → Gd (b + 1) (k + 1) (2 * n + 100) d' → D.rt v' H'
abbrev nMut : List Str := ["_law_stream_here", "_law_thing", "_law_spot", "_law_some"]
theorem scMut : FnScope nMut ["_law_stream_here", "_law_thing"] (defScope sMut) := ⟨rfl, rfl, rfl, by decide +kernel, rfl, by decide +kernel, by decide +kernel⟩
abbrev pMut : List Str := ["_law_stream_here", "_law_thing"]
theorem ok_mut {f : Addr} {fd : FuncData} {k : Nat} (F : Fun K "_law_mutated" "_law_mutated" sMut f fd) (T : Nm mg) (C_law_draw : Cal P w K mg base (k + 2) "_law_draw" ["_law_stream_here", "_law_many"] spDraw) {m : Nat} {sp : Sp} (C_law_mutated : Cal P w K mg base (k + 2) "_law_mutated" pMut sp) (hsp : ∀ j, m = j + 1 → ∀ vs H Q E, spMut K j vs H Q E → sp vs H Q E) : FnOk P w K mg base CX0 (k + 3) f fd pMut (spMut K m) := by
  refine F.ok scMut (fun vs H Q E h => ?_) (fun cdv A outer s H vs Q E hr h => ?_)
  · obtain ⟨st, SA, SB, c, v, d, b, n, rfl, _⟩ := h
    rfl
  · obtain ⟨st, SA, SB, c, v, d, b, n, rfl, hS, hc, hd, gd, hb, hn, q⟩ := h
    refine ⟨_, (pss_cons (ps_if (PW.pt (pw_and (pt_val (pe_callB (call_isD (av := [st, SA])) (by rfl) T.isinstance (by decide +kernel) (pa_cons (pv 1) (pa_cons (pe_bltn (v := .ty "tuple") (by rfl) T.tuple (by decide +kernel) rfl) pa_nil)))) (pw_and (pt_cmpR (op_ne0 (Nat.lt_of_succ_lt (hu_of hr))) (pv 1) (pe_tup pa_nil) (nomark _)) (pw_and1 (pt_cmpR op_gt (pe_cal C_law_draw hr (by rfl) (pa_cons (pv 0) (pa_cons pe_int pa_nil))) pe_int (nomark _))))))
      (pss_cons (ps_set (i := 2) scMut.nd rfl (.inl rfl) (pe_cal C_law_draw hr (by rfl) (pa_cons (pv 0) (pa_cons (pe_callB (call_lenK K rfl) (by rfl) T.len (by decide +kernel) (pa_cons (pv 1) pa_nil)) pa_nil))))
       (pss_one (ps_ret (pe_op op_catS (pe_op op_catS (pe_slice sl_tupS (pv 1) po_none (po_some (pv 2))) (pe_tup (pa_cons (pe_cal C_law_mutated hr (by rfl) (pa_cons (pv 0) (pa_cons (pe_ix (ix_tupK K rfl) (pv 1) (pv 2) (fun _ _ => rfl)) pa_nil))) pa_nil))) (pe_slice sl_tupS (pv 1) (po_some (pe_op op_add (pv 2) pe_int)) po_none)))))
      pss_nil)
      (pss_imp (t' := tMut K st SA) (pss_cons (ps_set (i := 3) scMut.nd rfl (.inl rfl) (pe_lst (pa_cons pe_non (pa_cons pe_bl (pa_cons pe_bl (pa_cons pe_int (pa_cons pe_int (pa_cons pe_int (pa_cons (pe_un un_neg pe_int) (pa_cons pe_str (pa_cons pe_str (pa_cons pe_str (pa_cons pe_str (pa_cons pe_str (pa_cons (pe_tup pa_nil) (pa_cons (pe_lstN pa_nil) (pa_cons pe_dnewK (pa_cons (pe_tup (pa_cons (pv 1) pa_nil)) (pa_cons (pe_op op_pow pe_int pe_int) pa_nil)))))))))))))))))))
      (pss_cons (ps_if (pt_val (pe_callB (call_isD (av := [st, SA])) (by rfl) T.isinstance (by decide +kernel) (pa_cons (pv 1) (pa_cons (pe_bltn (v := .ty "tuple") (by rfl) T.tuple (by decide +kernel) rfl) pa_nil))))
      (pss_one (ps_set (i := 3) scMut.nd rfl (.inl rfl) (pe_op op_cat (pv 3) (pe_lst (pa_cons (pe_slice sl_tupS (pv 1) (po_some pe_int) po_none) (pa_cons (pe_slice sl_tupS (pv 1) po_none (po_some (pe_un un_neg pe_int))) (pa_cons (pe_op op_catS (pv 1) (pe_slice sl_tupS (pv 1) po_none (po_some pe_int))) (pa_cons (pe_revT (pv 1)) (pa_cons (pe_callTy call_listN (by rfl) T.list (by decide +kernel) (pa_cons (pv 1) pa_nil)) pa_nil)))))))))
      (pss_one (ps_if (pt_val (pe_callB (call_isD (av := [st, SA])) (by rfl) T.isinstance (by decide +kernel) (pa_cons (pv 1) (pa_cons (pe_bltn (v := .ty "int") (by rfl) T.int (by decide +kernel) rfl) pa_nil))))
       (pss_one (ps_set (i := 3) scMut.nd rfl (.inl rfl) (pe_op op_cat (pv 3) (pe_lst (pa_cons (pe_op op_addN (pv 1) pe_int) (pa_cons (pe_op op_subN (pv 1) pe_int) (pa_cons (pe_cmpR (op_eqDK K rfl hr.units) (pv 1) pe_int (nomark _)) (pa_cons (pe_callTy call_strN (by rfl) T.str (by decide +kernel) (pa_cons (pv 1) pa_nil)) pa_nil))))))))
       pss_nil)))
      (pss_one (ps_ret (pe_ix (ix_listK K rfl) (pv 3) (pe_cal C_law_draw hr (by rfl) (pa_cons (pv 0) (pa_cons (pe_callB (call_lenK K rfl) (by rfl) T.len (by decide +kernel) (pa_cons (pv 3) pa_nil)) pa_nil))) (fun _ _ => rfl)))))) ?tl)), ?main⟩
    case tl =>
      rintro D σ J ⟨SB, c, v, d, b, k', n, rfl, hS, hc, hd, gd, hb, hn, q⟩
      refine ⟨1, rfl, le_sz (by simp), fun p1 n1 => ⟨le_sz (by simp), fun p2 n2 ns2 => fun p3 n3 => ⟨_, rfl, le_sz (by simp), fun p4 n4 => ⟨10, 40, rfl, rfl, ⟨by decide, by decide, by decide⟩, le_sz (by simp), fun l0 n5 => ?_⟩⟩⟩⟩
      have s1 := same_upd (o := .tup []) n1
      have e1 : (upd J p1 (.tup [])) p1 = some (.tup []) := upd_same
      generalize upd J p1 (.tup []) = J1 at *
      have z2 := (hS.same s1).ne n2
      have s2 := same_upd (o := .lst []) n2
      have e2 : (upd J1 p2 (.lst [])) p2 = some (.lst []) := upd_same
      generalize upd J1 p2 (.lst []) = J2 at *
      have s3 := same_upd (o := .dK []) n3
      have e3 : (upd J2 p3 (.dK [])) p3 = some (.dK []) := upd_same
      generalize upd J2 p3 (.dK []) = J3 at *
      have s4 := same_upd (o := .tup [v]) n4
      have e4 : (upd J3 p4 (.tup [v])) p4 = some (.tup [v]) := upd_same
      generalize upd J3 p4 (.tup [v]) = J4 at *
      have S4 := s1.trans (s2.trans (s3.trans s4))
      have z5 := (hS.same S4).ne n5
      have s5 := same_upd (o := .lst [V.non, .bl true, .bl false, .int 0, .int 1, .int 2, .int (-1), .str "", .str "passed", .str "back", .str "outside", .str "stuck", .ref p1, .ref p2, .ref p3, .ref p4, .int (10 ^ (40 : Int).toNat)]) n5
      have e5 : (upd J4 l0 (.lst [V.non, .bl true, .bl false, .int 0, .int 1, .int 2, .int (-1), .str "", .str "passed", .str "back", .str "outside", .str "stuck", .ref p1, .ref p2, .ref p3, .ref p4, .int (10 ^ (40 : Int).toNat)])) l0 = some (.lst [V.non, .bl true, .bl false, .int 0, .int 1, .int 2, .int (-1), .str "", .str "passed", .str "back", .str "outside", .str "stuck", .ref p1, .ref p2, .ref p3, .ref p4, .int (10 ^ (40 : Int).toNat)]) := upd_same
      have S5 := S4.trans s5
      have da : DxAll K [st, SA] (upd J4 l0 (.lst [V.non, .bl true, .bl false, .int 0, .int 1, .int 2, .int (-1), .str "", .str "passed", .str "back", .str "outside", .str "stuck", .ref p1, .ref p2, .ref p3, .ref p4, .int (10 ^ (40 : Int).toNat)])) [V.non, .bl true, .bl false, .int 0, .int 1, .int 2, .int (-1), .str "", .str "passed", .str "back", .str "outside", .str "stuck", .ref p1, .ref p2, .ref p3, .ref p4, .int (10 ^ (40 : Int).toNat)] (dataM ++ [.tuple [d], .int (10 ^ (40 : Int).toNat)]) := .cons .non (.cons (.bl _) (.cons (.bl _) (.cons (.int _) (.cons (.int _) (.cons (.int _) (.cons (.int _) (.cons (.str _) (.cons (.str _) (.cons (.str _) (.cons (.str _) (.cons (.str _) (.cons (.tup (SqT.of (s5 _ _ (s4 _ _ (s3 _ _ (s2 _ _ e1))))) .nil) (.cons (.lst (SqL.of (s5 _ _ (s4 _ _ (s3 _ _ e2)))) (by simp [ns2, z2.1.symm, z2.2.1.symm]) .nil) (.cons (.dct (s5 _ _ (s4 _ _ e3))) (.cons (.tup (SqT.of (s5 _ _ e4)) (.cons (dx_sm S5 hd) .nil)) (.cons (.int _) .nil))))))))))))))))
      have g5 : ∀ x ∈ dataM ++ [.tuple [d], .int (10 ^ (40 : Int).toNat)], Gd (b + 1) (k' + 1) (2 * n + 100) x := fun x hx => by
        rcases List.mem_append.mp hx with hx | hx
        · exact (gd_dataM hx).up (by omega) (by omega) (by omega)
        · rcases List.mem_cons.mp hx with rfl | hx
          · exact (Gd.tup (GdA.cons gd (GdA.nil (n := 0)))).up (by omega) (by omega) (by omega)
          · rw [List.mem_singleton.mp hx]
            exact gd_big.up (by omega) (by omega) (by omega)
      have lX : [V.non, .bl true, .bl false, .int 0, .int 1, .int 2, .int (-1), .str "", .str "passed", .str "back", .str "outside", .str "stuck", .ref p1, .ref p2, .ref p3, .ref p4, .int (10 ^ (40 : Int).toNat)].length = 17 := rfl
      generalize [V.non, .bl true, .bl false, .int 0, .int 1, .int 2, .int (-1), .str "", .str "passed", .str "back", .str "outside", .str "stuck", .ref p1, .ref p2, .ref p3, .ref p4, .int (10 ^ (40 : Int).toNat)] = XX at *
      generalize dataM ++ [.tuple [d], .int (10 ^ (40 : Int).toNat)] = dX at *
      generalize upd J4 l0 (.lst XX) = J5 at *
      have hS5 := hS.same S5
      have hd5 := dx_sm S5 hd
      have f5 : Fr st SA J J5 := Fr.of S5
      clear s1 s2 s3 s4 s5 e1 e2 e3 e4 n1 n2 n3 n4 n5 z2 S4 S5 ns2
      dsimp only [gName]
      refine seq_by (a := tIfS _ _ _) (fun σ' J' => ∃ (l : Addr) (ZZ : List V) (dds : List PyData), σ' = [some (.ref st), some v, none, some (.ref l)] ∧ J' l = some (.lst ZZ) ∧ (st ≠ l ∧ SA ≠ l ∧ SB ≠ l) ∧ StreamAt J' st SA SB c ∧ Fr st SA J J' ∧ DxAll K [st, SA] J' ZZ dds ∧ 0 < ZZ.length ∧ ZZ.length ≤ 100 ∧ ∀ d' ∈ dds, Gd (b + 1) (k' + 1) (2 * n + 100) d') ?_ ?_
      · intro N hN
        have end0 := hN _ _ ⟨l0, XX, dX, rfl, e5, z5, hS5, f5, da, by omega, by omega, g5⟩
        refine ⟨_, rfl, v, "tuple", d, rfl, by decide, hd5, _, rfl, ?_⟩
        cases e : isD "tuple" d with
        | true =>
          cases hd5 with
          | @tup a xs ds sq dx =>
            have gA : ∃ r', k' = r' + 1 ∧ GdA b r' n ds := by
              cases k' with
              | zero => exact gd.flat.elim
              | succ r' => exact ⟨r', rfl, gd.un⟩
            obtain ⟨r', rfl, gA⟩ := gA
            have lx : xs.length = ds.length := dx.len
            have ln := gA.len
            have big : ∀ {x y : Nat}, x ≤ 10000 → y ≤ 10000 → x + y ≤ sizeLine := fun {x y} h1 h2 => by rw [sizeLine_eq]; omega
            refine iteT ⟨_, rfl, _, rfl, 1, rfl, a, xs, rfl, sq, fun J6 p1 s6 e6 => ?_⟩
            rw [cut_d1] at e6
            replace e6 : SqT K J6 p1 (xs.drop 1) := e6
            refine ⟨_, rfl, 1, rfl, _, rfl, a, xs, rfl, sqT_sm s6 sq, fun J7 p2 s7 e7 => ?_⟩
            rw [cut_m1] at e7
            replace e7 : SqT K J7 p2 (xs.take (xs.length - 1)) := e7
            have S7 := s6.trans s7
            refine ⟨_, rfl, _, rfl, _, rfl, a, xs, rfl, sqT_sm S7 sq, fun J8 p3 s8 e8 => ?_⟩
            rw [cut_1] at e8
            refine ⟨a, p3, xs, _, rfl, rfl, sqT_sm (S7.trans s8) sq, e8, big (by omega) (by rw [List.length_take]; omega), fun J9 p4 s9 e9 => ?_⟩
            replace e9 : SqT K J9 p4 (xs ++ xs.take 1) := e9
            have S9 := S7.trans (s8.trans s9)
            refine ⟨_, rfl, a, xs, rfl, sqT_sm S9 sq, fun p5 n10 => ?_⟩
            have s10 := same_upd (o := .tup xs.reverse) n10
            have e10 : (upd J9 p5 (.tup xs.reverse)) p5 = some (.tup xs.reverse) := upd_same
            generalize upd J9 p5 (.tup xs.reverse) = J10 at *
            have S10 := S9.trans s10
            refine ⟨_, rfl, a, xs, rfl, sqT_sm S10 sq, fun l1 n11 ns11 => ?_⟩
            have z11 := (hS5.same S10).ne n11
            have s11 := same_upd (o := .lst xs) n11
            have e11 : (upd J10 l1 (.lst xs)) l1 = some (.lst xs) := upd_same
            generalize upd J10 l1 (.lst xs) = J11 at *
            refine ⟨by show 5 ≤ sizeLine; decide, fun l2 n12 => ?_⟩
            have s12 := same_upd (o := .lst [V.ref p1, .ref p2, .ref p4, .ref p5, .ref l1]) n12
            have e12 : (upd J11 l2 (.lst [V.ref p1, .ref p2, .ref p4, .ref p5, .ref l1])) l2 = some (.lst [V.ref p1, .ref p2, .ref p4, .ref p5, .ref l1]) := upd_same
            generalize upd J11 l2 (.lst [V.ref p1, .ref p2, .ref p4, .ref p5, .ref l1]) = J12 at *
            have S12 := S10.trans (s11.trans s12)
            refine ⟨l0, l2, _, _, rfl, rfl, S12 _ _ e5, e12, le_sz (by rw [lX]; simp only [List.length_cons, List.length_nil]; decide), fun l3 n13 => ?_⟩
            have z13 := (hS5.same S12).ne n13
            have s13 := same_upd (o := .lst (XX ++ [V.ref p1, .ref p2, .ref p4, .ref p5, .ref l1])) n13
            have e13 : (upd J12 l3 (.lst (XX ++ [V.ref p1, .ref p2, .ref p4, .ref p5, .ref l1]))) l3 = some (.lst (XX ++ [V.ref p1, .ref p2, .ref p4, .ref p5, .ref l1])) := upd_same
            generalize upd J12 l3 (.lst (XX ++ [V.ref p1, .ref p2, .ref p4, .ref p5, .ref l1])) = J13 at *
            have S13 := S12.trans s13
            have dx13 := dxA_sm S13 dx
            have U11 := s12.trans s13
            have U10 := s11.trans U11
            have U9 := s10.trans U10
            refine hN _ _ ⟨l3, _, dX ++ [.tuple (ds.drop 1), .tuple (ds.take (ds.length - 1)), .tuple (ds ++ ds.take 1), .tuple ds.reverse, .list ds], rfl, e13, z13, hS5.same S13, f5.trans (Fr.of S13), (dxA_sm S13 da).app (.cons (.tup (sqT_sm (s7.trans (s8.trans (s9.trans U9))) e6) (dx13.drop 1)) (.cons (.tup (sqT_sm (s8.trans (s9.trans U9)) e7) (by rw [lx]; exact dx13.take _)) (.cons (.tup (sqT_sm U9 e9) (dx13.app (dx13.take 1))) (.cons (.tup (SqT.of (U10 _ _ e10)) dx13.rev) (.cons (.lst (SqL.of (U11 _ _ e11)) (by simp [ns11, z11.1.symm, z11.2.1.symm]) dx13) .nil))))), ?_, ?_, fun x hx => ?_⟩
            · rw [List.length_append]; omega
            · rw [List.length_append]; simp only [List.length_cons, List.length_nil]; omega
            · rcases List.mem_append.mp hx with hx | hx
              · exact g5 x hx
              · obtain ⟨m1, k1, h1, t1, d1⟩ := gA.at 1
                obtain ⟨m2, k2, h2, t2, d2⟩ := gA.at (ds.length - 1)
                simp only [List.mem_cons, List.not_mem_nil, or_false] at hx
                rcases hx with rfl | rfl | rfl | rfl | rfl
                · exact (Gd.tup d1).up (by omega) (by omega) (by omega)
                · exact (Gd.tup t2).up (by omega) (by omega) (by omega)
                · exact (Gd.tup (GdA.app t1 gA)).up (by omega) (by omega) (by omega)
                · exact (Gd.tup gA.rev).up (by omega) (by omega) (by omega)
                · exact (Gd.lst gA).up (by omega) (by omega) (by omega)
          | _ => exact absurd e (by simp [isD, kindD])
        | false =>
          refine iteF ⟨_, rfl, v, "int", d, rfl, by decide, hd5, _, rfl, ?_⟩
          cases ei : isD "int" d with
          | false => exact iteF end0
          | true =>
            cases hd5 with
            | int i =>
              have hi : i.natAbs ≤ 10 ^ 59 + b := of_decide_eq_true gd.i
              refine iteT ⟨_, rfl, _, rfl, i, 1, rfl, rfl, _, rfl, i, 1, rfl, rfl, _, rfl, .int i, .int 1, .int i, .int 1, rfl, rfl, _, rfl, ?_⟩
              generalize PyData.eqv (.int i) (.int 1) = eb
              refine .inl ⟨i, rfl, (int_short hi (by omega)).2, le_sz (by simp), fun l2 n12 => ?_⟩
              have s12 := same_upd (o := .lst [V.int (i + 1), .int (i - 1), .bl eb, .str (Str.ofString (toString i))]) n12
              have e12 : (upd J5 l2 (.lst [V.int (i + 1), .int (i - 1), .bl eb, .str (Str.ofString (toString i))])) l2 = some (.lst [V.int (i + 1), .int (i - 1), .bl eb, .str (Str.ofString (toString i))]) := upd_same
              generalize upd J5 l2 (.lst [V.int (i + 1), .int (i - 1), .bl eb, .str (Str.ofString (toString i))]) = J12 at *
              refine ⟨l0, l2, _, _, rfl, rfl, s12 _ _ e5, e12, le_sz (by rw [lX]; simp only [List.length_cons, List.length_nil]; decide), fun l3 n13 => ?_⟩
              have z13 := (hS5.same s12).ne n13
              have s13 := same_upd (o := .lst (XX ++ [V.int (i + 1), .int (i - 1), .bl eb, .str (Str.ofString (toString i))])) n13
              have S13 := s12.trans s13
              refine hN _ _ ⟨l3, _, dX ++ [.int (i + 1), .int (i - 1), .bool eb, .str (Str.ofString (toString i))], rfl, upd_same, z13, hS5.same S13, f5.trans (Fr.of S13), (dxA_sm S13 da).app (.cons (.int _) (.cons (.int _) (.cons (.bl _) (.cons (.str _) .nil)))), ?_, ?_, fun x hx => ?_⟩
              · rw [List.length_append]; omega
              · rw [List.length_append]; simp only [List.length_cons, List.length_nil]; omega
              · rcases List.mem_append.mp hx with hx | hx
                · exact g5 x hx
                · simp only [List.mem_cons, List.not_mem_nil, or_false] at hx
                  rcases hx with rfl | rfl | rfl | rfl
                  · exact gd_int (by omega)
                  · exact gd_int (by omega)
                  · exact ⟨rfl, Nat.zero_le _, Nat.zero_le _⟩
                  · exact (gd_text hi (by omega)).up (by omega) (by omega) (by omega)
            | bl bb =>
              refine iteT ⟨_, rfl, _, rfl, (if bb = true then 1 else 0), 1, rfl, rfl, _, rfl, (if bb = true then 1 else 0), 1, rfl, rfl, _, rfl, .bool bb, .int 1, .bl bb, .int 1, rfl, rfl, _, rfl, ?_⟩
              generalize PyData.eqv (.bool bb) (.int 1) = eb
              refine .inr ⟨bb, rfl, le_sz (by simp), fun l2 n12 => ?_⟩
              have s12 := same_upd (o := .lst [V.int ((if bb = true then 1 else 0) + 1), .int ((if bb = true then 1 else 0) - 1), .bl eb, .str (if bb then "True" else "False")]) n12
              have e12 : (upd J5 l2 (.lst [V.int ((if bb = true then 1 else 0) + 1), .int ((if bb = true then 1 else 0) - 1), .bl eb, .str (if bb then "True" else "False")])) l2 = some (.lst [V.int ((if bb = true then 1 else 0) + 1), .int ((if bb = true then 1 else 0) - 1), .bl eb, .str (if bb then "True" else "False")]) := upd_same
              generalize upd J5 l2 (.lst [V.int ((if bb = true then 1 else 0) + 1), .int ((if bb = true then 1 else 0) - 1), .bl eb, .str (if bb then "True" else "False")]) = J12 at *
              refine ⟨l0, l2, _, _, rfl, rfl, s12 _ _ e5, e12, le_sz (by rw [lX]; simp only [List.length_cons, List.length_nil]; decide), fun l3 n13 => ?_⟩
              have z13 := (hS5.same s12).ne n13
              have s13 := same_upd (o := .lst (XX ++ [V.int ((if bb = true then 1 else 0) + 1), .int ((if bb = true then 1 else 0) - 1), .bl eb, .str (if bb then "True" else "False")])) n13
              have S13 := s12.trans s13
              refine hN _ _ ⟨l3, _, dX ++ [.int ((if bb = true then 1 else 0) + 1), .int ((if bb = true then 1 else 0) - 1), .bool eb, .str (if bb then "True" else "False")], rfl, upd_same, z13, hS5.same S13, f5.trans (Fr.of S13), (dxA_sm S13 da).app (.cons (.int _) (.cons (.int _) (.cons (.bl _) (.cons (.str _) .nil)))), ?_, ?_, fun x hx => ?_⟩
              · rw [List.length_append]; omega
              · rw [List.length_append]; simp only [List.length_cons, List.length_nil]; omega
              · rcases List.mem_append.mp hx with hx | hx
                · exact g5 x hx
                · simp only [List.mem_cons, List.not_mem_nil, or_false] at hx
                  rcases hx with rfl | rfl | rfl | rfl
                  · exact gd_int (by cases bb <;> simp <;> omega)
                  · exact gd_int (by cases bb <;> simp <;> omega)
                  · exact ⟨rfl, Nat.zero_le _, Nat.zero_le _⟩
                  · exact (gd_tf bb).up (by omega) (by omega) (by omega)
            | _ => exact absurd ei (by simp [isD, kindD])
      · rintro σ' J' ⟨l, ZZ, dds, rfl, el, zl, hSJ, fJ, dZ, lz, lz2, gZ⟩
        refine ⟨_, rfl, _, rfl, _, rfl, l, _, rfl, .inl (SqL.of el), st, SA, SB, c, _, rfl, hSJ, by omega, by show (0 : Int) < (ZZ.length : Nat); omega, by omega, fun Hx i hSx frx g0 g1 => ?_⟩
        have g1 : i < (ZZ.length : Nat) := g1
        obtain ⟨w', ew⟩ : ∃ w, ZZ[i.toNat]? = some w := ⟨_, List.getElem?_eq_getElem (by omega)⟩
        obtain ⟨dw, edw, hw⟩ := (dxA_fr hSJ frx dZ).at ew
        have ai : atI ZZ i = some w' := by
          have := atI_nat ew
          rwa [Int.toNat_of_nonneg g0] at this
        exact ⟨l, _, i, w', rfl, rfl, SqL.of (frx _ _ zl.1.symm zl.2.1.symm el), ai, q Hx w' dw hSx (fJ.trans frx) hw (gZ dw (List.mem_of_getElem? edw))⟩
    case main =>
      have end0 : ∀ {J : Hp} {c' : Nat}, StreamAt J st SA SB c' → c' ≤ c + 3 → Fr st SA H J → tMut K st SA { nx := fun _ H' => Q .non H', rt := Q } [some (.ref st), some v, none, none] J := fun {J c'} hSJ hc' fJ =>
        ⟨SB, c', v, d, b, m, n, rfl, hSJ, by omega, dx_fr hS fJ hd, gd, hb, hn, fun H' v' d' h1 h2 h3 h4 => q H' v' d' (h1.mono (by omega)) (fJ.trans h2) h3 h4⟩
      refine ⟨_, rfl, v, "tuple", d, rfl, by decide, hd, _, rfl, ?_⟩
      cases e : isD "tuple" d with
      | false => exact iteF (iteF (end0 hS (by omega) Fr.refl))
      | true =>
        cases hd with
        | @tup a xs ds sq da =>
          have hd : Dx K [st, SA] H (.ref a) (.tuple ds) := .tup sq da
          refine iteT ⟨_, rfl, Nat.zero_le _, fun e0 he0 => ⟨a, e0, xs, rfl, rfl, sqT_sm (same_upd he0) sq, SqT.of upd_same, _, rfl, ?_⟩⟩
          have s0 := same_upd (o := .tup []) he0
          have hS0 := hS.same s0
          have f0 : Fr st SA H (upd H e0 (.tup [])) := Fr.of s0
          generalize upd H e0 (.tup []) = H0 at *
          by_cases x0 : xs = []
          · subst x0
            exact iteF (iteF (end0 hS0 (by omega) f0))
          have xe : xs.isEmpty = false := by cases xs with | nil => exact absurd rfl x0 | cons _ _ => rfl
          have lp : 0 < xs.length := List.length_pos_iff.mpr x0
          rw [xe]
          cases m with
          | zero => exact gd.flat.elim
          | succ j =>
          refine iteT ⟨_, rfl, st, SA, SB, c, 5, rfl, hS0, by omega, by decide, by decide, fun H1 i1 hS1 fr1 g0 g1 => ⟨_, _, rfl, rfl, _, rfl, ?_⟩⟩
          have f1 := f0.trans fr1
          by_cases i0 : i1 > 0
          case neg => exact iteF' (by rw [decide_eq_false i0]; decide) (end0 hS1 (by omega) f1)
          refine iteT' (decide_eq_true i0) ?_
          have tk : ∀ {J : Hp}, Fr st SA H J → SqT K J a xs ∧ DxAll K [st, SA] J xs ds := fun {J} fJ => ⟨sqT_fr hS fJ sq, dxA_fr hS fJ da⟩
          have gA := gd.un
          have lx : xs.length = ds.length := da.len
          have ln := gA.len
          refine ⟨_, rfl, _, rfl, a, xs, rfl, .inr (tk f1).1, st, SA, SB, c + 1, (xs.length : Nat), rfl, hS1, by omega, by omega, by omega, fun H2 i hS2 fr2 i0 i1 => ?_⟩
          have f2 := f1.trans fr2
          obtain ⟨sq2, da2⟩ := tk f2
          obtain ⟨y, ey⟩ : ∃ y, xs[i.toNat]? = some y := ⟨xs[i.toNat]'(by omega), List.getElem?_eq_getElem _⟩
          obtain ⟨dy, edy, hdy⟩ := da2.at ey
          have ax : atI xs i = some y := by
            have := atI_nat ey
            rwa [Int.toNat_of_nonneg i0] at this
          obtain ⟨m1, l1, g1, gt1, gd1⟩ := gA.at i.toNat
          have ed : ds.drop i.toNat = dy :: ds.drop (i.toNat + 1) := by
            have lt : i.toNat < ds.length := lt_of_get edy
            rw [List.drop_eq_getElem_cons lt]
            congr 1
            rw [List.getElem?_eq_getElem lt] at edy
            exact Option.some.inj edy
          rw [ed] at gd1
          obtain ⟨m2, l2, g2, gx, gd2⟩ := gd1.un
          have ci := cut_to (xs := xs) i0 (by omega)
          have cj := cut_from (xs := xs) (i := i + 1) (by omega) (by omega)
          rw [show (i + 1).toNat = i.toNat + 1 by omega] at cj
          have big : ∀ {x y : Nat}, x ≤ 10000 → y ≤ 10000 → x + y ≤ sizeLine := fun {x y} h1 h2 => by rw [sizeLine_eq]; omega
          refine ⟨_, rfl, _, rfl, _, rfl, a, xs, rfl, sq2, fun J1 q1 t1 e1 => ?_⟩
          rw [ci] at e1
          replace e1 : SqT K J1 q1 (xs.take i.toNat) := e1
          have f21 := f2.trans (Fr.of t1)
          refine ⟨_, rfl, _, rfl, _, rfl, a, xs, i, y, rfl, rfl, (tk f21).1, ax, hsp j rfl _ _ _ _ ⟨st, SA, SB, c + 2, y, dy, b, m2, rfl, hS2.same t1, by omega, dx_sm t1 hdy, gx, hb, by omega, fun H3 w' dw hS3 fr3 hw gw => ?_⟩⟩
          have f3 := f21.trans fr3
          refine ⟨by show 1 ≤ sizeLine; decide, fun q2 hq2 => ?_⟩
          have e1' : SqT K H3 q1 (xs.take i.toNat) := sqT_fr (hS2.same t1) fr3 e1
          refine ⟨q1, q2, _, _, rfl, rfl, sqT_sm (same_upd hq2) e1', SqT.of upd_same, big (by rw [List.length_take]; omega) (by show 1 ≤ 10000; decide), fun J3 q3 t3 e3 => ?_⟩
          have T3 := (same_upd (o := .tup [w']) hq2).trans t3
          refine ⟨_, rfl, _, rfl, _, _, rfl, rfl, _, rfl, a, xs, rfl, sqT_sm T3 (tk f3).1, fun J4 q4 t4 e4 => ?_⟩
          rw [cj] at e4
          refine ⟨q3, q4, _, _, rfl, rfl, sqT_sm t4 e3, e4, ?_, fun J5 q5 t5 e5 => ?_⟩
          · rw [List.length_append]
            refine big (y := (xs.drop (i.toNat + 1)).length) ?_ (by rw [List.length_drop]; omega)
            show (xs.take i.toNat).length + 1 ≤ 10000
            rw [List.length_take]
            omega
          · have T5 := T3.trans (t4.trans t5)
            have da5 := dxA_sm T5 (tk f3).2
            refine q _ _ _ ((hS3.same T5).mono (by omega)) (f3.trans (Fr.of T5)) (.tup e5 (((da5.take _).app (.cons (dx_sm T5 hw) .nil)).app (da5.drop _))) ?_
            exact (Gd.tup (GdA.app (gd2.up (b := b + 1) (k := j + 1) (n := l2) (by omega) (by omega) (by omega)) (GdA.app (GdA.cons gw (GdA.nil (n := 0))) (gt1.up (b := b + 1) (k := j + 1) (n := m1) (by omega) (by omega) (by omega))))).up (by omega) (by omega) (by omega)
        | _ => exact absurd e (by simp [isD, kindD])
theorem cal_none {x : Str} {st : Stmt} {ps : List Str} {k : Nat} (D : DefE K mg x st ps) : Cal P w K mg base k x ps (fun _ _ _ _ => False) := D.cal fun _ _ _ => ⟨fun _ _ _ _ h => h.elim, fun _ _ _ _ _ _ _ _ _ _ _ _ _ h => h.elim⟩
theorem cal_mut (D : DefE K mg "_law_mutated" sMut pMut) (T : Nm mg) (C_law_draw : Cal P w K mg base 1 "_law_draw" ["_law_stream_here", "_law_many"] spDraw) : ∀ m : Nat, Cal P w K mg base (m + 3) "_law_mutated" pMut (spMut K m)
  | 0 => D.cal fun _ _ d => ok_mut d.F T (C_law_draw.up (by omega)) (cal_none D) (fun j e => by omega)
  | m + 1 => D.cal fun _ _ d => ok_mut d.F T (C_law_draw.up (by omega)) (cal_mut D T C_law_draw m) (fun j e vs H Q E h => by cases e; exact h)
end
end Fw
set_option maxHeartbeats 8000000
namespace Fw
open PySem PySem.Spec PyProof.Rows L2
/-! rows that may name anybody in the house -/
theorem rowF_pss {n : Int} {D : List (Int × Int)} {P G : List (Str × Int)} {r : Int} {R : List Int} {nm : Str} (hr : 0 ≤ r ∧ r < n) (h : nm ∈ psgW D G r R P) : RowF n P (.p r nm) := ⟨hr, psgW_mem h⟩
theorem rowV_get0 (x : Row) : atI (rowV x) 0 = some (.int (rowR x)) := by cases x <;> exact atI0
theorem rowF_room {n : Int} {P : List (Str × Int)} {x : Row} (h : RowF n P x) : 0 ≤ rowR x ∧ rowR x < n := by cases x <;> exact h.1
section
variable {P : Program} {w : World} {K : PySem.W.Frag} {mg : Str → Option Value} {base : Heap}
def spLPassB (K : PySem.W.Frag) : Sp := fun vs H Q _ => ∃ (h p g rl : Addr) (n : Int) (D : List (Int × Int)) (P G : List (Str × Int)) (r : Int) (R : List Int), vs = [.ref h, .ref p, .ref g, .int r, .ref rl] ∧ HouseAt H h n D ∧ Forest n D ∧ n ≤ 8 ∧ PlAt H p P ∧ Pl n P ∧ P.length ≤ 100 ∧ PlD H g G ∧ Pl n G ∧ G.length ≤ 100 ∧ (∀ x ∈ P.map (·.1), x ∈ G.map (·.1)) ∧ (SqL K H rl (vi R) ∨ SqT K H rl (vi R)) ∧
  ∀ H' l, Same H H' → H l = none → H' l = some (.lst ((psgW D G r R P).map V.str)) → Q (.ref l) H'
theorem ok_lpassB {f : Addr} {fd : FuncData} {k : Nat} (F : Fun K "_law_passing" "_law_passing" sLPassing f fd) (T : Nm mg) (Tdict : mg "dict" = none) (C_law_path : Cal P w K mg base (k + 2) "_law_path" ["_law_house", "_law_one", "_law_other"] spPath) : FnOk P w K mg base CX0 (k + 3) f fd pLPassing (spLPassB K) := by
  refine F.ok scLPassing (fun vs H Q E h => ?_) (fun cdv A outer s H vs Q E hr h => ?_)
  · obtain ⟨h, p, g, rl, n, D, P, G, r, R, rfl, _⟩ := h
    rfl
  · obtain ⟨h, p, g, rl, n, D, P, G, r, R, rfl, hH, hF, n1, hP, pl, lP, hG, plG, lG, sub, eR, q⟩ := h
    refine ⟨_, (pss_cons (ps_par (i := 5) (j := 6) (by rfl) scLPassing.nd rfl rfl (by decide) rfl rfl (pa_cons (pe_callTy (call_dictT rfl) (by rfl) Tdict (by decide +kernel) (pa_cons (pv 2) pa_nil)) (pa_cons (pe_lst pa_nil) pa_nil)) (by rfl))
      (pss_cons (ps_for PassesOwn.never rfl (pi_tupK K rfl (pv 1)) (pg_tup (by rfl) (pgs_cons (pg_name (i := 7) scLPassing.nd rfl (.inl rfl)) (pgs_cons (pg_name (i := 8) scLPassing.nd rfl (.inl rfl)) pgs_nil)))
      (pss_one (ps_if (PW.pt (pw_and (pt_cmpR (op_inK K rfl) (pv 8) (pv 4) (by rfl)) (pw_and (pt_cmpR (op_notInK K rfl) (pv 3) (pe_tup (pa_cons (pv 8) (pa_cons (pe_dget (hu_of hr) (pv 5) (pv 7) (fun _ _ => rfl)) pa_nil))) (by rfl)) (pw_and1 (pt_cmpR (op_inK K rfl) (pv 3) (pe_orT (pe_cal C_law_path hr (by rfl) (pa_cons (pv 0) (pa_cons (pv 8) (pa_cons (pe_dget (hu_of hr) (pv 5) (pv 7) (fun _ _ => rfl)) pa_nil)))) (pe_one (pe_tup pa_nil))) (by rfl))))))
       (pss_one (ps_expr (pe_bm PySem.F.plainAttrs_list PySem.F.slot_list_append PySem.F.type_list_append mt_append (pv 6) (pa_cons (pv 7) pa_nil))))
       pss_nil)))
      (pss_one (ps_ret (pv 6))))), ?_⟩
    refine ⟨_, rfl, g, G, rfl, hG, plG.nodup, by omega, fun d hd => ⟨Nat.zero_le _, fun L hL => ⟨_, _, rfl, ?_⟩⟩⟩
    have s0 := same_upd (o := .dK (dkI G)) hd
    have s1 := s0.trans (same_upd (o := .lst []) hL)
    have ed1 : (upd (upd H d (.dK (dkI G))) L (.lst [])) d = some (.dK (dkI G)) := same_upd hL _ _ upd_same
    have eL1 : (upd (upd H d (.dK (dkI G))) L (.lst [])) L = some (.lst []) := upd_same
    have fL : H L = none := s0.free hL
    have nLd : L ≠ d := fun e => by rw [e, upd_same] at hL; cases hL
    generalize upd (upd H d (.dK (dkI G))) L (.lst []) = H1 at *
    refine ⟨_, rfl, p, rfl, (hP.same s1).sq, for_pl hP (fun i σ' H' => ∃ y7 y8, σ' = [some (.ref h), some (.ref p), some (.ref g), some (.int r), some (.ref rl), some (.ref d), some (.ref L), y7, y8] ∧ Same H H' ∧ H' d = some (.dK (dkI G)) ∧ H' L = some (.lst ((psgW D G r R (P.take i)).map V.str)))
      ⟨_, _, rfl, s1, ed1, eL1⟩ ?_ ?_ ?_⟩
    · rintro k σ' H' ⟨_, _, _, s', _⟩
      exact Tk.of s'
    · rintro k nm c σ' H2 hk ⟨y7, y8, rfl, s2, ed2, eL2⟩
      have mk' := List.mem_of_getElem? hk
      obtain ⟨t, mt⟩ := key_val (sub nm (List.mem_map.mpr ⟨_, mk', rfl⟩))
      have dg : ∀ {H' : Hp}, H' d = some (.dK (dkI G)) → DGet H' d (.str nm) (some (.int t)) := fun {H'} e => .inl ⟨_, Sum.inr nm, .inl e, rfl, (valV_dkI plG.nodup mt).symm⟩
      have es := psgW_snoc (D := D) (r := r) (R := R) plG.nodup hk mt
      have rc := pl.rm _ mk'
      have rt := plG.rm _ mt
      refine if_by (fun b H' => Same H2 H' ∧ (b = true ↔ (c ∈ R ∧ pas D c t r))) ?_ ?_ ?_
      · rintro H3 ⟨s3, z⟩
        have eL3 := s3 _ _ eL2
        rw [if_pos (z.mp rfl)] at es
        refine ⟨_, rfl, .inl ⟨rfl, _, SqL.of eL3⟩, _, rfl, L, _, _, rfl, rfl, eL3, ?_, _, _, rfl, same_put (s2.trans s3) fL, ?_, ?_⟩
        · rw [List.length_map]
          have h1 := psgW_len D G r R (P.take k)
          rw [List.length_take] at h1
          exact small1000 (by omega)
        · rw [upd_ne nLd.symm]
          exact s3 _ _ ed2
        · rw [upd_same, es, vs_app]
          rfl
      · rintro H3 ⟨s3, z⟩
        rw [if_neg (fun y => by cases z.mpr y), List.append_nil] at es
        refine ⟨_, _, rfl, s2.trans s3, s3 _ _ ed2, ?_⟩
        rw [es]
        exact s3 _ _ eL2
      · intro Q' hQ'
        refine ⟨_, rfl, _, rfl, rl, _, rfl, (eR.elim (fun e => .inl (sqL_sm s2 e)) fun e => .inr (sqT_sm s2 e)), rfl, flat_vi _, _, rfl, ?_⟩
        rw [if_neg (by decide), inV_vi]
        by_cases cR : c ∈ R
        case neg =>
          rw [decide_eq_false cR]
          exact iteF (hQ' _ _ ⟨Same.refl _, ⟨fun e => (by cases e), fun e => absurd e.1 cR⟩⟩)
        rw [decide_eq_true cR]
        refine iteT ⟨_, rfl, _, rfl, _, rfl, _, rfl, d, _, rfl, dg ed2, by show 2 ≤ sizeLine; decide, fun u hu => ⟨u, _, rfl, .inr (SqT.of upd_same), rfl, rfl, _, rfl, ?_⟩⟩
        have s3 := same_upd (o := .tup [.int c, .int t]) hu
        rw [if_pos rfl, show inV (.int r) [V.int c, V.int t] = decide (r ∈ [c, t]) from inV_vi r [c, t]]
        by_cases zz : r ∈ [c, t]
        · rw [decide_eq_true zz]
          refine iteF (hQ' _ _ ⟨s3, ⟨fun e => (by cases e), fun ⟨_, w, _, _, n1, n2⟩ => ?_⟩⟩)
          rcases List.mem_cons.mp zz with e | e
          · exact absurd e n1
          · exact absurd (List.mem_singleton.mp e) n2
        · rw [decide_eq_false zz]
          have nz : r ≠ c ∧ r ≠ t := ⟨fun e => zz (by rw [e]; exact List.mem_cons_self ..), fun e => zz (by rw [e]; exact List.mem_cons_of_mem _ (List.mem_singleton.mpr rfl))⟩
          refine iteT ⟨_, rfl, _, rfl, _, rfl, _, rfl, _, rfl, d, _, rfl, dg (s3 _ _ ed2), h, n, D, c, t, rfl, (hH.same s2).same s3, hF, n1, rc.1, rc.2, rt.1, rt.2, fun H4 s4 no => ?_, fun H4 v w s4 sp lw e4 => ?_⟩
          · refine ⟨false, rfl, iteF ⟨Nat.zero_le _, fun v hv => ⟨v, _, rfl, .inr (SqT.of (xs := vi []) upd_same), rfl, flat_vi _, _, rfl, ?_⟩⟩⟩
            rw [if_neg (by decide), inV_vi]
            exact hQ' _ _ ⟨s3.trans (s4.trans (same_upd hv)), ⟨fun e => (by cases e), fun ⟨_, w, hw, _⟩ => absurd hw (no w)⟩⟩
          · have lw0 : w ≠ [] := List.ne_nil_of_mem sp.head
            refine ⟨true, .inr (.inl ⟨_, SqT.of e4, ?_⟩), iteT ⟨v, _, rfl, .inr (SqT.of e4), rfl, flat_vi _, _, rfl, ?_⟩⟩
            · cases w with
              | nil => exact absurd rfl lw0
              | cons x w => rfl
            · rw [if_neg (by decide), inV_vi]
              refine hQ' _ _ ⟨s3.trans s4, ?_⟩
              rw [decide_eq_true_eq, pas_of hF sp]
              exact ⟨fun m => ⟨cR, m, nz⟩, fun m => m.2.1⟩
    · rintro σ' H2 ⟨y7, y8, rfl, s2, ed2, eL2⟩
      rw [List.take_length] at eL2
      exact ⟨_, rfl, q _ L s2 fL eL2⟩

def spLAny (K : PySem.W.Frag) : Sp := fun vs H Q _ => ∃ (s A B h p g rl : Addr) (c : Nat) (n : Int) (D : List (Int × Int)) (P G : List (Str × Int)) (C : List Int), vs = [.ref s, .ref h, .ref p, .ref g, .ref rl] ∧ StreamAt H s A B c ∧ c + 100 < 2 ^ 28 ∧ HouseAt H h n D ∧ Forest n D ∧ n ≤ 8 ∧ PlAt H p P ∧ Pl n P ∧ P.length ≤ 60 ∧ P ≠ [] ∧ PlD H g G ∧ Pl n G ∧ G.length ≤ 100 ∧ (∀ x ∈ P.map (·.1), x ∈ G.map (·.1)) ∧ SqT K H rl (vi C) ∧ C.length ≤ 8 ∧ (∀ r ∈ C, 0 ≤ r ∧ r < n) ∧
  ∀ H' t rs, StreamAt H' s A B (c + 40) → Fr s A H H' → CtA H' t rs → rs.length ≤ 8 → (∀ x ∈ rs, RowF n P x) → Q (.ref t) H'
abbrev nLAny : List Str := ["_law_stream_here", "_law_house", "_law_placement", "_law_target", "_law_region", "_law_held", "_law_found", "_law_name", "_law_room", "_law_row", "_law_names_here"]
theorem scLAny : FnScope nLAny ["_law_stream_here", "_law_house", "_law_placement", "_law_target", "_law_region"] (defScope sLAny) := ⟨rfl, rfl, rfl, by decide +kernel, rfl, by decide +kernel, by decide +kernel⟩
abbrev pLAny : List Str := ["_law_stream_here", "_law_house", "_law_placement", "_law_target", "_law_region"]
theorem ok_lany {f : Addr} {fd : FuncData} {k : Nat} (F : Fun K "_law_any_rows" "_law_any_rows" sLAny f fd) (T : Nm mg) (C_law_random_rows : Cal P w K mg base k "_law_random_rows" pLRR (spLRR K)) (C_law_passing : Cal P w K mg base k "_law_passing" pLPassing (spLPassB K)) (C_law_draw : Cal P w K mg base k "_law_draw" pDraw spDraw) : FnOk P w K mg base CX0 (k + 1) f fd pLAny (spLAny K) := by
  refine F.ok scLAny (fun vs H Q E h => ?_) (fun cdv Ar outer sh H vs Q E hr h => ?_)
  · obtain ⟨s, A, B, h, p, g, rl, c, n, D, P, G, C, rfl, _⟩ := h
    rfl
  · obtain ⟨s, A, B, h, p, g, rl, c, n, D, P, G, C, rfl, hS, hc, hH, hF, n1, hP, pl, lP, neP, hG, plG, lG, sub, hC, lC, rC, q⟩ := h
    refine ⟨_, (pss_cons (ps_par (i := 5) (j := 6) (by rfl) scLAny.nd rfl rfl (by decide) rfl rfl (pa_cons (pe_lc (own := [("_law_name", 7), ("_law_room", 8)]) (g := gTup K 2 (gCons (gName 7) (gCons (gName 8) gNil))) (by rfl) scLAny.nd (pi_tupK K rfl (pv 2))
 (blkOk_by (own := [("_law_name", 7), ("_law_room", 8)]) (N := nLAny) (sc := defScope sLAny) (by decide +kernel))
 (fun _ _ _ _ _ => (pg_tup (by rfl) (pgs_cons (pg_name (i := 7) scLAny.nd rfl (.inl rfl)) (pgs_cons (pg_name (i := 8) scLAny.nd rfl (.inl rfl)) pgs_nil)))) (fun _ _ _ _ _ => pts_nil) (fun _ _ _ _ _ => (pv 8))) (pa_cons (pe_lst pa_nil) pa_nil)) (by rfl))
      (pss_cons (ps_for PassesOwn.never rfl (pi_tupK K rfl (pe_cal C_law_random_rows hr (by rfl) (pa_cons (pv 0) (pa_cons (pv 1) (pa_cons (pv 2) (pa_cons (pv 3) (pa_cons (pv 4) pa_nil))))))) (pg_name (i := 9) scLAny.nd rfl (.inl rfl))
      (pss_cons (ps_set (i := 10) scLAny.nd rfl (.inl rfl) (pe_cal C_law_passing hr (by rfl) (pa_cons (pv 1) (pa_cons (pv 2) (pa_cons (pv 3) (pa_cons (pe_ix (ix_tupK K rfl) (pv 9) pe_int (fun _ _ => rfl)) (pa_cons (pv 5) pa_nil)))))))
       (pss_cons (ps_if (PW.pt (pw_and (pt_cmpR (op_neL0 (Nat.lt_of_succ_lt (hu_of hr))) (pv 10) (pe_lst pa_nil) (nomark _)) (pw_and1 (pt_cmpR op_gt (pe_cal C_law_draw hr (by rfl) (pa_cons (pv 0) (pa_cons pe_int pa_nil))) pe_int (nomark _)))))
       (pss_one (ps_set (i := 9) scLAny.nd rfl (.inl rfl) (pe_tup (pa_cons (pe_ix (ix_tupK K rfl) (pv 9) pe_int (fun _ _ => rfl)) (pa_cons pe_str (pa_cons (pe_ix (ix_listK K rfl) (pv 10) (pe_cal C_law_draw hr (by rfl) (pa_cons (pv 0) (pa_cons (pe_callB (call_lenK K rfl) (by rfl) T.len (by decide +kernel) (pa_cons (pv 10) pa_nil)) pa_nil))) (fun _ _ => rfl)) pa_nil))))))
       pss_nil)
       (pss_one (ps_expr (pe_bm PySem.F.plainAttrs_list PySem.F.slot_list_append PySem.F.type_list_append mt_append (pv 6) (pa_cons (pv 9) pa_nil)))))))
      (pss_one (ps_ret (pe_callTy (call_tupleK K rfl) (by rfl) T.tuple (by decide +kernel) (pa_cons (pv 6) pa_nil)))))), ?_⟩
    refine ⟨_, rfl, p, rfl, hP.sq, fun L hL => lc_pl hP (fun i H' => Same H H' ∧ H' L = some (.lst (vi ((P.take i).map (·.2))))) ⟨same_upd hL, upd_same⟩ (fun _ _ h => Tk.of h.1) ?_ ?_⟩
    · rintro i nm r H2 hk ⟨s2, e2⟩
      refine ⟨rfl, tYes_q (iteT ⟨_, rfl, _, e2, ?_, same_put s2 hL, ?_⟩)⟩
      · rw [List.length_map, List.length_map, List.length_take]
        exact small1000 (by omega)
      · rw [upd_same, take_snoc hk, List.map_append, vi_app]
        rfl
    · rintro H1 ⟨s1, e1⟩
      rw [List.take_length] at e1
      refine ⟨Nat.zero_le _, fun W hW => ⟨_, _, rfl, ?_⟩⟩
      dsimp only
      have zL := hS.ne hL
      have zW := (hS.same s1).ne hW
      have LW : L ≠ W := ne_of_none e1 hW
      have s2 := s1.trans (same_upd (o := .lst []) hW)
      have e2 := same_upd (o := .lst []) hW _ _ e1
      have eW : (upd H1 W (.lst [])) W = some (.lst []) := upd_same
      generalize upd H1 W (.lst []) = H2 at *
      have hS2 := hS.same s2
      refine ⟨_, rfl, _, rfl, _, rfl, _, rfl, _, rfl, s, A, B, h, p, g, rl, c, n, D, P, G, C, rfl, hS2, by omega, hH.same s2, hF, n1, hP.same s2, pl, lP, neP, hG.same s2, plG, lG, sub, sqT_sm s2 hC, lC, rC, fun H3 t rs hS3 fr3 ct mr rf => ?_⟩
      have f3 := (Fr.of s2).trans fr3
      have e3 := fr3 _ _ zL.1.symm zL.2.1.symm e2
      have eW3 := fr3 _ _ zW.1.symm zW.2.1.symm eW
      have hH3 := hH.fr hS f3
      have hP3 := hP.fr hS f3
      have hG3 := hG.fr hS f3
      have lrs : rs.length ≤ 8 := by
        have := congrArg List.length mr
        rw [List.length_map] at this
        have := unwL_len P G C
        omega
      obtain ⟨as, a1, rfl, a3⟩ := ct
      rw [List.length_map] at lrs
      have tkr : ∀ {J : Hp}, Fr s A H3 J → J t = some (.tup (as.map fun x => V.ref x.1)) ∧ ∀ x ∈ as, J x.1 = some (.tup (rowV x.2)) := fun {J} f => ⟨f.tup hS3 a1, fun x hx => f.tup hS3 (a3 x hx)⟩
      refine ⟨t, rfl, ⟨_, SqT.of a1⟩, for_tup (K := K) (a := t) (xs := as.map fun x => V.ref x.1) (fun i σ' H' => ∃ rs' y7 y8 y9 y10, σ' = [some (.ref s), some (.ref h), some (.ref p), some (.ref g), some (.ref rl), some (.ref L), some (.ref W), y7, y8, y9, y10] ∧ StreamAt H' s A B (c + 20 + 2 * i) ∧ Fr s A H H' ∧ (H' t = some (.tup (as.map fun x => V.ref x.1)) ∧ ∀ x ∈ as, H' x.1 = some (.tup (rowV x.2))) ∧ H' L = some (.lst (vi (P.map (·.2)))) ∧ LRows H' W rs' ∧ rs'.length = i ∧ ∀ x ∈ rs', RowF n P x)
        ⟨[], _, _, _, _, rfl, hS3, f3, ⟨a1, a3⟩, e3, ⟨[], eW3, rfl, fun x hx => nomatch hx⟩, rfl, fun x hx => nomatch hx⟩ (fun i σ' H' _ hh => ?_) ?_ ?_⟩
      · obtain ⟨_, _, _, _, _, _, _, _, e', _⟩ := hh
        exact SqT.of e'.1
      · rintro i x σ' H4 hx ⟨rs', y7, y8, y9, y10, rfl, hS4, fr4, at4, eL4, hR4, lr, rf'⟩
        obtain ⟨y, hy, rfl⟩ := get_row hx
        have my := List.mem_of_getElem? hy
        have il := lt_of_get hy
        have rfy := rf y.2 (List.mem_map_of_mem (f := (·.2)) my)
        have ey := at4.2 y my
        refine ⟨_, rfl, _, rfl, _, rfl, _, rfl, y.1, _, _, _, rfl, rfl, SqT.of ey, rowV_get0 y.2, _, rfl, h, p, g, L, n, D, P, G, rowR y.2, _, rfl, hH.fr hS fr4, hF, n1, hP.fr hS fr4, pl, by omega, hG.fr hS fr4, plG, lG, sub, .inl (SqL.of eL4), fun H5 l5 s5 f5 e5 => ?_⟩
        have z5 := hS4.ne f5
        have hS5 := hS4.same s5
        have fr5 := fr4.trans (Fr.of s5)
        have at5 : H5 t = some (.tup (as.map fun x => V.ref x.1)) ∧ ∀ x ∈ as, H5 x.1 = some (.tup (rowV x.2)) := ⟨s5 _ _ at4.1, fun x hx => s5 _ _ (at4.2 x hx)⟩
        have eL5 := s5 _ _ eL4
        have hR5 := hR4.same s5
        have np : (psgW D G (rowR y.2) (P.map (·.2)) P).length ≤ 60 := Nat.le_trans (psgW_len ..) lP
        have npf : ∀ nm ∈ psgW D G (rowR y.2) (P.map (·.2)) P, RowF n P (.p (rowR y.2) nm) := fun nm hm => rowF_pss (rowF_room rfy) hm
        generalize psgW D G (rowR y.2) (P.map (·.2)) P = nms at *
        dsimp only [gName]
        refine seq_by (a := tIfS _ _ _) (fun σ' H' => ∃ (b : Addr) (x' : Row), σ' = [some (.ref s), some (.ref h), some (.ref p), some (.ref g), some (.ref rl), some (.ref L), some (.ref W), y7, y8, some (.ref b), some (.ref l5)] ∧ StreamAt H' s A B (c + 20 + 2 * (i + 1)) ∧ Fr s A H H' ∧ (H' t = some (.tup (as.map fun x => V.ref x.1)) ∧ ∀ x ∈ as, H' x.1 = some (.tup (rowV x.2))) ∧ H' L = some (.lst (vi (P.map (·.2)))) ∧ LRows H' W rs' ∧ H' b = some (.tup (rowV x')) ∧ RowF n P x') ?_ ?_
        · intro N hN
          refine ⟨_, rfl, Nat.zero_le _, fun O hO => ⟨l5, O, _, rfl, rfl, SqL.of (same_upd hO _ _ e5), SqL.of upd_same, _, rfl, ?_⟩⟩
          have s6 := same_upd (o := .lst []) hO
          have e6 := s6 _ _ e5
          have hS6 := hS5.same s6
          have fr6 := fr5.trans (Fr.of s6)
          have at6 : (upd H5 O (.lst [])) t = some (.tup (as.map fun x => V.ref x.1)) ∧ ∀ x ∈ as, (upd H5 O (.lst [])) x.1 = some (.tup (rowV x.2)) := ⟨s6 _ _ at5.1, fun x hx => s6 _ _ (at5.2 x hx)⟩
          have eL6 := s6 _ _ eL5
          have hR6 := hR5.same s6
          generalize upd H5 O (.lst []) = H6 at *
          have stay : ∀ {J : Hp} {c' : Nat}, StreamAt J s A B c' → c' ≤ c + 20 + 2 * (i + 1) → Fr s A H6 J → N [some (.ref s), some (.ref h), some (.ref p), some (.ref g), some (.ref rl), some (.ref L), some (.ref W), y7, y8, some (.ref y.1), some (.ref l5)] J := fun {J c'} hJ hc' fJ =>
            hN _ _ ⟨y.1, y.2, rfl, hJ.mono hc', fr6.trans fJ, ⟨fJ.tup hS6 at6.1, fun x hx => fJ.tup hS6 (at6.2 x hx)⟩, fJ _ _ zL.1.symm zL.2.1.symm eL6, hR6.fr hS6 fJ zW, fJ.tup hS6 (at6.2 y my), rfy⟩
          cases em : (nms.map V.str).isEmpty with
          | true => exact iteF (iteF (stay hS6 (by omega) Fr.refl))
          | false =>
            have l0 : 0 < nms.length := by
              cases nms with
              | nil => cases em
              | cons _ _ => exact Nat.succ_pos _
            refine iteT ⟨_, rfl, s, A, B, _, 3, rfl, hS6, by omega, by decide, by decide, fun H7 r3 hS7 fr7 r30 r31 => ⟨_, _, rfl, rfl, _, rfl, ?_⟩⟩
            refine ite2 (fun z => ?_) (fun z => stay hS7 (by omega) fr7)
            have at7 : H7 t = some (.tup (as.map fun x => V.ref x.1)) ∧ ∀ x ∈ as, H7 x.1 = some (.tup (rowV x.2)) := ⟨fr7.tup hS6 at6.1, fun x hx => fr7.tup hS6 (at6.2 x hx)⟩
            have e7 := fr7 _ _ z5.1.symm z5.2.1.symm e6
            refine ⟨_, rfl, y.1, _, _, _, rfl, rfl, SqT.of (at7.2 y my), rowV_get0 y.2, _, rfl, _, rfl, _, rfl, l5, _, rfl, .inl (SqL.of e7), s, A, B, _, _, rfl, hS7, by omega, by rw [List.length_map]; omega, by rw [List.length_map]; omega, fun H8 r2 hS8 fr8 r20 r21 => ?_⟩
            have e8 := fr8 _ _ z5.1.symm z5.2.1.symm e7
            rw [List.length_map] at r21
            obtain ⟨nn, mn, an⟩ := at_str (xs := nms) r20 r21
            refine ⟨l5, _, r2, _, rfl, rfl, SqL.of e8, an, by show 3 ≤ sizeLine; decide, fun b hb => ?_⟩
            have sb := same_upd (o := .tup [.int (rowR y.2), .str "passed", .str nn]) hb
            have f68 := fr7.trans (fr8.trans (Fr.of sb))
            exact hN _ _ ⟨b, .p (rowR y.2) nn, rfl, (hS8.same sb).mono (by omega), fr6.trans f68, ⟨f68.tup hS6 at6.1, fun x hx => f68.tup hS6 (at6.2 x hx)⟩, f68 _ _ zL.1.symm zL.2.1.symm eL6, hR6.fr hS6 f68 zW, upd_same, npf nn mn⟩
        · rintro σ' H6 ⟨b, x', rfl, hS6, fr6, at6, eL6, hR6, eb, rfx⟩
          obtain ⟨as6, d1, d2, d3⟩ := id hR6
          have tw : Tk H6 H6 := Tk.refl
          obtain ⟨acc, c1, c2, c3⟩ := hR6.snoc eb
          refine ⟨_, rfl, .inl ⟨rfl, _, SqL.of c1⟩, _, rfl, W, acc, _, rfl, rfl, c1, by rw [c2, lr]; exact small1000 (by omega), rs' ++ [x'], _, _, _, _, rfl, hS6.put zW, ?_, ?_, ?_, c3, by rw [List.length_append, lr]; rfl, fun z hz => ?_⟩
          · exact fr6.put (s1.free hW)
          · exact ⟨by rw [upd_ne (ne_of at6.1 c1 (by intro q; cases q))]; exact at6.1, fun x hx => by rw [upd_ne (ne_of (at6.2 x hx) c1 (by intro q; cases q))]; exact at6.2 x hx⟩
          · rw [upd_ne LW]
            exact eL6
          · rcases List.mem_append.mp hz with hz | hz
            · exact rf' z hz
            · rw [List.mem_singleton.mp hz]
              exact rfx
      · rintro σ' H4 ⟨rs', y7, y8, y9, y10, rfl, hS4, fr4, at4, eL4, hR4, lr, rf'⟩
        rw [List.length_map] at lr hS4
        obtain ⟨xs, x1, x2, x3⟩ := hR4.tup
        exact ⟨_, rfl, W, _, rfl, .inl ⟨SqL.of x1, fun t' ht => q _ t' rs' ((hS4.same (same_upd ht)).mono (by omega)) (fr4.trans (Fr.of (same_upd ht))) (x3 t' ht) (by omega) rf'⟩⟩
end
end Fw
set_option maxHeartbeats 8000000
namespace Fw
open PySem PySem.Spec PyProof.Rows L2
/-! what is shown to is_certificate (k25) -/
theorem dxA_ppsY {K : PySem.W.Frag} {av : List Addr} {H : Hp} : ∀ {ps : List (Addr × Str × Int)}, (∀ p ∈ ps, H p.1 = some (.tup [.str p.2.1, .int p.2.2])) → DxAll K av H (ps.map fun p => V.ref p.1) ((ps.map (·.2)).map pp)
  | [], _ => .nil
  | p :: ps, h => .cons (.tup (SqT.of (h p (List.mem_cons_self ..))) (.cons (.str _) (.cons (.int _) .nil))) (dxA_ppsY fun q hq => h q (List.mem_cons_of_mem _ hq))
theorem PlAt.dxy {K : PySem.W.Frag} {av : List Addr} {H : Hp} {p : Addr} {P : List (Str × Int)} (x : PlAt H p P) : Dx K av H (.ref p) (pld P) := by
  obtain ⟨ps, h1, h2, h3⟩ := x
  rw [h2]
  exact .tup h1.sq (dxA_ppsY h3)
theorem doors_dxY {K : PySem.W.Frag} {av : List Addr} {H : Hp} : ∀ {ps : List (Addr × Int × Int)}, (∀ p ∈ ps, H p.1 = some (.tup [.int p.2.1, .int p.2.2])) → DxAll K av H (ps.map fun p => V.ref p.1) ((ps.map (·.2)).map pd)
  | [], _ => .nil
  | p :: ps, h => .cons (.tup (SqT.of (h p List.mem_cons_self)) (.cons (.int _) (.cons (.int _) .nil))) (doors_dxY fun x hx => h x (List.mem_cons_of_mem _ hx))
theorem HouseAt.dxy {K : PySem.W.Frag} {av : List Addr} {H : Hp} {h : Addr} {n : Int} {D : List (Int × Int)} (x : HouseAt H h n D) : Dx K av H (.ref h) (hd n D) := by
  obtain ⟨q, ps, h1, h2, rfl, h4⟩ := x
  exact .tup (SqT.of h1) (.cons (.int _) (.cons (.tup (SqT.of h2) (doors_dxY h4)) .nil))
theorem int_gdY {i : Int} (h0 : 0 ≤ i) (h1 : i ≤ 1000) : Gd 0 0 0 (.int i) := by
  refine gd_int ?_
  have : (1000 : Nat) ≤ 10 ^ 59 := by decide +kernel
  omega
theorem nam_gdY {z : Str} (h : Nam z) : Gd 0 0 8 (.str z) := by
  refine ⟨?_, Nat.zero_le _, h.2.1⟩
  show (z.cps.toList.all fun c => decide (c < 1114112)) = true
  rw [List.all_eq_true]
  intro c hc
  have := h.2.2 c hc
  exact decide_eq_true (by omega)
theorem two_gdY {a b : PyData} {m l : Nat} (h : Gd 0 0 m a) (k : Gd 0 0 l b) : Gd 0 1 (m + l + 2) (.tuple [a, b]) := (Gd.tup (GdA.cons h (GdA.cons k (GdA.nil (n := 0))))).up (Nat.le_refl _) (Nat.le_refl _) (by omega)
theorem each_gdY {α : Type} {f : α → PyData} {k m : Nat} : ∀ {xs : List α}, (∀ x ∈ xs, Gd 0 k m (f x)) → GdA 0 k ((m + 1) * xs.length) (xs.map f)
  | [], _ => GdA.nil.up (Nat.le_refl _) (Nat.le_refl _) (Nat.zero_le _)
  | x :: xs, h => by
    rw [List.map_cons]
    exact (GdA.cons (h x List.mem_cons_self) (each_gdY fun y hy => h y (List.mem_cons_of_mem _ hy))).up (Nat.le_refl _) (Nat.le_refl _) (by rw [List.length_cons, Nat.mul_succ]; omega)
theorem pl_gdY {n : Int} {P : List (Str × Int)} (pl : Pl n P) (n8 : n ≤ 8) (l : P.length ≤ 100) : Gd 0 2 1100 (pld P) := by
  have := each_gdY (f := pp) (k := 1) (m := 10) (xs := P) fun x hx => two_gdY (nam_gdY (pl.nm.nam _ (List.mem_map_of_mem (f := (·.1)) hx))) (int_gdY (pl.rm x hx).1 (by have := (pl.rm x hx).2; omega))
  exact (Gd.tup this).up (Nat.le_refl _) (Nat.le_refl _) (by omega)
theorem hs_gdY {n : Int} {D : List (Int × Int)} (f : Forest n D) (n0 : 0 ≤ n) (n1 : n ≤ 8) : Gd 0 3 40 (hd n D) := by
  have := each_gdY (f := pd) (k := 1) (m := 2) (xs := D) fun d hd => by
    have := f.ends (a := d.1) (b := d.2) hd
    exact two_gdY (int_gdY (by omega) (by omega)) (int_gdY (by omega) (by omega))
  have hl : D.length ≤ 8 := f.len
  exact (Gd.tup (GdA.cons ((int_gdY n0 (by omega)).up (Nat.le_refl 0) (Nat.zero_le 2) (Nat.le_refl 0)) (GdA.cons (Gd.tup this) (GdA.nil (n := 0))))).up (Nat.le_refl _) (Nat.le_refl _) (by omega)
theorem rooms_gdY {C : List Int} (h : ∀ r ∈ C, 0 ≤ r ∧ r < 8) (l : C.length ≤ 8) : Gd 0 1 8 (.tuple (C.map .int)) := by
  have := each_gdY (f := PyData.int) (k := 0) (m := 0) (xs := C) fun r hr => int_gdY (h r hr).1 (by have := (h r hr).2; omega)
  exact (Gd.tup this).up (Nat.le_refl _) (Nat.le_refl _) (by omega)
theorem dxA_vi {K : PySem.W.Frag} {av : List Addr} {H : Hp} : ∀ {C : List Int}, DxAll K av H (vi C) (C.map .int)
  | [] => .nil
  | r :: C => .cons (.int r) dxA_vi
theorem row_gdY {n : Int} {P : List (Str × Int)} (pl : Pl n P) (n8 : n ≤ 8) {x : Row} (h : RowF n P x) : Gd 0 1 20 (rowD x) := by
  cases x with
  | p r nm =>
    obtain ⟨h1, h2⟩ := h
    exact (Gd.tup (GdA.cons (int_gdY h1.1 (by omega)) (GdA.cons (show Gd 0 0 6 (.str "passed") from ⟨by decide +kernel, by decide +kernel, by decide +kernel⟩) (GdA.cons (nam_gdY (pl.nm.nam _ h2)) (GdA.nil (n := 0)))))).up (Nat.le_refl _) (Nat.le_refl _) (by omega)
  | b r v =>
    obtain ⟨h1, h2⟩ := h
    exact (Gd.tup (GdA.cons (int_gdY h1.1 (by omega)) (GdA.cons (show Gd 0 0 6 (.str "back") from ⟨by decide +kernel, by decide +kernel, by decide +kernel⟩) (GdA.cons (int_gdY h2.1 (by omega)) (GdA.nil (n := 0)))))).up (Nat.le_refl _) (Nat.le_refl _) (by omega)
theorem cert_gdY {n : Int} {P : List (Str × Int)} (pl : Pl n P) (n8 : n ≤ 8) {rs : List Row} (l : rs.length ≤ 8) (h : ∀ x ∈ rs, RowF n P x) : Gd 0 2 200 (certD rs) := (Gd.tup (each_gdY fun x hx => row_gdY pl n8 (h x hx))).up (Nat.le_refl _) (Nat.le_refl _) (by omega)
/-- what find_certificate gave -/
def OutAt (n : Int) (P : List (Str × Int)) (H : Hp) (v : V) (d : PyData) : Prop := (v = .non ∧ d = .none) ∨ ∃ t rs, v = .ref t ∧ d = certD rs ∧ CtA H t rs ∧ rs.length ≤ 8 ∧ ∀ x ∈ rs, RowF n P x
theorem OutAt.same {n : Int} {P : List (Str × Int)} {H H' : Hp} {v : V} {d : PyData} (h : OutAt n P H v d) (s : Same H H') : OutAt n P H' v d := by
  rcases h with h | ⟨t, rs, h1, h2, h3, h4⟩
  · exact .inl h
  · exact .inr ⟨t, rs, h1, h2, h3.same s, h4⟩
theorem OutAt.fr {n : Int} {P : List (Str × Int)} {s A B : Addr} {c : Nat} {H H' : Hp} {v : V} {d : PyData} (h : OutAt n P H v d) (hS : StreamAt H s A B c) (f : Fr s A H H') : OutAt n P H' v d := by
  rcases h with h | ⟨t, rs, h1, h2, h3, h4⟩
  · exact .inl h
  · exact .inr ⟨t, rs, h1, h2, h3.tk (Tk.fr f hS), h4⟩
theorem OutAt.dx {n : Int} {P : List (Str × Int)} {K : PySem.W.Frag} {av : List Addr} {H : Hp} {v : V} {d : PyData} (h : OutAt n P H v d) : Dx K av H v d := by
  rcases h with ⟨rfl, rfl⟩ | ⟨t, rs, rfl, rfl, h3, _⟩
  · exact .non
  · exact h3.dx
theorem OutAt.gd {n : Int} {P : List (Str × Int)} {H : Hp} {v : V} {d : PyData} (h : OutAt n P H v d) (pl : Pl n P) (n8 : n ≤ 8) : Gd 0 2 200 d := by
  rcases h with ⟨rfl, rfl⟩ | ⟨t, rs, rfl, rfl, _, h4, h5⟩
  · exact ⟨rfl, Nat.zero_le _, Nat.zero_le _⟩
  · exact cert_gdY pl n8 h4 h5
section
variable {P : Program} {w : World} {K : PySem.W.Frag} {mg : Str → Option Value} {base : Heap}
def spLThg (K : PySem.W.Frag) : Sp := fun vs H Q _ => ∃ (s A B h p g rl : Addr) (c : Nat) (n : Int) (D : List (Int × Int)) (P G : List (Str × Int)) (C : List Int) (v : V) (d : PyData), vs = [.ref s, .ref h, .ref p, .ref g, .ref rl, v] ∧ StreamAt H s A B c ∧ c + 600 < 2 ^ 28 ∧ HouseAt H h n D ∧ Forest n D ∧ n ≤ 8 ∧ PlAt H p P ∧ Pl n P ∧ P.length ≤ 60 ∧ P ≠ [] ∧ PlD H g G ∧ Pl n G ∧ G.length ≤ 100 ∧ (∀ x ∈ P.map (·.1), x ∈ G.map (·.1)) ∧ SqT K H rl (vi C) ∧ C.length ≤ 8 ∧ (∀ r ∈ C, 0 ≤ r ∧ r < n) ∧ OutAt n P H v d ∧
  ∀ H' L ZZ dds, StreamAt H' s A B (c + 420) → Fr s A H H' → H' L = some (.lst ZZ) → DxAll K [s, A] H' ZZ dds → ZZ.length ≤ 30 → (∀ x ∈ dds, Gd 2 4 2000 x) → Q (.ref L) H'
abbrev nLThg : List Str := ["_law_stream_here", "_law_house", "_law_placement", "_law_target", "_law_region", "_law_outcome", "_law_things_here", "_law_k", "_law_rows"]
theorem scLThg : FnScope nLThg ["_law_stream_here", "_law_house", "_law_placement", "_law_target", "_law_region", "_law_outcome"] (defScope sLThg) := ⟨rfl, rfl, rfl, by decide +kernel, rfl, by decide +kernel, by decide +kernel⟩
abbrev pLThg : List Str := ["_law_stream_here", "_law_house", "_law_placement", "_law_target", "_law_region", "_law_outcome"]
theorem ok_lthg {f : Addr} {fd : FuncData} {k : Nat} (F : Fun K "_law_things" "_law_things" sLThg f fd) (T : Nm mg) (C_law_random_rows : Cal P w K mg base k "_law_random_rows" pLRR (spLRR K)) (Cm2 : Cal P w K mg base k "_law_mutated" pMut (spMut K 2)) (Cm3 : Cal P w K mg base k "_law_mutated" pMut (spMut K 3)) (C_law_any_rows : Cal P w K mg base k "_law_any_rows" pLAny (spLAny K)) : FnOk P w K mg base CX0 (k + 1) f fd pLThg (spLThg K) := by
  refine F.ok scLThg (fun vs H Q E h => ?_) (fun cdv Ar outer sh H vs Q E hr h => ?_)
  · obtain ⟨s, A, B, h, p, g, rl, c, n, D, P, G, C, v, d, rfl, _⟩ := h
    rfl
  · obtain ⟨s, A, B, h, p, g, rl, c, n, D, P, G, C, v, d, rfl, hS, hc, hH, hF, n1, hP, pl, lP, neP, hG, plG, lG, sub, hC, lC, rC, out, q⟩ := h
    refine ⟨_, (pss_cons (ps_set (i := 6) scLThg.nd rfl (.inl rfl) (pe_lst (pa_cons (pv 5) (pa_cons pe_non (pa_cons (pe_tup pa_nil) (pa_cons pe_str (pa_cons pe_int (pa_cons pe_dnewK (pa_cons (pe_lstN (pa_cons (pv 5) pa_nil)) (pa_cons (pe_tup (pa_cons (pv 5) pa_nil)) pa_nil))))))))))
      (pss_cons (ps_for PassesOwn.never rfl (pi_range1 (by rfl) T.range (pa_cons pe_int pa_nil)) (pg_name (i := 7) scLThg.nd rfl (.inl rfl))
      (pss_cons (ps_set (i := 8) scLThg.nd rfl (.inl rfl) (pe_cal C_law_random_rows hr (by rfl) (pa_cons (pv 0) (pa_cons (pv 1) (pa_cons (pv 2) (pa_cons (pv 3) (pa_cons (pv 4) pa_nil)))))))
       (pss_cons (ps_if (PW.pt (pw_and (pt_cmp (pc_notN (pv 5))) (pw_and1 (pt_cmpR op_eq (pv 7) pe_int (nomark _)))))
       (pss_one (ps_set (i := 8) scLThg.nd rfl (.inl rfl) (pv 5)))
       pss_nil)
       (pss_cons (ps_set (i := 6) scLThg.nd rfl (.inl rfl) (pe_op op_cat (pv 6) (pe_lst (pa_cons (pv 8) (pa_cons (pe_cal Cm2 hr (by rfl) (pa_cons (pv 0) (pa_cons (pv 8) pa_nil))) (pa_cons (pe_cal Cm3 hr (by rfl) (pa_cons (pv 0) (pa_cons (pe_cal Cm2 hr (by rfl) (pa_cons (pv 0) (pa_cons (pv 8) pa_nil))) pa_nil))) pa_nil))))))
       (pss_one (ps_expr (pe_bm PySem.F.plainAttrs_list PySem.F.slot_list_append PySem.F.type_list_append mt_append (pv 6) (pa_cons (pe_cal C_law_any_rows hr (by rfl) (pa_cons (pv 0) (pa_cons (pv 1) (pa_cons (pv 2) (pa_cons (pv 3) (pa_cons (pv 4) pa_nil)))))) pa_nil))))))))
      (pss_one (ps_ret (pv 6))))), ?_⟩
    refine ⟨_, rfl, le_sz (by simp), fun p1 m1 => fun p2 m2 => ⟨_, rfl, le_sz (by simp), fun p3 m3 ns3 => ⟨_, rfl, le_sz (by simp), fun p4 m4 => ⟨le_sz (by simp), fun L mL => ?_⟩⟩⟩⟩
    have s1 := same_upd (o := .tup []) m1
    have e1 : (upd H p1 (.tup [])) p1 = some (.tup []) := upd_same
    generalize upd H p1 (.tup []) = H1 at *
    have s2 := same_upd (o := .dK []) m2
    have e2 : (upd H1 p2 (.dK [])) p2 = some (.dK []) := upd_same
    generalize upd H1 p2 (.dK []) = H2 at *
    have z3 := ((hS.same s1).same s2).ne m3
    have s3 := same_upd (o := .lst [v]) m3
    have e3 : (upd H2 p3 (.lst [v])) p3 = some (.lst [v]) := upd_same
    generalize upd H2 p3 (.lst [v]) = H3 at *
    have s4 := same_upd (o := .tup [v]) m4
    have e4 : (upd H3 p4 (.tup [v])) p4 = some (.tup [v]) := upd_same
    generalize upd H3 p4 (.tup [v]) = H4 at *
    have S4 := s1.trans (s2.trans (s3.trans s4))
    have zL := (hS.same S4).ne mL
    have s5 := same_upd (o := .lst [v, .non, .ref p1, .str "passed", .int 0, .ref p2, .ref p3, .ref p4]) mL
    have e5 : (upd H4 L (.lst [v, .non, .ref p1, .str "passed", .int 0, .ref p2, .ref p3, .ref p4])) L = some (.lst [v, .non, .ref p1, .str "passed", .int 0, .ref p2, .ref p3, .ref p4]) := upd_same
    generalize upd H4 L (.lst [v, .non, .ref p1, .str "passed", .int 0, .ref p2, .ref p3, .ref p4]) = H5 at *
    have S5 := S4.trans s5
    have out5 := out.same S5
    have gd0 := out.gd pl n1
    have dx5 : DxAll K [s, A] H5 [v, .non, .ref p1, .str "passed", .int 0, .ref p2, .ref p3, .ref p4] [d, .none, .tuple [], .str "passed", .int 0, .dict [], .list [d], .tuple [d]] := .cons out5.dx (.cons .non (.cons (.tup (SqT.of (s5 _ _ (s4 _ _ (s3 _ _ (s2 _ _ e1))))) .nil) (.cons (.str _) (.cons (.int _) (.cons (.dct (s5 _ _ (s4 _ _ (s3 _ _ e2)))) (.cons (.lst (SqL.of (s5 _ _ (s4 _ _ e3))) (by simp [ns3, z3.1.symm, z3.2.1.symm]) (.cons out5.dx .nil)) (.cons (.tup (SqT.of (s5 _ _ e4)) (.cons out5.dx .nil)) .nil)))))))
    have g5 : ∀ x ∈ [d, .none, .tuple [], .str "passed", .int 0, .dict [], .list [d], .tuple [d]], Gd 2 4 2000 x := fun x hx => by
      have g1 := GdA.cons gd0 (GdA.nil (n := 0))
      simp only [List.mem_cons, List.not_mem_nil, or_false] at hx
      rcases hx with rfl | rfl | rfl | rfl | rfl | rfl | rfl | rfl
      · exact gd0.up (by omega) (by omega) (by omega)
      · exact ⟨rfl, Nat.zero_le _, Nat.zero_le _⟩
      · exact (Gd.tup (GdA.nil (b := 0) (k := 0) (n := 0))).up (by omega) (by omega) (by omega)
      · exact (show Gd 0 0 6 (.str "passed") from ⟨by decide +kernel, by decide +kernel, by decide +kernel⟩).up (by omega) (by omega) (by omega)
      · exact gd_int (by simp)
      · exact (show Gd 0 1 0 (.dict []) from ⟨by decide +kernel, by decide +kernel, by decide +kernel⟩).up (by omega) (by omega) (by omega)
      · exact (Gd.lst g1).up (by omega) (by omega) (by omega)
      · exact (Gd.tup g1).up (by omega) (by omega) (by omega)
    obtain ⟨X5, hX5, lX5⟩ : ∃ X5 : List V, X5 = [v, .non, .ref p1, .str "passed", .int 0, .ref p2, .ref p3, .ref p4] ∧ X5.length = 8 := ⟨_, rfl, rfl⟩
    rw [← hX5] at e5 dx5
    have hS5 := hS.same S5
    have f5 : Fr s A H H5 := Fr.of S5
    clear s1 s2 s3 s4 s5 e1 e2 e3 e4 S4 S5 m1 m2 m3 m4 mL z3 ns3 hX5
    refine ⟨4, rfl, by decide, by decide, for_range (lo := 0) (n := 4) (fun i σ' H' => ∃ M ZZ dds y7 y8, σ' = [some (.ref s), some (.ref h), some (.ref p), some (.ref g), some (.ref rl), some v, some (.ref M), y7, y8] ∧ StreamAt H' s A B (c + 100 * i) ∧ Fr s A H H' ∧ H' M = some (.lst ZZ) ∧ (s ≠ M ∧ A ≠ M ∧ B ≠ M) ∧ DxAll K [s, A] H' ZZ dds ∧ ZZ.length ≤ 8 + 4 * i ∧ ∀ x ∈ dds, Gd 2 4 2000 x)
      ⟨L, X5, _, _, _, rfl, hS5, f5, e5, zL, dx5, by omega, g5⟩ ?_ ?_⟩
    · rintro i σ' J0 hi ⟨M, ZZ, dds, y7, y8, rfl, hS0, fr0, eM0, zM, dx0, lZ, gZ⟩
      refine ⟨_, rfl, _, rfl, _, rfl, _, rfl, _, rfl, s, A, B, h, p, g, rl, c + 100 * i, n, D, P, G, C, rfl, hS0, by omega, hH.fr hS fr0, hF, n1, hP.fr hS fr0, pl, lP, neP, hG.fr hS fr0, plG, lG, sub, sq_frR hS fr0 hC, lC, rC, fun J1 t1 rs1 hS1 fr1 ct1 mr1 rf1 => ?_⟩
      have eM1 := fr1 _ _ zM.1.symm zM.2.1.symm eM0
      have dx1 := dxA_fr hS0 fr1 dx0
      have f1 := fr0.trans fr1
      have out1 := out.fr hS f1
      have l1 : rs1.length ≤ 8 := by
        have := congrArg List.length mr1
        rw [List.length_map] at this
        have := unwL_len P G C
        omega
      dsimp only [gName]
      refine seq_by (a := tIfS _ _ _) (fun σ' H' => ∃ t rs, σ' = [some (.ref s), some (.ref h), some (.ref p), some (.ref g), some (.ref rl), some v, some (.ref M), some (.int (0 + (i : Int))), some (.ref t)] ∧ H' = J1 ∧ CtA J1 t rs ∧ rs.length ≤ 8 ∧ ∀ x ∈ rs, RowF n P x) ?_ ?_
      · intro N hN
        have end0 := hN _ _ ⟨t1, rs1, rfl, rfl, ct1, l1, rf1⟩
        rcases out1 with ⟨rfl, rfl⟩ | ⟨t, rs, rfl, rfl, h3, h4, h5⟩
        · exact ⟨_, rfl, _, rfl, iteF (iteF end0)⟩
        · refine ⟨_, rfl, _, rfl, iteT ⟨_, rfl, rfl, _, rfl, ?_⟩⟩
          exact ite2 (fun _ => ⟨_, rfl, hN _ _ ⟨t, rs, rfl, rfl, h3, h4, h5⟩⟩) fun _ => end0
      rintro σ' _ ⟨t, rs, rfl, rfl, ct, lr, rf⟩
      have gr := cert_gdY pl n1 lr rf
      -- three values more
      refine ⟨_, rfl, _, rfl, _, rfl, _, rfl, s, A, B, _, .ref t, certD rs, 0, 200, rfl, hS1, by omega, ct.dx, gr, by omega, by omega, fun J2 v2 d2 hS2 fr2 x2 g2 => ?_⟩
      have f2 := f1.trans fr2
      have ct2 := ct.tk (Tk.fr fr2 hS1)
      refine ⟨_, rfl, _, rfl, _, rfl, s, A, B, _, .ref t, certD rs, 0, 200, rfl, hS2, by omega, ct2.dx, gr, by omega, by omega, fun J3 v3 d3 hS3 fr3 x3 g3 => ?_⟩
      have f3 := f2.trans fr3
      refine ⟨s, A, B, _, v3, d3, _, _, rfl, hS3, by omega, x3, g3, by omega, by omega, fun J4 v4 d4 hS4 fr4 x4 g4 => ?_⟩
      have f4 := f3.trans fr4
      have ct4 := (ct2.tk (Tk.fr fr3 hS2)).tk (Tk.fr fr4 hS3)
      refine ⟨by show 3 ≤ sizeLine; decide, fun O hO => ?_⟩
      have s5 := same_upd (o := .lst [V.ref t, v2, v4]) hO
      have e5' : (upd J4 O (.lst [V.ref t, v2, v4])) O = some (.lst [V.ref t, v2, v4]) := upd_same
      generalize upd J4 O (.lst [V.ref t, v2, v4]) = J5 at *
      have fr15 := fr2.trans (fr3.trans (fr4.trans (Fr.of s5)))
      have eM5 := fr15 _ _ zM.1.symm zM.2.1.symm eM1
      have dx5' : DxAll K [s, A] J5 (ZZ ++ [V.ref t, v2, v4]) (dds ++ [certD rs, d2, d4]) := (dxA_fr hS1 fr15 dx1).app (.cons (ct4.same s5).dx (.cons (dx_fr hS2 (fr3.trans (fr4.trans (Fr.of s5))) x2) (.cons (dx_sm s5 x4) .nil)))
      have hS5' := hS4.same s5
      have f5' := f4.trans (Fr.of s5)
      refine ⟨M, O, _, _, rfl, rfl, eM5, e5', le_sz (by simp only [List.length_cons, List.length_nil]; omega), fun M' hM' => ?_⟩
      have zM' := hS5'.ne hM'
      have s6 := same_upd (o := .lst (ZZ ++ [V.ref t, v2, v4])) hM'
      have eM6 : (upd J5 M' (.lst (ZZ ++ [V.ref t, v2, v4]))) M' = some (.lst (ZZ ++ [V.ref t, v2, v4])) := upd_same
      generalize upd J5 M' (.lst (ZZ ++ [V.ref t, v2, v4])) = J6 at *
      have f6 := f5'.trans (Fr.of s6)
      refine ⟨_, rfl, .inl ⟨rfl, _, SqL.of eM6⟩, _, rfl, _, rfl, _, rfl, _, rfl, _, rfl, s, A, B, h, p, g, rl, _, n, D, P, G, C, rfl, hS5'.same s6, by omega, hH.fr hS f6, hF, n1, hP.fr hS f6, pl, lP, neP, hG.fr hS f6, plG, lG, sub, sq_frR hS f6 hC, lC, rC, fun J7 t7 rs7 hS7 fr7 ct7 l7 rf7 => ?_⟩
      have eM7 := fr7 _ _ zM'.1.symm zM'.2.1.symm eM6
      have fJ : Fr s A J5 (upd J7 M' (.lst ((ZZ ++ [V.ref t, v2, v4]) ++ [.ref t7]))) := ((Fr.of s6).trans fr7).put hM'
      have ct8 : CtA (upd J7 M' (.lst ((ZZ ++ [V.ref t, v2, v4]) ++ [.ref t7]))) t7 rs7 := ct7.tk (Tk.refl.put eM7)
      refine ⟨M', _, _, rfl, rfl, eM7, small1000 (by rw [List.length_append]; simp only [List.length_cons, List.length_nil]; omega), M', _, (dds ++ [certD rs, d2, d4]) ++ [certD rs7], _, _, rfl, (hS7.put zM').mono (by omega), f5'.trans fJ, upd_same, zM', (dxA_fr hS5' fJ dx5').app (.cons ct8.dx .nil), by rw [List.length_append, List.length_append]; simp only [List.length_cons, List.length_nil]; omega, fun x hx => ?_⟩
      rcases List.mem_append.mp hx with hx | hx
      · rcases List.mem_append.mp hx with hx | hx
        · exact gZ x hx
        · simp only [List.mem_cons, List.not_mem_nil, or_false] at hx
          rcases hx with rfl | rfl | rfl
          · exact gr.up (by omega) (by omega) (by omega)
          · exact g2.up (by omega) (by omega) (by omega)
          · exact g4.up (by omega) (by omega) (by omega)
      · rw [List.mem_singleton.mp hx]
        exact (cert_gdY pl n1 l7 rf7).up (by omega) (by omega) (by omega)
    · rintro σ' J0 ⟨M, ZZ, dds, y7, y8, rfl, hS0, fr0, eM0, zM, dx0, lZ, gZ⟩
      exact ⟨_, rfl, q _ M ZZ dds (hS0.mono (by omega)) fr0 eM0 dx0 (by omega) gZ⟩
def spH25 (K : PySem.W.Frag) : Sp := fun vs H Q _ => ∃ (s A B h p g rl : Addr) (c : Nat) (n : Int) (D : List (Int × Int)) (P G : List (Str × Int)) (C : List Int), vs = [.ref s, .ref h, .ref p, .ref g, .ref rl] ∧ StreamAt H s A B c ∧ c + 600 < 2 ^ 28 ∧ HouseAt H h n D ∧ Forest n D ∧ 0 ≤ n ∧ n ≤ 8 ∧ PlAt H p P ∧ Pl n P ∧ P.length ≤ 50 ∧ P ≠ [] ∧ PlD H g G ∧ Pl n G ∧ G.length ≤ 100 ∧ (∀ x ∈ P.map (·.1), x ∈ G.map (·.1)) ∧ SqT K H rl (vi C) ∧ C.length ≤ 8 ∧ C ≠ [] ∧ Pce D P G C ∧
  ∀ H', StreamAt H' s A B (c + 420) → Fr s A H H' → Q (.bl true) H'
abbrev nLHolds : List Str := ["_law_stream_here", "_law_house", "_law_placement", "_law_target", "_law_region", "_law_outcome", "_law_thing", "_law_kept", "_law_expected"]
theorem scLHolds : FnScope nLHolds ["_law_stream_here", "_law_house", "_law_placement", "_law_target", "_law_region"] (defScope sLHolds) := ⟨rfl, rfl, rfl, by decide +kernel, rfl, by decide +kernel, by decide +kernel⟩
abbrev pH25 : List Str := ["_law_stream_here", "_law_house", "_law_placement", "_law_target", "_law_region"]
theorem ok_h25 {f : Addr} {fd : FuncData} {k : Nat} (F : Fun K "_law_holds" "_law_holds" sLHolds f fd) (T : Nm mg) (CfcertD : Cal P w K mg base (k + 1) "find_certificate" pFCert (spFCertD K)) (C_law_solvable : Cal P w K mg base (k + 1) "_law_solvable" pLSolv (spLSolv K 9)) (C_law_is_certificate : CalG P w K mg base (k + 1) "_law_is_certificate" pLIsCert (spLCertA K)) (C_law_things : Cal P w K mg base (k + 1) "_law_things" pLThg (spLThg K)) (C_law_same : Cal P w K mg base (k + 1) "_law_same" pSame (spSame 2)) (Cis_certificate : Cal P w K mg base (k + 1) "is_certificate" pIsCert (spCertA K)) : FnG P w K mg base (k + 2) f fd pH25 (spH25 K) := by
  refine Fun.okG F scLHolds (fun vs H Q E h => ?_) (fun cdv Ar outer sh H vs Q gd hr h => ?_)
  · obtain ⟨s, A, B, h, p, g, rl, c, n, D, P, G, C, rfl, _⟩ := h
    rfl
  · obtain ⟨s, A, B, h, p, g, rl, c, n, D, P, G, C, rfl, hS, hc, hH, hF, n0, n1, hP, pl, lP, neP, hG, plG, lG, sub, hC, lC, neC, pc, q⟩ := h
    refine ⟨_, (pss_cons (ps_set (i := 5) scLHolds.nd rfl (.inl rfl) (pe_cal CfcertD hr (by rfl) (pa_cons (pv 1) (pa_cons (pv 2) (pa_cons (pv 3) (pa_cons (pv 4) pa_nil))))))
      (pss_cons (ps_if (pt_cmpR op_ne (pe_cmp (pc_isN (pv 5)) rfl) (pe_cal C_law_solvable hr (by rfl) (pa_cons (pv 1) (pa_cons (pv 2) (pa_cons (pv 3) (pa_cons (pv 4) pa_nil))))) (nomark _))
      (pss_one (ps_ret pe_bl))
      pss_nil)
      (pss_cons (ps_if (PW.pt (pw_and (pt_cmp (pc_notN (pv 5))) (pw_and1 (pt_not (pt_val (pe_calG C_law_is_certificate gd hr (by rfl) (pa_cons (pv 1) (pa_cons (pv 2) (pa_cons (pv 3) (pa_cons (pv 4) (pa_cons (pv 5) pa_nil)))))))))))
      (pss_one (ps_ret pe_bl))
      pss_nil)
      (pss_cons (ps_for PassesOwn.never rfl (pi_listK K rfl (pe_cal C_law_things hr (by rfl) (pa_cons (pv 0) (pa_cons (pv 1) (pa_cons (pv 2) (pa_cons (pv 3) (pa_cons (pv 4) (pa_cons (pv 5) pa_nil)))))))) (pg_name (i := 6) scLHolds.nd rfl (.inl rfl))
      (pss_cons (ps_set (i := 7) scLHolds.nd rfl (.inl rfl) (pe_callB (call_reprD (av := []) gd (units65 hr)) (by rfl) T.repr (by decide +kernel) (pa_cons (pe_lstN (pa_cons (pv 1) (pa_cons (pv 2) (pa_cons (pv 3) (pa_cons (pv 4) (pa_cons (pv 6) pa_nil)))))) pa_nil)))
       (pss_cons (ps_set (i := 8) scLHolds.nd rfl (.inl rfl) (pe_calG C_law_is_certificate gd hr (by rfl) (pa_cons (pv 1) (pa_cons (pv 2) (pa_cons (pv 3) (pa_cons (pv 4) (pa_cons (pv 6) pa_nil)))))))
       (pss_cons (ps_if (pt_not (pt_val (pe_cal C_law_same hr (by rfl) (pa_cons (pe_cal Cis_certificate hr (by rfl) (pa_cons (pv 1) (pa_cons (pv 2) (pa_cons (pv 3) (pa_cons (pv 4) (pa_cons (pv 6) pa_nil)))))) (pa_cons (pv 8) pa_nil)))))
       (pss_one (ps_ret pe_bl))
       pss_nil)
       (pss_one (ps_if (pt_cmpR op_ne (pe_callB (call_reprD (av := []) gd (units65 hr)) (by rfl) T.repr (by decide +kernel) (pa_cons (pe_lstN (pa_cons (pv 1) (pa_cons (pv 2) (pa_cons (pv 3) (pa_cons (pv 4) (pa_cons (pv 6) pa_nil)))))) pa_nil)) (pv 7) (nomark _))
       (pss_one (ps_ret pe_bl))
       pss_nil))))))
      (pss_one (ps_ret pe_bl)))))), ?_⟩
    have rC : ∀ r ∈ C, 0 ≤ r ∧ r < n := fun r hr => by
      obtain ⟨nm, m, _⟩ := pc.who r hr
      exact pl.rm _ m
    refine ⟨_, rfl, _, rfl, _, rfl, _, rfl, h, p, g, rl, n, D, P, G, C, rfl, hH, hF, n0, n1, hP, pl, by omega, hG.pl, plG, sub, hC, pc, neC, fun H1 v d s1 dx1 cas => ?_⟩
    have out : OutAt n P H1 v d := by
      rcases cas with ⟨rfl, rfl, _⟩ | ⟨⟨t, rs, rfl, rfl, ct, mr, ok⟩, _⟩
      · exact .inl ⟨rfl, rfl⟩
      · refine .inr ⟨t, rs, rfl, rfl, ct, ?_, fun x hx => ?_⟩
        · have := congrArg List.length mr
          rw [List.length_map] at this
          have := unwL_len P G C
          omega
        · have mu : rowR x ∈ unwL P G C := by rw [← mr]; exact List.mem_map_of_mem hx
          have rr := rC _ (mem_unwL.mp mu).1
          have := ok x hx
          cases x with
          | p r nm =>
            obtain ⟨c', t', h1, _⟩ := this
            exact ⟨rr, List.mem_map_of_mem (f := (·.1)) h1⟩
          | b r v' => exact ⟨rr, rC v' this.1⟩
    have sol : decide (v = .non) = solB D P G C := by
      rw [Bool.eq_iff_iff, decide_eq_true_eq, solB_iff]
      rcases cas with ⟨rfl, _, so⟩ | ⟨⟨t, rs, rfl, _⟩, no, _⟩
      · exact ⟨fun _ => so, fun _ => rfl⟩
      · exact ⟨fun e => (by cases e), fun so => absurd so no⟩
    have crt : v ≠ .non → crtB D P G C d = true := fun nv => by
      rcases cas with ⟨rfl, _⟩ | ⟨_, _, e⟩
      · exact absurd rfl nv
      · exact e
    refine ⟨_, rfl, _, rfl, _, rfl, _, rfl, _, rfl, h, p, g, rl, n, D, P, G, C, rfl, hH.same s1, hF, n0, n1, hP.same s1, pl, by omega, hG.same s1, plG, lG, sub, sqT_sm s1 hC, pc, by omega, fun H2 s2 => ⟨rfl, _, rfl, ?_⟩⟩
    rw [sol, ne_self]
    refine iteF ?_
    have s02 := s1.trans s2
    have out2 := out.same s2
    have hS2 := hS.same s02
    dsimp only [tNext]
    refine seq_by (a := tIfS _ _ _) (fun σ' H' => σ' = [some (.ref s), some (.ref h), some (.ref p), some (.ref g), some (.ref rl), some v, none, none, none] ∧ Same H2 H') ?_ ?_
    · intro N hN
      refine ⟨_, rfl, _, rfl, ?_⟩
      by_cases nv : v = .non
      · rw [decide_eq_true nv]
        exact iteF (iteF (hN _ _ ⟨rfl, Same.refl _⟩))
      · rw [decide_eq_false nv]
        refine iteT ⟨_, rfl, _, rfl, _, rfl, _, rfl, _, rfl, h, p, g, rl, n, D, P, G, C, v, d, 0, 2, 200, rfl, hH.same s02, hF, n1, hP.same s02, pl, by omega, hG.same s02, plG, lG, sub, sqT_sm s02 hC, lC, pc, out2.dx, out2.gd pl n1, by omega, by omega, by omega, fun H3 s3 => ⟨_, rfl, ?_⟩⟩
        rw [crt nv]
        exact iteF (hN _ _ ⟨rfl, s3⟩)
    rintro σ' H3 ⟨rfl, s3⟩
    have s03 := s02.trans s3
    refine ⟨_, rfl, _, rfl, _, rfl, _, rfl, _, rfl, _, rfl, s, A, B, h, p, g, rl, c, n, D, P, G, C, v, d, rfl, hS.same s03, hc, hH.same s03, hF, n1, hP.same s03, pl, by omega, neP, hG.same s03, plG, lG, sub, sqT_sm s03 hC, lC, rC, out2.same s3, fun H4 L ZZ dds hS4 fr4 eL dxs lZ gZ => ?_⟩
    have f4 := (Fr.of s03).trans fr4
    have hH4 := hH.fr hS f4
    have hP4 := hP.fr hS f4
    have hG4 := hG.fr hS f4
    have hC4 := sq_frR hS f4 hC
    refine ⟨L, rfl, ⟨_, SqL.of eL⟩, for_list (K := K) (a := L) (xs := ZZ) (fun i σ' H' => ∃ y6 y7 y8, σ' = [some (.ref s), some (.ref h), some (.ref p), some (.ref g), some (.ref rl), some v, y6, y7, y8] ∧ Same H4 H') ⟨_, _, _, rfl, Same.refl _⟩ (fun i σ' H' _ hh => ?_) ?_ ?_⟩
    · obtain ⟨_, _, _, _, s'⟩ := hh
      exact SqL.of (s' _ _ eL)
    · rintro i x σ' H5 hx ⟨y6, y7, y8, rfl, s5⟩
      obtain ⟨dd, hdd, hb⟩ := dxs.at hx
      have gdd := gZ dd (List.mem_of_getElem? hdd)
      have hb5 := dx_nil (dx_sm s5 hb)
      -- what is shown
      have shw : ∀ {J : Hp} {T : Addr}, Same H5 J → J T = some (.lst [.ref h, .ref p, .ref g, .ref rl, x]) → T ≠ sysModules → Dx K [] J (.ref T) (.list [hd n D, pld P, pld G, .tuple (C.map .int), dd]) := fun {J T} sJ e nT => by
        have sK := s5.trans sJ
        exact .lst (SqL.of e) (fun m => nT (List.mem_singleton.mp m)) (.cons (hH4.same sK).dxy (.cons (hP4.same sK).dxy (.cons (hG4.same sK).pl.dxy (.cons (.tup (sqT_sm sK hC4) dxA_vi) (.cons (dx_sm sJ hb5) .nil)))))
      have shd : Gd 2 5 5000 (.list [hd n D, pld P, pld G, .tuple (C.map .int), dd]) := (Gd.lst (GdA.cons ((hs_gdY hF n0 n1).up (b := 2) (k := 4) (Nat.zero_le _) (by omega) (Nat.le_refl _)) (GdA.cons ((pl_gdY pl n1 (by omega)).up (b := 2) (k := 4) (Nat.zero_le _) (by omega) (Nat.le_refl _)) (GdA.cons ((pl_gdY plG n1 lG).up (b := 2) (k := 4) (Nat.zero_le _) (by omega) (Nat.le_refl _)) (GdA.cons ((rooms_gdY (fun r hr => ⟨(rC r hr).1, by have := (rC r hr).2; omega⟩) lC).up (b := 2) (k := 4) (Nat.zero_le _) (by omega) (Nat.le_refl _)) (GdA.cons gdd (GdA.nil (n := 0)))))))).up (Nat.le_refl _) (Nat.le_refl _) (by omega)
      obtain ⟨w1, w2, w3⟩ := shd.shows (by omega) (by omega) (by omega)
      generalize PyData.list [hd n D, pld P, pld G, .tuple (C.map .int), dd] = tot at *
      refine ⟨_, rfl, _, rfl, _, rfl, _, rfl, _, rfl, by show 5 ≤ sizeLine; decide, fun T hT nT => ⟨T, tot, rfl, shw (same_upd hT) upd_same nT, w1, w2, w3, ?_⟩⟩
      have s6 := s5.trans (same_upd (o := .lst [.ref h, .ref p, .ref g, .ref rl, x]) hT)
      have s56 := same_upd (o := .lst [.ref h, .ref p, .ref g, .ref rl, x]) hT
      generalize upd H5 T (.lst [.ref h, .ref p, .ref g, .ref rl, x]) = H6 at *
      refine ⟨_, rfl, _, rfl, _, rfl, _, rfl, _, rfl, h, p, g, rl, n, D, P, G, C, x, dd, 2, 4, 2000, rfl, hH4.same s6, hF, n1, hP4.same s6, pl, by omega, hG4.same s6, plG, lG, sub, sqT_sm s6 hC4, lC, pc, dx_sm s56 hb5, gdd, by omega, by omega, by omega, fun H7 s7 => ?_⟩
      have s07 := s6.trans s7
      refine ⟨_, rfl, _, rfl, _, rfl, _, rfl, _, rfl, h, p, g, rl, n, D, P, G, C, x, dd, rfl, hH4.same s07, hF, n0, n1, hP4.same s07, pl, by omega, (hG4.same s07).pl, plG, sub, sqT_sm s07 hC4, pc, lC, dx_sm (s56.trans s7) hb5, fun H8 s8 => ?_⟩
      have s08 := s07.trans s8
      have s58 := (s56.trans s7).trans s8
      refine ⟨_, rfl, _, _, rfl, .bl _ _, fun H9 s9 => ⟨_, rfl, iteF ?_⟩⟩
      have s59 := s58.trans s9
      refine ⟨_, rfl, _, rfl, _, rfl, _, rfl, _, rfl, by show 5 ≤ sizeLine; decide, fun T2 hT2 nT2 => ⟨T2, tot, rfl, shw (s59.trans (same_upd hT2)) upd_same nT2, w1, w2, w3, ?_⟩⟩
      refine ⟨_, rfl, rfl, _, rfl, ?_⟩
      rw [ne_self]
      exact iteF ⟨_, _, _, rfl, (s08.trans s9).trans (same_upd hT2)⟩
    · rintro σ' H5 ⟨y6, y7, y8, rfl, s5⟩
      exact q _ (hS4.same s5) (f4.trans (Fr.of s5))
end
end Fw
namespace Fw
open PySem PySem.Spec PyProof.Rows L2

structure LAt (H : Hp) (d wl : Addr) (n : Int) (D : List (Int × Int)) (a : Int) (kvs : List (Key × V)) (wt : List Int) (H' : Hp) : Prop where
  sm : Same H H'
  ed : H' d = some (.dK kvs)
  ew : H' wl = some (.lst (vi wt))
  one : isK kvs a = true
  way : ∀ v x, lk kvs v = some x → ∃ t p, x = .ref t ∧ H' t = some (.tup (vi p)) ∧ SP (adj D) a v p ∧ ∀ y ∈ p, isK kvs y = true
  len : kvs.length + left n.toNat (isK kvs) ≤ n.toNat + 1
  wk : ∀ v ∈ wt, isK kvs v = true
  wlen : wt.length + left n.toNat (isK kvs) ≤ n.toNat + 1
section
variable {H : Hp} {d wl : Addr} {n : Int} {D : List (Int × Int)} {a : Int} {kvs : List (Key × V)} {wt : List Int} {H1 H2 : Hp}
theorem LAt.same (S : LAt H d wl n D a kvs wt H1) (e : Same H1 H2) : LAt H d wl n D a kvs wt H2 :=
  ⟨S.sm.trans e, e _ _ S.ed, e _ _ S.ew, S.one, fun v x h => by
    obtain ⟨t, p, h1, h2, h3⟩ := S.way v x h
    exact ⟨t, p, h1, e _ _ h2, h3⟩, S.len, S.wk, S.wlen⟩
/-- one more room on the heap of rooms, and its way -/
theorem LAt.put (S : LAt H d wl n D a kvs wt H1) (hd : H d = none) (hw : H wl = none) (nwd : d ≠ wl) {v o : Int} {t : Addr} {p : List Int} (hv : SP (adj D) a v p) (hk : ∀ y ∈ p, isK kvs y = true) (ho : isK kvs o = false) (ad : adj D v o) (h0 : 0 ≤ o) (h1 : o < n)
    (et : H1 t = some (.tup (vi (p ++ [o])))) : LAt H d wl n D a (putK kvs (Sum.inl o) (.ref t)) (wt ++ [o]) (upd (upd H1 d (.dK (putK kvs (Sum.inl o) (.ref t)))) wl (.lst (vi wt ++ [V.int o]))) ∧
    left n.toNat (isK (putK kvs (Sum.inl o) (.ref t))) < left n.toNat (isK kvs) := by
  have hl : left n.toNat (isK (putK kvs (Sum.inl o) (.ref t))) < left n.toNat (isK kvs) := by
    refine left_lt (o := o) (fun x hx => ?_) h0 (by omega) ho ?_
    · rw [isK_put, hx, Bool.or_true]
    · rw [isK_put, decide_eq_true rfl, Bool.true_or]
  have keep : ∀ {t : Addr} {xs : List V}, H1 t = some (.tup xs) → (upd (upd H1 d (.dK (putK kvs (Sum.inl o) (.ref t)))) wl (.lst (vi wt ++ [V.int o]))) t = some (.tup xs) := fun {t xs} h => by
    rw [upd_ne (ne_of h S.ew (by intro z; cases z)), upd_ne (ne_of h S.ed (by intro z; cases z))]
    exact h
  have keep' : ∀ {u : Addr} {xs : List V}, H1 u = some (.tup xs) → (upd (upd H1 d (.dK (putK kvs (Sum.inl o) (.ref t)))) wl (.lst (vi wt ++ [V.int o]))) u = some (.tup xs) := fun {u xs} h => by
    rw [upd_ne (ne_of h S.ew (by intro z; cases z)), upd_ne (ne_of h S.ed (by intro z; cases z))]
    exact h
  refine ⟨⟨same_put (same_put S.sm hd) hw, (upd_ne nwd).trans upd_same, ?_, ?_, fun y x h => ?_, ?_, ?_, ?_⟩, hl⟩
  · rw [upd_same, vi_app]
    rfl
  · rw [isK_put, S.one, Bool.or_true]
  · rw [lk_put] at h
    by_cases e : y = o
    · rw [if_pos e] at h
      refine ⟨t, p ++ [o], (Option.some.inj h).symm, keep' et, ?_, fun z hz => ?_⟩
      · rw [e]
        refine hv.snoc ad fun m => ?_
        rw [hk o m] at ho
        cases ho
      · rw [isK_put, Bool.or_eq_true, decide_eq_true_eq]
        rcases List.mem_append.mp hz with hz | hz
        · exact .inr (hk z hz)
        · exact .inl (List.mem_singleton.mp hz)
    · rw [if_neg e] at h
      obtain ⟨u, p2, e1, e2, e3, e4⟩ := S.way y x h
      exact ⟨u, p2, e1, keep' e2, e3, fun z hz => by rw [isK_put, e4 z hz, Bool.or_true]⟩
  · have := length_putK kvs (Sum.inl o) (V.ref t)
    have := S.len
    omega
  · intro y hy
    rw [isK_put]
    rcases List.mem_append.mp hy with hy | hy
    · rw [S.wk y hy, Bool.or_true]
    · rw [List.mem_singleton.mp hy, decide_eq_true rfl, Bool.true_or]
  · have := S.wlen
    rw [List.length_append, List.length_singleton]
    omega
end

section
variable {P : Program} {w : World} {K : PySem.W.Frag} {mg : Str → Option Value} {base : Heap}
abbrev nLPath : List Str := ["_law_house", "_law_one", "_law_other", "_law_found", "_law_heap", "_law_here", "_law_there"]
theorem scLPath : FnScope nLPath ["_law_house", "_law_one", "_law_other"] (defScope sLPath) := ⟨rfl, rfl, rfl, by decide +kernel, rfl, by decide +kernel, by decide +kernel⟩
theorem ok_lpath {f fN : Addr} {fd fdN : FuncData} (F : Fun K "_law_path" "_law_path" sLPath f fd) (T : Nm mg) (DN : Def K mg "_law_neighbors" sLNb fN fdN ["_law_house", "_law_room"]) : FnOk P w K mg base CX0 2 f fd ["_law_house", "_law_one", "_law_other"] spPath := by
  have GN : FnOk P w K mg base CX0 1 fN fdN ["_law_house", "_law_room"] spLNb := ok_lnb DN.F T
  refine F.ok scLPath (fun vs H Q E h => ?_) (fun cdv A outer s H vs Q E hr h => ?_)
  · obtain ⟨h, n, D, a, b, rfl, _⟩ := h
    rfl
  · obtain ⟨h, n, D, a, b, rfl, hH, hF, hn, a0, a1, b0, b1, q1, q2⟩ := h
    have hu := hu_of hr
    refine ⟨_, pss_cons (ps_set (i := 3) scLPath.nd rfl (.inl rfl) (pe_disp (pps_cons (pv 1) (pe_tup (pa_cons (pv 1) pa_nil)) pps_nil) (by rfl) (by rfl) (fun z => by cases z) (by decide)))
      (pss_cons (ps_set (i := 4) scLPath.nd rfl (.inl rfl) (pe_lst (pa_cons (pv 1) pa_nil)))
      (pss_cons (ps_while PassesOwn.never (pt_cmpR (op_neD hr.units) (pv 4) (pe_lst pa_nil) (nomark _))
        (pss_cons (ps_set (i := 5) scLPath.nd rfl (.inl rfl) (pe_bm0 PySem.F.plainAttrs_list PySem.F.slot_list_pop PySem.F.type_list_pop mt_pop (pv 4)))
        (pss_one (ps_for PassesOwn.never rfl (pi_list (pe_call GN hr (by rfl) DN.g DN.F.kp DN.b .nil pass0 (pa_cons (pv 0) (pa_cons (pv 5) pa_nil)))) (pg_name (i := 6) scLPath.nd rfl (Or.inl rfl))
          (pss_one (ps_if (pt_cmp (pc_dnotin hu (pv 6) (pv 3)))
            (pss_cons (ps_dput hu (pv 3) (pv 6) (pe_op op_catT (pe_dget hu (pv 3) (pv 5) (fun _ _ => rfl)) (pe_tup (pa_cons (pv 6) pa_nil))) rfl)
            (pss_one (ps_expr (pe_bm PySem.F.plainAttrs_list PySem.F.slot_list_append PySem.F.type_list_append mt_append (pv 4) (pa_cons (pv 6) pa_nil)))))
            pss_nil))))))
      (pss_one (ps_ret (pe_dget2 hu (pv 3) (pv 2) pe_non ⟨rfl, rfl, rfl, rfl⟩))))), ?_⟩
    refine fun d hd => ⟨_, rfl, _, rfl, by show 1 ≤ sizeLine; decide, fun t0 ht0 => ?_⟩
    have n0 : d ≠ t0 := ne_of_none (upd_same (H := H) (o := .dK [])) ht0
    refine ⟨(upd_ne n0).trans upd_same, [(Sum.inl a, .ref t0)], rfl, by show 1 ≤ 15; decide, ?_⟩
    refine ⟨_, rfl, by show 1 ≤ sizeLine; decide, fun wl hw => ?_⟩
    have gt0 : H t0 = none := (same_upd hd).free ht0
    have sm0 : Same H (upd (upd (upd H d (.dK [])) t0 (.tup [.int a])) d (.dK (mergeK [] [(Sum.inl a, V.ref t0)]))) := same_put ((same_upd hd).trans (same_upd ht0)) hd
    have ed0 : (upd (upd (upd H d (.dK [])) t0 (.tup [.int a])) d (.dK (mergeK [] [(Sum.inl a, V.ref t0)]))) d = some (.dK [(Sum.inl a, V.ref t0)]) := upd_same
    have et0 : (upd (upd (upd H d (.dK [])) t0 (.tup [.int a])) d (.dK (mergeK [] [(Sum.inl a, V.ref t0)]))) t0 = some (.tup [.int a]) := (upd_ne n0.symm).trans upd_same
    have nwd : d ≠ wl := ne_of_none ed0 hw
    have gw : H wl = none := sm0.free hw
    have e0 : ∀ v, lk [(Sum.inl a, V.ref t0)] v = if v = a then some (.ref t0) else none := fun v => by
      unfold lk
      by_cases e : v = a
      · rw [if_pos e, e]; exact valV_pos rfl
      · rw [if_neg e, valV_neg (fun z => e (Sum.inl.inj z).symm)]; rfl
    have e1 : isK [(Sum.inl a, V.ref t0)] a = true := by unfold isK; rw [e0, if_pos rfl]; rfl
    have e2 : ∀ v, isK [(Sum.inl a, V.ref t0)] v = true → v = a := fun v h => by
      unfold isK at h
      rw [e0] at h
      by_cases e : v = a
      · exact e
      · rw [if_neg e] at h; cases h
    refine ⟨fun m σ H' => ∃ (kvs : List (Key × V)) (wt : List Int) (y5 y6 : Option V), σ = [some (.ref h), some (.int a), some (.int b), some (.ref d), some (.ref wl), y5, y6] ∧ LAt H d wl n D a kvs wt H' ∧
        (∀ v o, isK kvs v = true → v ∉ wt → adj D v o → isK kvs o = true) ∧ m = 2 * left n.toNat (isK kvs) + wt.length, ⟨_, [(Sum.inl a, V.ref t0)], [a], none, none, rfl, ⟨?_, ?_, upd_same, e1, ?_, ?_, ?_, ?_⟩, ?_, rfl⟩, ?_⟩
    · exact sm0.trans (same_upd hw)
    · rw [upd_ne nwd]
      exact ed0
    · intro v x hx
      have hva : v = a := e2 v (by unfold isK; rw [hx]; rfl)
      subst hva
      rw [e0, if_pos rfl] at hx
      refine ⟨t0, [v], (Option.some.inj hx).symm, same_upd hw _ _ et0, .one v, fun y hy => ?_⟩
      rw [List.mem_singleton.mp hy]
      exact e1
    · have := left_le n.toNat (isK [(Sum.inl a, V.ref t0)])
      simp only [List.length_cons, List.length_nil]
      omega
    · intro v hv
      rw [List.mem_singleton.mp hv]
      exact e1
    · have := left_le n.toNat (isK [(Sum.inl a, V.ref t0)])
      simp only [List.length_cons, List.length_nil]
      omega
    · intro v o hv hnv
      rw [e2 v hv] at hnv
      exact absurd (List.mem_singleton.mpr rfl) hnv
    clear ed0 et0 sm0 e0 e1 e2 n0
    rintro m σ H1 ⟨kvs, wt, y5, y6, rfl, S0, clos, rfl⟩
    refine ⟨_, rfl, Nat.zero_le _, fun e he => ?_⟩
    have S1 := S0.same (same_upd (o := .lst []) he)
    refine ⟨.list (wt.map .int), .list [], .lst (SqL.of S1.ew) (dp_ints wt), .lst (SqL.of upd_same) .nil, shaped_list wt, shaped_list [], _, rfl, ?_⟩
    rw [eqv_nil]
    clear S0
    generalize upd H1 e (.lst []) = H2 at S1
    clear he
    rcases snoc_cases wt with rfl | ⟨ys, v, rfl⟩
    · refine iteF ?_
      refine ⟨_, rfl, d, rfl, .inl ⟨_, .inl S1.ed⟩, _, rfl, _, DGet.k (k := Sum.inl b) S1.ed, ?_⟩
      have cl : ∀ x y, adj D x y → isK kvs x = true → isK kvs y = true := fun x y r hx => clos x y hx (by simp) r
      cases eb : valV kvs (Sum.inl b) with
      | none =>
        refine q1 _ S1.sm fun p hp => ?_
        have hb : isK kvs b = true := hp.forth (S := fun x => isK kvs x = true) cl S1.one
        unfold isK lk at hb
        rw [eb] at hb
        cases hb
      | some x =>
        obtain ⟨t, p, rfl, et, hp, _⟩ := S1.way b x eb
        exact q2 _ t p S1.sm hp (hF.short hn a0 a1 hp) et
    · have ne : (!(ys ++ [v]).isEmpty) = true := by
        cases ys <;> rfl
      rw [ne]
      refine iteT ⟨_, fun _ _ hh => hh, ?_⟩
      have hv : isK kvs v = true := S1.wk v (by simp)
      refine ⟨_, rfl, .inl ⟨rfl, _, SqL.of S1.ew⟩, wl, _, _, rfl, rfl, S1.ew, vi_snoc_last, ?_⟩
      rw [vi_dropLast]
      have l1 := S1.wlen
      rw [List.length_append, List.length_singleton] at l1
      have S2 : LAt H d wl n D a kvs ys (upd H2 wl (.lst (vi ys))) := ⟨same_put S1.sm gw, (upd_ne nwd).trans S1.ed, upd_same, S1.one, fun x z hx => (by
        obtain ⟨t, p, h1, h2, h3⟩ := S1.way x z hx
        exact ⟨t, p, h1, (upd_ne (ne_of h2 S1.ew (by intro q; cases q))).trans h2, h3⟩), S1.len, fun x hx => S1.wk x (List.mem_append_left _ hx), by omega⟩
      refine ⟨_, rfl, _, rfl, h, n, D, v, rfl, hH.same S2.sm, hF, fun H3 l s3 hl el => ?_⟩
      have S3 := S2.same s3
      have nld : l ≠ d := (ne_of_none S2.ed hl).symm
      have nlw : l ≠ wl := (ne_of_none S2.ew hl).symm
      refine ⟨l, rfl, ⟨_, SqL.of el⟩, for_list (K := K) (a := l) (xs := vi (nb n D v)) (fun i σ H' => ∃ (kvs' : List (Key × V)) (wt : List Int) (y6 : Option V), σ = [some (.ref h), some (.int a), some (.int b), some (.ref d), some (.ref wl), some (.int v), y6] ∧
          LAt H d wl n D a kvs' wt H' ∧ H' l = some (.lst (vi (nb n D v))) ∧ isK kvs' v = true ∧ (∀ x o, isK kvs' x = true → x ∉ wt → x ≠ v → adj D x o → isK kvs' o = true) ∧
          (∀ o ∈ (nb n D v).take i, isK kvs' o = true) ∧ 2 * left n.toNat (isK kvs') + wt.length < 2 * left n.toNat (isK kvs) + (ys ++ [v]).length) ⟨kvs, ys, y6, rfl, S3, el, hv, ?_, ?_, ?_⟩ ?_ ?_ ?_⟩
      · intro x o h1 h2 h3 h4
        exact clos x o h1 (by simp [h2, h3]) h4
      · intro o ho
        simp at ho
      · rw [List.length_append, List.length_singleton]
        omega
      · rintro i σ H' _ ⟨kvs', wt, y6, rfl, _, et', _⟩
        exact SqL.of et'
      · rintro i x σ H4 hx ⟨kvs', wt, y6, rfl, S4, el4, hv4, cl4, pre4, lt4⟩
        obtain ⟨o, eo, rfl⟩ := get_vi hx
        have mo := List.mem_of_getElem? eo
        have ao : adj D v o := hF.mem_nb.mp mo
        have ro := hF.adj ao
        have pre5 : ∀ kvs2 : List (Key × V), (∀ y, isK kvs' y = true → isK kvs2 y = true) → isK kvs2 o = true → ∀ z ∈ (nb n D v).take (i + 1), isK kvs2 z = true := fun kvs2 hm ho z hz => by
          rw [List.take_add_one, eo, List.mem_append] at hz
          rcases hz with hz | hz
          · exact hm _ (pre4 z hz)
          · have : z = o := by simpa using hz
            rw [this]
            exact ho
        refine ⟨_, rfl, _, rfl, d, _, rfl, DGet.k (k := Sum.inl o) S4.ed, _, rfl, ?_⟩
        cases eo2 : valV kvs' (Sum.inl o) with
        | some z =>
          refine iteF ?_
          refine ⟨kvs', wt, _, rfl, S4, el4, hv4, cl4, pre5 kvs' (fun _ hh => hh) ?_, lt4⟩
          unfold isK lk
          rw [eo2]
          rfl
        | none =>
          refine iteT ?_
          have ko : isK kvs' o = false := by
            unfold isK lk
            rw [eo2]
            rfl
          cases ev2 : lk kvs' v with
          | none =>
            unfold isK at hv4
            rw [ev2] at hv4
            cases hv4
          | some z =>
            obtain ⟨tv, p, rfl, etv, hp, hpk⟩ := S4.way v z ev2
            have hdg : DGet H4 d (V.int v) (some (V.ref tv)) := by
              have := DGet.k (k := Sum.inl v) S4.ed
              unfold lk at ev2
              rw [ev2] at this
              exact this
            have pl := hF.short hn a0 a1 hp
            refine ⟨_, rfl, _, rfl, d, V.ref tv, rfl, hdg, _, rfl, by show 1 ≤ sizeLine; decide, fun t1 ht1 => ?_⟩
            refine ⟨tv, t1, _, _, rfl, rfl, SqT.of (same_upd ht1 _ _ etv), SqT.of upd_same, ?_, ?_, fun z => absurd z (List.cons_ne_nil _ _), fun _ t2 ht2 => ?_⟩
            · cases hp <;> exact nofun
            · rw [List.length_map]
              exact Nat.le_of_lt (small1000 (by show p.length + 1 ≤ 1000; omega))
            have S5 := (S4.same (same_upd (o := .tup [V.int o]) ht1)).same (same_upd (o := .tup (vi p ++ [V.int o])) ht2)
            have el5 := same_upd (o := .tup (vi p ++ [V.int o])) ht2 _ _ (same_upd (o := .tup [V.int o]) ht1 _ _ el4)
            obtain ⟨S6, lt6⟩ := S5.put hd gw nwd (t := t2) hp hpk ko ao ro.2.2.1 ro.2.2.2 (by rw [upd_same, vi_app]; rfl)
            have lk5 := S5.len
            have lw5 := S5.wlen
            refine ⟨_, rfl, _, rfl, d, _, rfl, DPut.k (k := Sum.inl o) S5.ed (small1000 (by omega)), ?_⟩
            have ew5 := (upd_ne (o := .dK (putK kvs' (Sum.inl o) (V.ref t2))) nwd.symm).trans S5.ew
            refine ⟨_, rfl, .inl ⟨rfl, _, SqL.of ew5⟩, _, rfl, wl, _, _, rfl, rfl, ew5, by rw [List.length_map]; exact small1000 (by omega), ?_⟩
            refine ⟨putK kvs' (Sum.inl o) (V.ref t2), wt ++ [o], _, rfl, S6, ?_, ?_, ?_, ?_, ?_⟩
            · rw [upd_ne nlw, upd_ne nld]
              exact el5
            · rw [isK_put, hv4, Bool.or_true]
            · intro y z h1 h2 h3 h4
              rw [isK_put, Bool.or_eq_true, decide_eq_true_eq] at h1
              rw [List.mem_append, not_or, List.mem_singleton] at h2
              rcases h1 with h1 | h1
              · exact absurd h1 h2.2
              · rw [isK_put, cl4 y z h1 h2.1 h3 h4, Bool.or_true]
            · refine pre5 _ (fun y hy => by rw [isK_put, hy, Bool.or_true]) ?_
              rw [isK_put, decide_eq_true rfl, Bool.true_or]
            · rw [List.length_append, List.length_singleton]
              omega
      · rintro σ H4 ⟨kvs', wt, y6, rfl, S4, et4, hv4, cl4, pre4, lt4⟩
        rw [List.length_map, List.take_length] at pre4
        refine ⟨_, lt4, kvs', wt, _, _, rfl, S4, fun x o h1 h2 h3 => ?_, rfl⟩
        by_cases e : x = v
        · subst e
          exact pre4 o (hF.mem_nb.mpr h3)
        · exact cl4 x o h1 h2 e h3
end
end Fw
namespace Fw
open PySem PySem.Spec PyProof.Rows L2
set_option maxHeartbeats 8000000
section
variable {P : Program} {w : World} {K : PySem.W.Frag} {mg : Str → Option Value} {base : Heap}
def spLaw (K : PySem.W.Frag) : Sp := fun vs H Q _ => ∃ (a : Addr) (ns : List Int), vs = [.ref a] ∧ SqL K H a (vi ns) ∧ ns.length ≤ 63 ∧ ∀ H', Q (.bl true) H'
abbrev nLaw : List Str := ["_law_script", "_law_stream_here", "_law_turn", "_law_house", "_law_placement", "_law_target", "_law_region"]
theorem scLaw : FnScope nLaw ["_law_script"] (defScope sLaw) := ⟨rfl, rfl, rfl, by decide +kernel, rfl, by decide +kernel, by decide +kernel⟩
/-- the defs of the text -/
structure All (K : PySem.W.Frag) (mg : Str → Option Value) : Prop where
  T : Nm mg
  any : mg "any" = none
  dict : mg "dict" = none
  set : mg "set" = none
  dis_integer : DefE K mg "is_integer" sIsInt ["value"]
  dneighbors : DefE K mg "neighbors" sNb ["house", "room"]
  dpath_between : DefE K mg "path_between" sPath ["house", "a", "b"]
  dcomponents : DefE K mg "components" sComp ["house", "rooms"]
  dsteps_toward : DefE K mg "steps_toward" sSteps ["house", "goal", "rooms"]
  droom_of : DefE K mg "room_of" sRoomOf ["placement", "name"]
  dpeople_in : DefE K mg "people_in" sPIn ["placement", "room"]
  dpeople_within : DefE K mg "people_within" sPWi ["placement", "rooms"]
  dpassed_rooms : DefE K mg "passed_rooms" sPassed ["house", "placement", "target", "name"]
  dpath_to_target : DefE K mg "path_to_target" sPTgt ["house", "placement", "target", "name"]
  dnext_toward_target : DefE K mg "next_toward_target" sNextT ["house", "placement", "target", "name"]
  dall_at_target : DefE K mg "all_at_target" sAllAt ["placement", "target", "rooms"]
  droom_ahead : DefE K mg "room_ahead" sAhead ["house", "placement", "target", "room"]
  dfind_certificate : DefE K mg "find_certificate" sFCert ["house", "placement", "target", "region"]
  dunwanted_rooms : DefE K mg "unwanted_rooms" sUnw ["placement", "target", "region"]
  drows_to_try : DefE K mg "rows_to_try" sRTry ["house", "placement", "target", "region", "room"]
  dregion_passing : DefE K mg "region_passing" sRPas ["house", "placement", "target", "region", "room"]
  drooms_back : DefE K mg "rooms_back" sRBack ["house", "placement", "target", "region", "room"]
  dconditions_hold : DefE K mg "conditions_hold" sCond ["house", "placement", "target", "region", "rows"]
  dhas_way_back : DefE K mg "has_way_back" sHWB ["house", "island", "back"]
  dis_certificate : DefE K mg "is_certificate" sIsCert ["house", "placement", "target", "region", "value"]
  dis_row : DefE K mg "is_row" sIsRow ["house", "placement", "target", "region", "room", "value"]
  d_law_stream : DefE K mg "_law_stream" sStream ["_law_script"]
  d_law_same : DefE K mg "_law_same" sSame ["_law_found", "_law_expected"]
  d_law_draw : DefE K mg "_law_draw" sDraw ["_law_stream_here", "_law_many"]
  d_law_names : DefE K mg "_law_names" sNames ["_law_stream_here", "_law_many"]
  d_law_neighbors : DefE K mg "_law_neighbors" sLNb ["_law_house", "_law_room"]
  d_law_connected : DefE K mg "_law_connected" sConn ["_law_house", "_law_rooms", "_law_room"]
  d_law_regions : DefE K mg "_law_regions" sLReg ["_law_house", "_law_placement"]
  d_law_path : DefE K mg "_law_path" sLPath ["_law_house", "_law_one", "_law_other"]
  d_law_passing : DefE K mg "_law_passing" sLPassing ["_law_house", "_law_placement", "_law_target", "_law_room", "_law_some"]
  d_law_free : DefE K mg "_law_free" sLFree ["_law_house", "_law_placement", "_law_target", "_law_piece"]
  d_law_still : DefE K mg "_law_still" sLStill ["_law_placement", "_law_target", "_law_piece"]
  d_law_components_left : DefE K mg "_law_components_left" sLCLeft ["_law_house", "_law_piece", "_law_room"]
  d_law_next_room : DefE K mg "_law_next_room" sLNextR ["_law_house", "_law_placement", "_law_target", "_law_room"]
  d_law_solvable : DefE K mg "_law_solvable" sLSolv ["_law_house", "_law_placement", "_law_target", "_law_piece"]
  d_law_outside : DefE K mg "_law_outside" sLOutside ["_law_house", "_law_placement", "_law_target"]
  d_law_closed_tight : DefE K mg "_law_closed_tight" sLClosed ["_law_house", "_law_placement", "_law_target"]
  d_law_unwanted : DefE K mg "_law_unwanted" sLUnw ["_law_placement", "_law_target", "_law_region"]
  d_law_is_row : DefE K mg "_law_is_row" sLIsRow ["_law_house", "_law_placement", "_law_target", "_law_region", "_law_room", "_law_thing"]
  d_law_is_certificate : DefE K mg "_law_is_certificate" sLIsCert ["_law_house", "_law_placement", "_law_target", "_law_region", "_law_thing"]
  d_law_full_house : DefE K mg "_law_full_house" sLFull ["_law_stream_here", "_law_least", "_law_most"]
  d_law_near_target : DefE K mg "_law_near_target" sLNear ["_law_stream_here", "_law_house", "_law_placement"]
  d_law_mutated : DefE K mg "_law_mutated" sMut ["_law_stream_here", "_law_thing"]
  d_law_random_rows : DefE K mg "_law_random_rows" sLRR ["_law_stream_here", "_law_house", "_law_placement", "_law_target", "_law_region"]
  d_law_any_rows : DefE K mg "_law_any_rows" sLAny ["_law_stream_here", "_law_house", "_law_placement", "_law_target", "_law_region"]
  d_law_crossing : DefE K mg "_law_crossing" sLCross ["_law_stream_here", "_law_house"]
  d_law_things : DefE K mg "_law_things" sLThg ["_law_stream_here", "_law_house", "_law_placement", "_law_target", "_law_region", "_law_outcome"]
  d_law_holds : DefE K mg "_law_holds" sLHolds ["_law_stream_here", "_law_house", "_law_placement", "_law_target", "_law_region"]
theorem ok_law {f : Addr} {fd : FuncData} (F : Fun K "law" "law" sLaw f fd) (Z : All K mg) : FnG P w K mg base 17 f fd ["_law_script"] (spLaw K) := by
  have T := Z.T
  have C_law_stream : Cal P w K mg base 1 "_law_stream" ["_law_script"] (spStream K) := Z.d_law_stream.cal fun _ _ d => ok_stream d.F T
  have C_law_connected : Cal P w K mg base 2 "_law_connected" ["_law_house", "_law_rooms", "_law_room"] (spConn K) := Z.d_law_connected.cal fun _ _ d => by
    obtain ⟨af2, bf2, f2⟩ := Z.d_law_neighbors
    exact ok_conn d.F T f2
  have C_law_outside : Cal P w K mg base 3 "_law_outside" ["_law_house", "_law_placement", "_law_target"] spLOutside := Z.d_law_outside.cal fun _ _ d => ok_loutside d.F T Z.dict (C_law_connected.up (by decide))
  have C_law_regions : Cal P w K mg base 3 "_law_regions" ["_law_house", "_law_placement"] spLReg := Z.d_law_regions.cal fun _ _ d => ok_lreg d.F T Z.set (C_law_connected.up (by decide))
  have C_law_closed_tight : Cal P w K mg base 4 "_law_closed_tight" ["_law_house", "_law_placement", "_law_target"] spLClosed := Z.d_law_closed_tight.cal fun _ _ d => ok_lclosed d.F T (C_law_outside.up (by decide)) (C_law_regions.up (by decide))
  have C_law_draw : Cal P w K mg base 1 "_law_draw" ["_law_stream_here", "_law_many"] spDraw := Z.d_law_draw.cal fun _ _ d => ok_draw d.F T
  have C_law_names : Cal P w K mg base 2 "_law_names" ["_law_stream_here", "_law_many"] spNames := Z.d_law_names.cal fun _ _ d => ok_names d.F T (C_law_draw.up (by decide))
  have C_law_full_house : Cal P w K mg base 3 "_law_full_house" ["_law_stream_here", "_law_least", "_law_most"] spLFull := Z.d_law_full_house.cal fun _ _ d => ok_lfull d.F T (C_law_draw.up (by decide)) (C_law_names.up (by decide))
  have C_law_neighbors : Cal P w K mg base 1 "_law_neighbors" ["_law_house", "_law_room"] spLNb := Z.d_law_neighbors.cal fun _ _ d => ok_lnb d.F T
  have C_law_near_target : Cal P w K mg base 2 "_law_near_target" ["_law_stream_here", "_law_house", "_law_placement"] spLNear := Z.d_law_near_target.cal fun _ _ d => ok_lnear d.F T (C_law_draw.up (by decide)) (C_law_neighbors.up (by decide))
  have C_law_crossing : Cal P w K mg base 4 "_law_crossing" ["_law_stream_here", "_law_house"] spLCross := Z.d_law_crossing.cal fun _ _ d => ok_lcross (k := 1) d.F T Z.set (C_law_draw.up (by decide)) (C_law_names.up (by decide)) (C_law_near_target.up (by decide))
  have Cpeople_within : Cal P w K mg base 1 "people_within" ["placement", "rooms"] (spPWi K) := Z.dpeople_within.cal fun _ _ d => ok_pwi d.F T
  have Croom_of : Cal P w K mg base 1 "room_of" ["placement", "name"] spRoomOf := Z.droom_of.cal fun _ _ d => ok_roomof d.F
  have Cunwanted_rooms : Cal P w K mg base 2 "unwanted_rooms" ["placement", "target", "region"] (spUnw K) := Z.dunwanted_rooms.cal fun _ _ d => ok_unw (k := 0) d.F T (Cpeople_within.up (by decide)) (Croom_of.up (by decide))
  have Cpath_between : Cal P w K mg base 3 "path_between" ["house", "a", "b"] spPath := Z.dpath_between.cal fun _ _ d => by
    obtain ⟨af2, bf2, f2⟩ := Z.dneighbors
    obtain ⟨af3, bf3, f3⟩ := Z.dsteps_toward
    exact ok_path d.F T f2 f3
  have Cpath_to_target : Cal P w K mg base 4 "path_to_target" ["house", "placement", "target", "name"] spPTgt := Z.dpath_to_target.cal fun _ _ d => ok_ptgt d.F (Cpath_between.up (by decide)) (Croom_of.up (by decide))
  have Cpassed_rooms : Cal P w K mg base 5 "passed_rooms" ["house", "placement", "target", "name"] spPassed := Z.dpassed_rooms.cal fun _ _ d => ok_passed d.F (Cpath_to_target.up (by decide))
  have Cregion_passing : Cal P w K mg base 6 "region_passing" ["house", "placement", "target", "region", "room"] (spRPas K) := Z.dregion_passing.cal fun _ _ d => ok_rpas (k := 0) d.F T (Cpeople_within.up (by decide)) (Cpassed_rooms.up (by decide))
  have Cnext_toward_target : Cal P w K mg base 5 "next_toward_target" ["house", "placement", "target", "name"] spNextP := Z.dnext_toward_target.cal fun _ _ d => ok_nextP (k := 0) d.F T (Cpath_to_target.up (by decide))
  have Cpeople_in : Cal P w K mg base 2 "people_in" ["placement", "room"] spPIn := Z.dpeople_in.cal fun _ _ d => ok_pin d.F T (Cpeople_within.up (by decide))
  have Croom_ahead : Cal P w K mg base 6 "room_ahead" ["house", "placement", "target", "room"] spAhead := Z.droom_ahead.cal fun _ _ d => ok_ahead (k := 0) d.F (Cnext_toward_target.up (by decide)) (Cpeople_in.up (by decide))
  have Cneighbors : Cal P w K mg base 1 "neighbors" ["house", "room"] spNb := Z.dneighbors.cal fun _ _ d => ok_nb d.F T
  have Crooms_back : Cal P w K mg base 7 "rooms_back" ["house", "placement", "target", "region", "room"] (spRBack K) := Z.drooms_back.cal fun _ _ d => ok_rback (k := 0) d.F T (Croom_ahead.up (by decide)) (Cneighbors.up (by decide))
  have Crows_to_try : Cal P w K mg base 8 "rows_to_try" ["house", "placement", "target", "region", "room"] (spRTry K) := Z.drows_to_try.cal fun _ _ d => ok_rtry (k := 0) d.F (Cregion_passing.up (by decide)) (Crooms_back.up (by decide))
  have Ccomponents : Cal P w K mg base 3 "components" ["house", "rooms"] (spComp K) := Z.dcomponents.cal fun _ _ d => by
    obtain ⟨af2, bf2, f2⟩ := Z.dneighbors
    obtain ⟨af3, bf3, f3⟩ := Z.dsteps_toward
    exact ok_comp d.F T Z.any f2 f3
  have Call_at_target : Cal P w K mg base 2 "all_at_target" ["placement", "target", "rooms"] (spAllAt K) := Z.dall_at_target.cal fun _ _ d => ok_allat (k := 0) d.F T (Cpeople_within.up (by decide)) (Croom_of.up (by decide))
  have Chas_way_back : Cal P w K mg base 2 "has_way_back" ["house", "island", "back"] (spHWB K) := Z.dhas_way_back.cal fun _ _ d => ok_hwb (k := 0) d.F T Z.any (Cneighbors.up (by decide))
  have Cconditions_hold : Cal P w K mg base 4 "conditions_hold" ["house", "placement", "target", "region", "rows"] (spCond K) := Z.dconditions_hold.cal fun _ _ d => ok_cond (k := 0) d.F T Z.any (Ccomponents.up (by decide)) (Call_at_target.up (by decide)) (Chas_way_back.up (by decide))
  have Cfind_certificate : Cal P w K mg base 9 "find_certificate" ["house", "placement", "target", "region"] (spFCert K) := Z.dfind_certificate.cal fun _ _ d => ok_fcert (k := 0) d.F T (Cunwanted_rooms.up (by decide)) (Crows_to_try.up (by decide)) (Cconditions_hold.up (by decide))
  have CfcertD : Cal P w K mg base 9 "find_certificate" ["house", "placement", "target", "region"] (spFCertD K) := fcertD Cfind_certificate
  have C_law_still : Cal P w K mg base 1 "_law_still" ["_law_placement", "_law_target", "_law_piece"] (spLStill K) := Z.d_law_still.cal fun _ _ d => ok_lstill (k := 0) d.F Z.dict
  have C_law_path : Cal P w K mg base 2 "_law_path" ["_law_house", "_law_one", "_law_other"] spPath := Z.d_law_path.cal fun _ _ d => by
    obtain ⟨af2, bf2, f2⟩ := Z.d_law_neighbors
    exact ok_lpath d.F T f2
  have C_law_passing : Cal P w K mg base 3 "_law_passing" ["_law_house", "_law_placement", "_law_target", "_law_room", "_law_some"] (spLPassR K) := Z.d_law_passing.cal fun _ _ d => ok_lpassR d.F T Z.dict (C_law_path.up (by decide))
  have C_law_free : Cal P w K mg base 4 "_law_free" ["_law_house", "_law_placement", "_law_target", "_law_piece"] (spLFree K) := Z.d_law_free.cal fun _ _ d => ok_lfree d.F Z.dict (C_law_passing.up (by decide))
  have C_law_next_room : Cal P w K mg base 3 "_law_next_room" ["_law_house", "_law_placement", "_law_target", "_law_room"] spLNextR := Z.d_law_next_room.cal fun _ _ d => ok_lnextr (k := 0) d.F T Z.dict (C_law_path.up (by decide))
  have C_law_components_left : Cal P w K mg base 3 "_law_components_left" ["_law_house", "_law_piece", "_law_room"] (spLCLeft K) := Z.d_law_components_left.cal fun _ _ d => ok_lcleft (k := 1) d.F T Z.set (C_law_connected.up (by decide))
  have C_law_solvable : Cal P w K mg base 13 "_law_solvable" ["_law_house", "_law_placement", "_law_target", "_law_piece"] (spLSolv K 9) := cal_lsolv Z.d_law_solvable (C_law_still.up (by decide)) (C_law_free.up (by decide)) (C_law_next_room.up (by decide)) (C_law_components_left.up (by decide)) 9
  have C_law_unwanted : Cal P w K mg base 1 "_law_unwanted" ["_law_placement", "_law_target", "_law_region"] (spLUnw K) := Z.d_law_unwanted.cal fun _ _ d => ok_lunw (k := 0) d.F Z.dict
  have C_law_is_row : CalG P w K mg base 14 "_law_is_row" ["_law_house", "_law_placement", "_law_target", "_law_region", "_law_room", "_law_thing"] (spLRowA K) := Z.d_law_is_row.calG fun _ _ d => ok_lrowA (k := 10) d.F T (C_law_passing.up (by decide)) (C_law_neighbors.up (by decide)) (C_law_next_room.up (by decide))
  have C_law_is_certificate : CalG P w K mg base 15 "_law_is_certificate" ["_law_house", "_law_placement", "_law_target", "_law_region", "_law_thing"] (spLCertA K) := Z.d_law_is_certificate.calG fun _ _ d => ok_lcertA (k := 10) d.F T Z.dict Z.set (C_law_unwanted.up (by decide)) C_law_is_row (C_law_connected.up (by decide)) (C_law_neighbors.up (by decide)) (C_law_still.up (by decide))
  have ClunwF : Cal P w K mg base 1 "_law_unwanted" ["_law_placement", "_law_target", "_law_region"] (spLUnwF K) := Z.d_law_unwanted.cal fun _ _ d => ok_lunwF (k := 0) d.F Z.dict
  have C_law_random_rows : Cal P w K mg base 4 "_law_random_rows" ["_law_stream_here", "_law_house", "_law_placement", "_law_target", "_law_region"] (spLRR K) := Z.d_law_random_rows.cal fun _ _ d => ok_lrr (k := 3) d.F T (ClunwF.up (by decide)) (C_law_passing.up (by decide)) (C_law_neighbors.up (by decide)) (C_law_draw.up (by decide))
  have Cmut2 : Cal P w K mg base 5 "_law_mutated" ["_law_stream_here", "_law_thing"] (spMut K 2) := cal_mut Z.d_law_mutated T (C_law_draw.up (by decide)) 2
  have Cmut3 : Cal P w K mg base 6 "_law_mutated" ["_law_stream_here", "_law_thing"] (spMut K 3) := cal_mut Z.d_law_mutated T (C_law_draw.up (by decide)) 3
  have ClpassB : Cal P w K mg base 3 "_law_passing" ["_law_house", "_law_placement", "_law_target", "_law_room", "_law_some"] (spLPassB K) := Z.d_law_passing.cal fun _ _ d => ok_lpassB (k := 0) d.F T Z.dict (C_law_path.up (by decide))
  have C_law_any_rows : Cal P w K mg base 5 "_law_any_rows" ["_law_stream_here", "_law_house", "_law_placement", "_law_target", "_law_region"] (spLAny K) := Z.d_law_any_rows.cal fun _ _ d => ok_lany (k := 4) d.F T (C_law_random_rows.up (by decide)) (ClpassB.up (by decide)) (C_law_draw.up (by decide))
  have C_law_things : Cal P w K mg base 7 "_law_things" ["_law_stream_here", "_law_house", "_law_placement", "_law_target", "_law_region", "_law_outcome"] (spLThg K) := Z.d_law_things.cal fun _ _ d => ok_lthg (k := 6) d.F T (C_law_random_rows.up (by decide)) (Cmut2.up (by decide)) (Cmut3.up (by decide)) (C_law_any_rows.up (by decide))
  have C_law_same : Cal P w K mg base 3 "_law_same" _ (spSame 2) := cal_same Z.d_law_same T 2
  have CintA : Cal P w K mg base 1 "is_integer" ["value"] (spIntA K) := Z.dis_integer.cal fun _ _ d => ok_inta d.F T
  have Cis_row : Cal P w K mg base 8 "is_row" ["house", "placement", "target", "region", "room", "value"] (spRowA K) := Z.dis_row.cal fun _ _ d => ok_isrow (k := 7) d.F T (CintA.up (by decide)) (Cregion_passing.up (by decide)) (Crooms_back.up (by decide))
  have Cis_certificate : Cal P w K mg base 9 "is_certificate" ["house", "placement", "target", "region", "value"] (spCertA K) := Z.dis_certificate.cal fun _ _ d => ok_iscert (k := 8) d.F T (Cunwanted_rooms.up (by decide)) (Cis_row.up (by decide)) (Cconditions_hold.up (by decide))
  have C_law_holds : CalG P w K mg base 16 "_law_holds" ["_law_stream_here", "_law_house", "_law_placement", "_law_target", "_law_region"] (spH25 K) := Z.d_law_holds.calG fun _ _ d => ok_h25 (k := 14) d.F T (CfcertD.up (by decide)) (C_law_solvable.up (by decide)) C_law_is_certificate (C_law_things.up (by decide)) (C_law_same.up (by decide)) (Cis_certificate.up (by decide))
  refine Fun.okG F scLaw (fun vs H Q E h => ?_) (fun cdv A outer s H vs Q gd hr h => ?_)
  · obtain ⟨a, ns, rfl, _⟩ := h
    rfl
  · obtain ⟨a, ns, rfl, hS, hlen, q⟩ := h
    refine ⟨_, (pss_cons (ps_set (i := 1) scLaw.nd rfl (.inl rfl) (pe_cal C_law_stream (hr.mono (by decide)) (by rfl) (pa_cons (pv 0) pa_nil)))
      (pss_cons (ps_for PassesOwn.never rfl (pi_range1 (by rfl) T.range (pa_cons pe_int pa_nil)) (pg_name (i := 2) scLaw.nd rfl (.inl rfl))
      (pss_cons (ps_asg (pe_cal C_law_full_house (hr.mono (by decide)) (by rfl) (pa_cons (pv 1) (pa_cons pe_int (pa_cons pe_int pa_nil)))) (pg_unl (by rfl) (pgs_cons (pg_name (i := 3) scLaw.nd rfl (.inl rfl)) (pgs_cons (pg_name (i := 4) scLaw.nd rfl (.inl rfl)) pgs_nil))))
       (pss_cons (ps_set (i := 5) scLaw.nd rfl (.inl rfl) (pe_cal C_law_near_target (hr.mono (by decide)) (by rfl) (pa_cons (pv 1) (pa_cons (pv 3) (pa_cons (pv 4) pa_nil)))))
       (pss_cons (ps_if (pt_not (pt_val (pe_calG C_law_holds gd (hr.mono (by decide)) (by rfl) (pa_cons (pv 1) (pa_cons (pv 3) (pa_cons (pv 4) (pa_cons (pv 5) (pa_cons (pe_tupRg (by rfl) (by rfl) T.tuple (prg_1 (by rfl) T.range (pe_ix (ix_tupK K rfl) (pv 3) pe_int (fun _ _ => rfl)))) pa_nil))))))))
       (pss_one (ps_ret pe_bl))
       pss_nil)
       (pss_cons (ps_set (i := 3) scLaw.nd rfl (.inl rfl) (pe_ix (ix_listK K rfl) (pe_cal C_law_full_house (hr.mono (by decide)) (by rfl) (pa_cons (pv 1) (pa_cons pe_int (pa_cons pe_int pa_nil)))) pe_int (fun _ _ => rfl)))
       (pss_cons (ps_asg (pe_cal C_law_crossing (hr.mono (by decide)) (by rfl) (pa_cons (pv 1) (pa_cons (pv 3) pa_nil))) (pg_unl (by rfl) (pgs_cons (pg_name (i := 4) scLaw.nd rfl (.inl rfl)) (pgs_cons (pg_name (i := 5) scLaw.nd rfl (.inl rfl)) pgs_nil))))
       (pss_one (ps_for PassesOwn.never rfl (pi_listK K rfl (pe_cal C_law_closed_tight (hr.mono (by decide)) (by rfl) (pa_cons (pv 3) (pa_cons (pv 4) (pa_cons (pv 5) pa_nil))))) (pg_name (i := 6) scLaw.nd rfl (.inl rfl))
       (pss_one (ps_if (pt_not (pt_val (pe_calG C_law_holds gd (hr.mono (by decide)) (by rfl) (pa_cons (pv 1) (pa_cons (pv 3) (pa_cons (pv 4) (pa_cons (pv 5) (pa_cons (pv 6) pa_nil))))))))
        (pss_one (ps_ret pe_bl))
        pss_nil))))))))))
      (pss_one (ps_ret pe_bl)))), ?_⟩
    refine ⟨_, rfl, a, ns, rfl, hS, hlen, fun H1 s1 A1 B1 sm1 _ _ hS1 => ?_⟩
    refine ⟨4, rfl, by decide, by decide, for_range (lo := 0) (n := 4) (fun i σ H' => ∃ y2 y3 y4 y5 y6, σ = [some (.ref a), some (.ref s1), y2, y3, y4, y5, y6] ∧ StreamAt H' s1 A1 B1 (6000 * i)) ⟨_, _, _, _, _, rfl, hS1⟩ ?_ ?_⟩
    · rintro i σ H2 hi ⟨y2, y3, y4, y5, y6, rfl, hS2⟩
      refine ⟨_, rfl, s1, A1, B1, 6000 * i, 1, 8, rfl, hS2, by omega, by decide, by decide, by decide, fun H3 l h p n D PP hS3 fr3 e3 hH3 hF ed n0 n1 hP3 pl pm => ?_⟩
      have lP : PP.length ≤ 8 := by
        have := pm.length_eq
        rw [List.length_map, rg_len] at this
        omega
      have ne : PP ≠ [] := fun e => by
        have := pm.length_eq
        rw [e, rg_len] at this
        simp only [List.map_nil, List.length_nil] at this
        omega
      have nn : (0 : Int) ≤ n := by omega
      refine ⟨l, _, rfl, SqL.of e3, rfl, _, _, rfl, _, _, rfl, rfl, ?_⟩
      refine ⟨_, rfl, _, rfl, _, rfl, s1, A1, B1, h, p, 6000 * i + 80, n, D, PP, rfl, hS3, by omega, hH3, hF, n0, n1, hP3.pl, pl, by omega, ne, fun H4 g G hS4 fr4 hG4 plG nmG => ?_⟩
      have lG : G.length = PP.length := by
        have := congrArg List.length nmG
        rw [List.length_map, List.length_map] at this
        exact this
      have sub : ∀ x ∈ PP.map (·.1), x ∈ G.map (·.1) := fun x hx => by rw [nmG]; exact hx
      have hH4 := hH3.fr hS3 fr4
      have hP4 := hP3.fr hS3 fr4
      have lr : (rg n).length ≤ 8 := by rw [rg_len]; omega
      have rne : rg n ≠ [] := fun e => by
        have := rg_len n
        rw [e] at this
        simp only [List.length_nil] at this
        omega
      obtain ⟨qd, eh⟩ := hH4.room0
      refine ⟨_, rfl, _, rfl, _, rfl, _, rfl, _, rfl, h, _, _, _, rfl, rfl, SqT.of eh, atI0, n, rfl, ⟨by omega, by omega, by omega, by omega, by omega⟩, fun rr hrr => ?_⟩
      have s6 := same_upd (o := .tup (rgV 0 n)) hrr
      have err : (upd H4 rr (.tup (rgV 0 n))) rr = some (.tup (vi (rg n))) := by
        rw [upd_same, rg_vi]
        rfl
      generalize upd H4 rr (.tup (rgV 0 n)) = H6 at *
      refine ⟨s1, A1, B1, h, p, g, rr, 6000 * i + 160, n, D, PP, G, rg n, rfl, hS4.same s6, by omega, hH4.same s6, hF, nn, n1, (hP4.same s6).pl, pl, by omega, ne, hG4.same s6, plG, by omega, sub, SqT.of err, lr, rne, Pce.whole hF ed pm pl plG, fun H7 hS7 fr7 => ⟨_, rfl, iteF ?_⟩⟩
      refine ⟨_, rfl, s1, A1, B1, _, 4, 8, rfl, hS7, by omega, by decide, by decide, by decide, fun H8 l2 h2 p2 n2 D2 P2 hS8 fr8 e8 hH8 hF2 _ m0 m1 _ _ _ => ?_⟩
      refine ⟨l2, _, _, _, rfl, rfl, SqL.of e8, atI0, ?_⟩
      refine ⟨_, rfl, _, rfl, s1, A1, B1, h2, _, n2, D2, rfl, hS8, by omega, hH8, hF2, by omega, m1, fun H9 l9 p9 g9 P9 G9 hS9 fr9 e9 hP9 pl9 lP9 _ hG9 plG9 nmG9 => ?_⟩
      have hH9 := hH8.fr hS8 fr9
      have lG9 : G9.length = P9.length := by
        have := congrArg List.length nmG9
        rw [List.length_map, List.length_map] at this
        exact this
      have sub9 : ∀ x ∈ P9.map (·.1), x ∈ G9.map (·.1) := fun x hx => by rw [nmG9]; exact hx
      refine ⟨l9, _, rfl, SqL.of e9, rfl, _, _, rfl, _, _, rfl, rfl, ?_⟩
      refine ⟨_, rfl, _, rfl, _, rfl, h2, p9, g9, n2, D2, P9, G9, rfl, hH9, hF2, by omega, m1, hP9, pl9, by omega, hG9, plG9.nodup, by omega, sub9, fun H10 lc Cs Ls s10 ec tC RL eC => ?_⟩
      have lC : Cs.length ≤ 8 := by
        have h1 := congrArg List.length eC
        rw [List.length_map] at h1
        have h2 := List.length_filter_le (ctb D2 n2 P9 G9) Ls
        have h3 := RL.few m1
        omega
      have hS10 := hS9.same s10
      have zc : Cs ≠ [] → s1 ≠ lc ∧ A1 ≠ lc := fun nc => by
        obtain ⟨big, cells, cnt, h1, h2, _⟩ := hS10.ex
        refine ⟨fun z => ?_, fun z => ?_⟩
        · rw [← z, h1] at ec
          injection ec with ec
          injection ec with ec
          have := congrArg (fun l => l[2]?) ec
          unfold refs at this
          simp only [List.getElem?_map] at this
          cases hx : Cs[2]? with
          | none => rw [hx] at this; cases this
          | some y => rw [hx] at this; cases this
        · rw [← z, h2] at ec
          injection ec with ec
          injection ec with ec
          cases Cs with
          | nil => exact nc rfl
          | cons y ys =>
            cases big with
            | nil => cases ec
            | cons x xs => injection ec with ec; cases ec
      refine ⟨lc, rfl, ⟨_, SqL.of ec⟩, for_list (K := K) (a := lc) (xs := refs Cs) (fun j σ' H' => ∃ y6, σ' = [some (.ref a), some (.ref s1), some (.int (0 + (i : Int))), some (.ref h2), some (.ref p9), some (.ref g9), y6] ∧ StreamAt H' s1 A1 B1 (6000 * i + 160 + 420 + 80 + 120 + 420 * j) ∧ Fr s1 A1 H10 H' ∧ H' lc = some (.lst (refs Cs))) ⟨_, rfl, hS10.mono (by omega), Fr.refl, ec⟩ (fun j σ' H' _ hh => ?_) ?_ ?_⟩
      · obtain ⟨_, _, _, _, e'⟩ := hh
        exact SqL.of e'
      · rintro j x σ' H11 hx ⟨y6, rfl, hS11, fr11, ec11⟩
        have zc' := zc fun e => by rw [e] at hx; cases hx
        obtain ⟨c, hc, rfl⟩ := get_refs hx
        have jl := lt_of_get hc
        have mc := List.mem_of_getElem? hc
        have mC : c.2 ∈ Ls.filter (ctb D2 n2 P9 G9) := by rw [← eC]; exact List.mem_map_of_mem (f := (·.2)) mc
        obtain ⟨k1, k2⟩ := List.mem_filter.mp mC
        obtain ⟨pc, r, qq, er⟩ := ctb_pce pl9 plG9.nodup sub9 RL k1 k2
        have l8 := pc.len pl9 m1
        have ne9 : P9 ≠ [] := fun e => by
          obtain ⟨nm, m, _⟩ := pc.who r (by rw [er]; exact List.mem_cons_self)
          rw [e] at m
          cases m
        refine ⟨_, rfl, _, rfl, _, rfl, _, rfl, _, rfl, s1, A1, B1, h2, p9, g9, c.1, _, n2, D2, P9, G9, c.2, rfl, hS11, by omega, (hH9.same s10).fr hS10 fr11, hF2, by omega, m1, (hP9.same s10).fr hS10 fr11, pl9, by omega, ne9, (hG9.same s10).fr hS10 fr11, plG9, by omega, sub9, SqT.of (fr11.tup hS10 (tC c mc).1), by omega, by rw [er]; exact List.cons_ne_nil _ _, pc, fun H12 hS12 fr12 => ⟨_, rfl, iteF ⟨_, rfl, hS12.mono (by omega), fr11.trans fr12, fr12 _ _ zc'.1.symm zc'.2.symm ec11⟩⟩⟩
      · rintro σ' H11 ⟨y6, rfl, hS11, fr11, _⟩
        rw [show (refs Cs).length = Cs.length from List.length_map ..] at hS11
        exact ⟨_, _, _, _, _, rfl, hS11.mono (by omega)⟩
    · rintro σ H2 ⟨y2, y3, y4, y5, y6, rfl, hS2⟩
      exact q _
end
end Fw
set_option maxHeartbeats 8000000
namespace Fw
open PySem L2
theorem all_mk {P : Program} {w : World} {K : PySem.W.Frag} {h : Heap} {mg : Str → Option Value} {fa : Addr} (X : K.In h) (G : h.Ns mainGlobals mg) (hfa : mg "law" = some (.ref fa))
    {f1 : Addr} {od1 an1 : Option Addr} {sl1 : Array (Option Value)} {oc1 kV1 dc1 pm1 cd1 ct1 : Value}
    (a1 : PySem.W.nsIn K mainGlobals "is_integer" = some (some (.ref f1)))
    (l1 : K.lookup f1 = some ⟨oc1, od1, .func (PySem.W.fnOf "is_integer" "is_integer" (defArgs sIsInt) (defBody sIsInt) (defScope sIsInt) .none kV1 dc1 pm1 an1 cd1 ct1), sl1⟩)
    (c1 : PySem.W.codeIn K cd1 "is_integer" = true) (k1 : PySem.W.keepIn K (.ref f1) = true)
    {f2 : Addr} {od2 an2 : Option Addr} {sl2 : Array (Option Value)} {oc2 kV2 dc2 pm2 cd2 ct2 : Value}
    (a2 : PySem.W.nsIn K mainGlobals "neighbors" = some (some (.ref f2)))
    (l2 : K.lookup f2 = some ⟨oc2, od2, .func (PySem.W.fnOf "neighbors" "neighbors" (defArgs sNb) (defBody sNb) (defScope sNb) .none kV2 dc2 pm2 an2 cd2 ct2), sl2⟩)
    (c2 : PySem.W.codeIn K cd2 "neighbors" = true) (k2 : PySem.W.keepIn K (.ref f2) = true)
    {f3 : Addr} {od3 an3 : Option Addr} {sl3 : Array (Option Value)} {oc3 kV3 dc3 pm3 cd3 ct3 : Value}
    (a3 : PySem.W.nsIn K mainGlobals "path_between" = some (some (.ref f3)))
    (l3 : K.lookup f3 = some ⟨oc3, od3, .func (PySem.W.fnOf "path_between" "path_between" (defArgs sPath) (defBody sPath) (defScope sPath) .none kV3 dc3 pm3 an3 cd3 ct3), sl3⟩)
    (c3 : PySem.W.codeIn K cd3 "path_between" = true) (k3 : PySem.W.keepIn K (.ref f3) = true)
    {f4 : Addr} {od4 an4 : Option Addr} {sl4 : Array (Option Value)} {oc4 kV4 dc4 pm4 cd4 ct4 : Value}
    (a4 : PySem.W.nsIn K mainGlobals "components" = some (some (.ref f4)))
    (l4 : K.lookup f4 = some ⟨oc4, od4, .func (PySem.W.fnOf "components" "components" (defArgs sComp) (defBody sComp) (defScope sComp) .none kV4 dc4 pm4 an4 cd4 ct4), sl4⟩)
    (c4 : PySem.W.codeIn K cd4 "components" = true) (k4 : PySem.W.keepIn K (.ref f4) = true)
    {f5 : Addr} {od5 an5 : Option Addr} {sl5 : Array (Option Value)} {oc5 kV5 dc5 pm5 cd5 ct5 : Value}
    (a5 : PySem.W.nsIn K mainGlobals "steps_toward" = some (some (.ref f5)))
    (l5 : K.lookup f5 = some ⟨oc5, od5, .func (PySem.W.fnOf "steps_toward" "steps_toward" (defArgs sSteps) (defBody sSteps) (defScope sSteps) .none kV5 dc5 pm5 an5 cd5 ct5), sl5⟩)
    (c5 : PySem.W.codeIn K cd5 "steps_toward" = true) (k5 : PySem.W.keepIn K (.ref f5) = true)
    {f6 : Addr} {od6 an6 : Option Addr} {sl6 : Array (Option Value)} {oc6 kV6 dc6 pm6 cd6 ct6 : Value}
    (a6 : PySem.W.nsIn K mainGlobals "room_of" = some (some (.ref f6)))
    (l6 : K.lookup f6 = some ⟨oc6, od6, .func (PySem.W.fnOf "room_of" "room_of" (defArgs sRoomOf) (defBody sRoomOf) (defScope sRoomOf) .none kV6 dc6 pm6 an6 cd6 ct6), sl6⟩)
    (c6 : PySem.W.codeIn K cd6 "room_of" = true) (k6 : PySem.W.keepIn K (.ref f6) = true)
    {f7 : Addr} {od7 an7 : Option Addr} {sl7 : Array (Option Value)} {oc7 kV7 dc7 pm7 cd7 ct7 : Value}
    (a7 : PySem.W.nsIn K mainGlobals "people_in" = some (some (.ref f7)))
    (l7 : K.lookup f7 = some ⟨oc7, od7, .func (PySem.W.fnOf "people_in" "people_in" (defArgs sPIn) (defBody sPIn) (defScope sPIn) .none kV7 dc7 pm7 an7 cd7 ct7), sl7⟩)
    (c7 : PySem.W.codeIn K cd7 "people_in" = true) (k7 : PySem.W.keepIn K (.ref f7) = true)
    {f8 : Addr} {od8 an8 : Option Addr} {sl8 : Array (Option Value)} {oc8 kV8 dc8 pm8 cd8 ct8 : Value}
    (a8 : PySem.W.nsIn K mainGlobals "people_within" = some (some (.ref f8)))
    (l8 : K.lookup f8 = some ⟨oc8, od8, .func (PySem.W.fnOf "people_within" "people_within" (defArgs sPWi) (defBody sPWi) (defScope sPWi) .none kV8 dc8 pm8 an8 cd8 ct8), sl8⟩)
    (c8 : PySem.W.codeIn K cd8 "people_within" = true) (k8 : PySem.W.keepIn K (.ref f8) = true)
    {f9 : Addr} {od9 an9 : Option Addr} {sl9 : Array (Option Value)} {oc9 kV9 dc9 pm9 cd9 ct9 : Value}
    (a9 : PySem.W.nsIn K mainGlobals "passed_rooms" = some (some (.ref f9)))
    (l9 : K.lookup f9 = some ⟨oc9, od9, .func (PySem.W.fnOf "passed_rooms" "passed_rooms" (defArgs sPassed) (defBody sPassed) (defScope sPassed) .none kV9 dc9 pm9 an9 cd9 ct9), sl9⟩)
    (c9 : PySem.W.codeIn K cd9 "passed_rooms" = true) (k9 : PySem.W.keepIn K (.ref f9) = true)
    {f10 : Addr} {od10 an10 : Option Addr} {sl10 : Array (Option Value)} {oc10 kV10 dc10 pm10 cd10 ct10 : Value}
    (a10 : PySem.W.nsIn K mainGlobals "path_to_target" = some (some (.ref f10)))
    (l10 : K.lookup f10 = some ⟨oc10, od10, .func (PySem.W.fnOf "path_to_target" "path_to_target" (defArgs sPTgt) (defBody sPTgt) (defScope sPTgt) .none kV10 dc10 pm10 an10 cd10 ct10), sl10⟩)
    (c10 : PySem.W.codeIn K cd10 "path_to_target" = true) (k10 : PySem.W.keepIn K (.ref f10) = true)
    {f11 : Addr} {od11 an11 : Option Addr} {sl11 : Array (Option Value)} {oc11 kV11 dc11 pm11 cd11 ct11 : Value}
    (a11 : PySem.W.nsIn K mainGlobals "next_toward_target" = some (some (.ref f11)))
    (l11 : K.lookup f11 = some ⟨oc11, od11, .func (PySem.W.fnOf "next_toward_target" "next_toward_target" (defArgs sNextT) (defBody sNextT) (defScope sNextT) .none kV11 dc11 pm11 an11 cd11 ct11), sl11⟩)
    (c11 : PySem.W.codeIn K cd11 "next_toward_target" = true) (k11 : PySem.W.keepIn K (.ref f11) = true)
    {f12 : Addr} {od12 an12 : Option Addr} {sl12 : Array (Option Value)} {oc12 kV12 dc12 pm12 cd12 ct12 : Value}
    (a12 : PySem.W.nsIn K mainGlobals "all_at_target" = some (some (.ref f12)))
    (l12 : K.lookup f12 = some ⟨oc12, od12, .func (PySem.W.fnOf "all_at_target" "all_at_target" (defArgs sAllAt) (defBody sAllAt) (defScope sAllAt) .none kV12 dc12 pm12 an12 cd12 ct12), sl12⟩)
    (c12 : PySem.W.codeIn K cd12 "all_at_target" = true) (k12 : PySem.W.keepIn K (.ref f12) = true)
    {f13 : Addr} {od13 an13 : Option Addr} {sl13 : Array (Option Value)} {oc13 kV13 dc13 pm13 cd13 ct13 : Value}
    (a13 : PySem.W.nsIn K mainGlobals "room_ahead" = some (some (.ref f13)))
    (l13 : K.lookup f13 = some ⟨oc13, od13, .func (PySem.W.fnOf "room_ahead" "room_ahead" (defArgs sAhead) (defBody sAhead) (defScope sAhead) .none kV13 dc13 pm13 an13 cd13 ct13), sl13⟩)
    (c13 : PySem.W.codeIn K cd13 "room_ahead" = true) (k13 : PySem.W.keepIn K (.ref f13) = true)
    {f14 : Addr} {od14 an14 : Option Addr} {sl14 : Array (Option Value)} {oc14 kV14 dc14 pm14 cd14 ct14 : Value}
    (a14 : PySem.W.nsIn K mainGlobals "find_certificate" = some (some (.ref f14)))
    (l14 : K.lookup f14 = some ⟨oc14, od14, .func (PySem.W.fnOf "find_certificate" "find_certificate" (defArgs sFCert) (defBody sFCert) (defScope sFCert) .none kV14 dc14 pm14 an14 cd14 ct14), sl14⟩)
    (c14 : PySem.W.codeIn K cd14 "find_certificate" = true) (k14 : PySem.W.keepIn K (.ref f14) = true)
    {f15 : Addr} {od15 an15 : Option Addr} {sl15 : Array (Option Value)} {oc15 kV15 dc15 pm15 cd15 ct15 : Value}
    (a15 : PySem.W.nsIn K mainGlobals "unwanted_rooms" = some (some (.ref f15)))
    (l15 : K.lookup f15 = some ⟨oc15, od15, .func (PySem.W.fnOf "unwanted_rooms" "unwanted_rooms" (defArgs sUnw) (defBody sUnw) (defScope sUnw) .none kV15 dc15 pm15 an15 cd15 ct15), sl15⟩)
    (c15 : PySem.W.codeIn K cd15 "unwanted_rooms" = true) (k15 : PySem.W.keepIn K (.ref f15) = true)
    {f16 : Addr} {od16 an16 : Option Addr} {sl16 : Array (Option Value)} {oc16 kV16 dc16 pm16 cd16 ct16 : Value}
    (a16 : PySem.W.nsIn K mainGlobals "rows_to_try" = some (some (.ref f16)))
    (l16 : K.lookup f16 = some ⟨oc16, od16, .func (PySem.W.fnOf "rows_to_try" "rows_to_try" (defArgs sRTry) (defBody sRTry) (defScope sRTry) .none kV16 dc16 pm16 an16 cd16 ct16), sl16⟩)
    (c16 : PySem.W.codeIn K cd16 "rows_to_try" = true) (k16 : PySem.W.keepIn K (.ref f16) = true)
    {f17 : Addr} {od17 an17 : Option Addr} {sl17 : Array (Option Value)} {oc17 kV17 dc17 pm17 cd17 ct17 : Value}
    (a17 : PySem.W.nsIn K mainGlobals "region_passing" = some (some (.ref f17)))
    (l17 : K.lookup f17 = some ⟨oc17, od17, .func (PySem.W.fnOf "region_passing" "region_passing" (defArgs sRPas) (defBody sRPas) (defScope sRPas) .none kV17 dc17 pm17 an17 cd17 ct17), sl17⟩)
    (c17 : PySem.W.codeIn K cd17 "region_passing" = true) (k17 : PySem.W.keepIn K (.ref f17) = true)
    {f18 : Addr} {od18 an18 : Option Addr} {sl18 : Array (Option Value)} {oc18 kV18 dc18 pm18 cd18 ct18 : Value}
    (a18 : PySem.W.nsIn K mainGlobals "rooms_back" = some (some (.ref f18)))
    (l18 : K.lookup f18 = some ⟨oc18, od18, .func (PySem.W.fnOf "rooms_back" "rooms_back" (defArgs sRBack) (defBody sRBack) (defScope sRBack) .none kV18 dc18 pm18 an18 cd18 ct18), sl18⟩)
    (c18 : PySem.W.codeIn K cd18 "rooms_back" = true) (k18 : PySem.W.keepIn K (.ref f18) = true)
    {f19 : Addr} {od19 an19 : Option Addr} {sl19 : Array (Option Value)} {oc19 kV19 dc19 pm19 cd19 ct19 : Value}
    (a19 : PySem.W.nsIn K mainGlobals "conditions_hold" = some (some (.ref f19)))
    (l19 : K.lookup f19 = some ⟨oc19, od19, .func (PySem.W.fnOf "conditions_hold" "conditions_hold" (defArgs sCond) (defBody sCond) (defScope sCond) .none kV19 dc19 pm19 an19 cd19 ct19), sl19⟩)
    (c19 : PySem.W.codeIn K cd19 "conditions_hold" = true) (k19 : PySem.W.keepIn K (.ref f19) = true)
    {f20 : Addr} {od20 an20 : Option Addr} {sl20 : Array (Option Value)} {oc20 kV20 dc20 pm20 cd20 ct20 : Value}
    (a20 : PySem.W.nsIn K mainGlobals "has_way_back" = some (some (.ref f20)))
    (l20 : K.lookup f20 = some ⟨oc20, od20, .func (PySem.W.fnOf "has_way_back" "has_way_back" (defArgs sHWB) (defBody sHWB) (defScope sHWB) .none kV20 dc20 pm20 an20 cd20 ct20), sl20⟩)
    (c20 : PySem.W.codeIn K cd20 "has_way_back" = true) (k20 : PySem.W.keepIn K (.ref f20) = true)
    {f21 : Addr} {od21 an21 : Option Addr} {sl21 : Array (Option Value)} {oc21 kV21 dc21 pm21 cd21 ct21 : Value}
    (a21 : PySem.W.nsIn K mainGlobals "is_certificate" = some (some (.ref f21)))
    (l21 : K.lookup f21 = some ⟨oc21, od21, .func (PySem.W.fnOf "is_certificate" "is_certificate" (defArgs sIsCert) (defBody sIsCert) (defScope sIsCert) .none kV21 dc21 pm21 an21 cd21 ct21), sl21⟩)
    (c21 : PySem.W.codeIn K cd21 "is_certificate" = true) (k21 : PySem.W.keepIn K (.ref f21) = true)
    {f22 : Addr} {od22 an22 : Option Addr} {sl22 : Array (Option Value)} {oc22 kV22 dc22 pm22 cd22 ct22 : Value}
    (a22 : PySem.W.nsIn K mainGlobals "is_row" = some (some (.ref f22)))
    (l22 : K.lookup f22 = some ⟨oc22, od22, .func (PySem.W.fnOf "is_row" "is_row" (defArgs sIsRow) (defBody sIsRow) (defScope sIsRow) .none kV22 dc22 pm22 an22 cd22 ct22), sl22⟩)
    (c22 : PySem.W.codeIn K cd22 "is_row" = true) (k22 : PySem.W.keepIn K (.ref f22) = true)
    {f23 : Addr} {od23 an23 : Option Addr} {sl23 : Array (Option Value)} {oc23 kV23 dc23 pm23 cd23 ct23 : Value}
    (a23 : PySem.W.nsIn K mainGlobals "_law_stream" = some (some (.ref f23)))
    (l23 : K.lookup f23 = some ⟨oc23, od23, .func (PySem.W.fnOf "_law_stream" "_law_stream" (defArgs sStream) (defBody sStream) (defScope sStream) .none kV23 dc23 pm23 an23 cd23 ct23), sl23⟩)
    (c23 : PySem.W.codeIn K cd23 "_law_stream" = true) (k23 : PySem.W.keepIn K (.ref f23) = true)
    {f24 : Addr} {od24 an24 : Option Addr} {sl24 : Array (Option Value)} {oc24 kV24 dc24 pm24 cd24 ct24 : Value}
    (a24 : PySem.W.nsIn K mainGlobals "_law_same" = some (some (.ref f24)))
    (l24 : K.lookup f24 = some ⟨oc24, od24, .func (PySem.W.fnOf "_law_same" "_law_same" (defArgs sSame) (defBody sSame) (defScope sSame) .none kV24 dc24 pm24 an24 cd24 ct24), sl24⟩)
    (c24 : PySem.W.codeIn K cd24 "_law_same" = true) (k24 : PySem.W.keepIn K (.ref f24) = true)
    {f25 : Addr} {od25 an25 : Option Addr} {sl25 : Array (Option Value)} {oc25 kV25 dc25 pm25 cd25 ct25 : Value}
    (a25 : PySem.W.nsIn K mainGlobals "_law_draw" = some (some (.ref f25)))
    (l25 : K.lookup f25 = some ⟨oc25, od25, .func (PySem.W.fnOf "_law_draw" "_law_draw" (defArgs sDraw) (defBody sDraw) (defScope sDraw) .none kV25 dc25 pm25 an25 cd25 ct25), sl25⟩)
    (c25 : PySem.W.codeIn K cd25 "_law_draw" = true) (k25 : PySem.W.keepIn K (.ref f25) = true)
    {f26 : Addr} {od26 an26 : Option Addr} {sl26 : Array (Option Value)} {oc26 kV26 dc26 pm26 cd26 ct26 : Value}
    (a26 : PySem.W.nsIn K mainGlobals "_law_names" = some (some (.ref f26)))
    (l26 : K.lookup f26 = some ⟨oc26, od26, .func (PySem.W.fnOf "_law_names" "_law_names" (defArgs sNames) (defBody sNames) (defScope sNames) .none kV26 dc26 pm26 an26 cd26 ct26), sl26⟩)
    (c26 : PySem.W.codeIn K cd26 "_law_names" = true) (k26 : PySem.W.keepIn K (.ref f26) = true)
    {f27 : Addr} {od27 an27 : Option Addr} {sl27 : Array (Option Value)} {oc27 kV27 dc27 pm27 cd27 ct27 : Value}
    (a27 : PySem.W.nsIn K mainGlobals "_law_neighbors" = some (some (.ref f27)))
    (l27 : K.lookup f27 = some ⟨oc27, od27, .func (PySem.W.fnOf "_law_neighbors" "_law_neighbors" (defArgs sLNb) (defBody sLNb) (defScope sLNb) .none kV27 dc27 pm27 an27 cd27 ct27), sl27⟩)
    (c27 : PySem.W.codeIn K cd27 "_law_neighbors" = true) (k27 : PySem.W.keepIn K (.ref f27) = true)
    {f28 : Addr} {od28 an28 : Option Addr} {sl28 : Array (Option Value)} {oc28 kV28 dc28 pm28 cd28 ct28 : Value}
    (a28 : PySem.W.nsIn K mainGlobals "_law_connected" = some (some (.ref f28)))
    (l28 : K.lookup f28 = some ⟨oc28, od28, .func (PySem.W.fnOf "_law_connected" "_law_connected" (defArgs sConn) (defBody sConn) (defScope sConn) .none kV28 dc28 pm28 an28 cd28 ct28), sl28⟩)
    (c28 : PySem.W.codeIn K cd28 "_law_connected" = true) (k28 : PySem.W.keepIn K (.ref f28) = true)
    {f29 : Addr} {od29 an29 : Option Addr} {sl29 : Array (Option Value)} {oc29 kV29 dc29 pm29 cd29 ct29 : Value}
    (a29 : PySem.W.nsIn K mainGlobals "_law_regions" = some (some (.ref f29)))
    (l29 : K.lookup f29 = some ⟨oc29, od29, .func (PySem.W.fnOf "_law_regions" "_law_regions" (defArgs sLReg) (defBody sLReg) (defScope sLReg) .none kV29 dc29 pm29 an29 cd29 ct29), sl29⟩)
    (c29 : PySem.W.codeIn K cd29 "_law_regions" = true) (k29 : PySem.W.keepIn K (.ref f29) = true)
    {f30 : Addr} {od30 an30 : Option Addr} {sl30 : Array (Option Value)} {oc30 kV30 dc30 pm30 cd30 ct30 : Value}
    (a30 : PySem.W.nsIn K mainGlobals "_law_path" = some (some (.ref f30)))
    (l30 : K.lookup f30 = some ⟨oc30, od30, .func (PySem.W.fnOf "_law_path" "_law_path" (defArgs sLPath) (defBody sLPath) (defScope sLPath) .none kV30 dc30 pm30 an30 cd30 ct30), sl30⟩)
    (c30 : PySem.W.codeIn K cd30 "_law_path" = true) (k30 : PySem.W.keepIn K (.ref f30) = true)
    {f31 : Addr} {od31 an31 : Option Addr} {sl31 : Array (Option Value)} {oc31 kV31 dc31 pm31 cd31 ct31 : Value}
    (a31 : PySem.W.nsIn K mainGlobals "_law_passing" = some (some (.ref f31)))
    (l31 : K.lookup f31 = some ⟨oc31, od31, .func (PySem.W.fnOf "_law_passing" "_law_passing" (defArgs sLPassing) (defBody sLPassing) (defScope sLPassing) .none kV31 dc31 pm31 an31 cd31 ct31), sl31⟩)
    (c31 : PySem.W.codeIn K cd31 "_law_passing" = true) (k31 : PySem.W.keepIn K (.ref f31) = true)
    {f32 : Addr} {od32 an32 : Option Addr} {sl32 : Array (Option Value)} {oc32 kV32 dc32 pm32 cd32 ct32 : Value}
    (a32 : PySem.W.nsIn K mainGlobals "_law_free" = some (some (.ref f32)))
    (l32 : K.lookup f32 = some ⟨oc32, od32, .func (PySem.W.fnOf "_law_free" "_law_free" (defArgs sLFree) (defBody sLFree) (defScope sLFree) .none kV32 dc32 pm32 an32 cd32 ct32), sl32⟩)
    (c32 : PySem.W.codeIn K cd32 "_law_free" = true) (k32 : PySem.W.keepIn K (.ref f32) = true)
    {f33 : Addr} {od33 an33 : Option Addr} {sl33 : Array (Option Value)} {oc33 kV33 dc33 pm33 cd33 ct33 : Value}
    (a33 : PySem.W.nsIn K mainGlobals "_law_still" = some (some (.ref f33)))
    (l33 : K.lookup f33 = some ⟨oc33, od33, .func (PySem.W.fnOf "_law_still" "_law_still" (defArgs sLStill) (defBody sLStill) (defScope sLStill) .none kV33 dc33 pm33 an33 cd33 ct33), sl33⟩)
    (c33 : PySem.W.codeIn K cd33 "_law_still" = true) (k33 : PySem.W.keepIn K (.ref f33) = true)
    {f34 : Addr} {od34 an34 : Option Addr} {sl34 : Array (Option Value)} {oc34 kV34 dc34 pm34 cd34 ct34 : Value}
    (a34 : PySem.W.nsIn K mainGlobals "_law_components_left" = some (some (.ref f34)))
    (l34 : K.lookup f34 = some ⟨oc34, od34, .func (PySem.W.fnOf "_law_components_left" "_law_components_left" (defArgs sLCLeft) (defBody sLCLeft) (defScope sLCLeft) .none kV34 dc34 pm34 an34 cd34 ct34), sl34⟩)
    (c34 : PySem.W.codeIn K cd34 "_law_components_left" = true) (k34 : PySem.W.keepIn K (.ref f34) = true)
    {f35 : Addr} {od35 an35 : Option Addr} {sl35 : Array (Option Value)} {oc35 kV35 dc35 pm35 cd35 ct35 : Value}
    (a35 : PySem.W.nsIn K mainGlobals "_law_next_room" = some (some (.ref f35)))
    (l35 : K.lookup f35 = some ⟨oc35, od35, .func (PySem.W.fnOf "_law_next_room" "_law_next_room" (defArgs sLNextR) (defBody sLNextR) (defScope sLNextR) .none kV35 dc35 pm35 an35 cd35 ct35), sl35⟩)
    (c35 : PySem.W.codeIn K cd35 "_law_next_room" = true) (k35 : PySem.W.keepIn K (.ref f35) = true)
    {f36 : Addr} {od36 an36 : Option Addr} {sl36 : Array (Option Value)} {oc36 kV36 dc36 pm36 cd36 ct36 : Value}
    (a36 : PySem.W.nsIn K mainGlobals "_law_solvable" = some (some (.ref f36)))
    (l36 : K.lookup f36 = some ⟨oc36, od36, .func (PySem.W.fnOf "_law_solvable" "_law_solvable" (defArgs sLSolv) (defBody sLSolv) (defScope sLSolv) .none kV36 dc36 pm36 an36 cd36 ct36), sl36⟩)
    (c36 : PySem.W.codeIn K cd36 "_law_solvable" = true) (k36 : PySem.W.keepIn K (.ref f36) = true)
    {f37 : Addr} {od37 an37 : Option Addr} {sl37 : Array (Option Value)} {oc37 kV37 dc37 pm37 cd37 ct37 : Value}
    (a37 : PySem.W.nsIn K mainGlobals "_law_outside" = some (some (.ref f37)))
    (l37 : K.lookup f37 = some ⟨oc37, od37, .func (PySem.W.fnOf "_law_outside" "_law_outside" (defArgs sLOutside) (defBody sLOutside) (defScope sLOutside) .none kV37 dc37 pm37 an37 cd37 ct37), sl37⟩)
    (c37 : PySem.W.codeIn K cd37 "_law_outside" = true) (k37 : PySem.W.keepIn K (.ref f37) = true)
    {f38 : Addr} {od38 an38 : Option Addr} {sl38 : Array (Option Value)} {oc38 kV38 dc38 pm38 cd38 ct38 : Value}
    (a38 : PySem.W.nsIn K mainGlobals "_law_closed_tight" = some (some (.ref f38)))
    (l38 : K.lookup f38 = some ⟨oc38, od38, .func (PySem.W.fnOf "_law_closed_tight" "_law_closed_tight" (defArgs sLClosed) (defBody sLClosed) (defScope sLClosed) .none kV38 dc38 pm38 an38 cd38 ct38), sl38⟩)
    (c38 : PySem.W.codeIn K cd38 "_law_closed_tight" = true) (k38 : PySem.W.keepIn K (.ref f38) = true)
    {f39 : Addr} {od39 an39 : Option Addr} {sl39 : Array (Option Value)} {oc39 kV39 dc39 pm39 cd39 ct39 : Value}
    (a39 : PySem.W.nsIn K mainGlobals "_law_unwanted" = some (some (.ref f39)))
    (l39 : K.lookup f39 = some ⟨oc39, od39, .func (PySem.W.fnOf "_law_unwanted" "_law_unwanted" (defArgs sLUnw) (defBody sLUnw) (defScope sLUnw) .none kV39 dc39 pm39 an39 cd39 ct39), sl39⟩)
    (c39 : PySem.W.codeIn K cd39 "_law_unwanted" = true) (k39 : PySem.W.keepIn K (.ref f39) = true)
    {f40 : Addr} {od40 an40 : Option Addr} {sl40 : Array (Option Value)} {oc40 kV40 dc40 pm40 cd40 ct40 : Value}
    (a40 : PySem.W.nsIn K mainGlobals "_law_is_row" = some (some (.ref f40)))
    (l40 : K.lookup f40 = some ⟨oc40, od40, .func (PySem.W.fnOf "_law_is_row" "_law_is_row" (defArgs sLIsRow) (defBody sLIsRow) (defScope sLIsRow) .none kV40 dc40 pm40 an40 cd40 ct40), sl40⟩)
    (c40 : PySem.W.codeIn K cd40 "_law_is_row" = true) (k40 : PySem.W.keepIn K (.ref f40) = true)
    {f41 : Addr} {od41 an41 : Option Addr} {sl41 : Array (Option Value)} {oc41 kV41 dc41 pm41 cd41 ct41 : Value}
    (a41 : PySem.W.nsIn K mainGlobals "_law_is_certificate" = some (some (.ref f41)))
    (l41 : K.lookup f41 = some ⟨oc41, od41, .func (PySem.W.fnOf "_law_is_certificate" "_law_is_certificate" (defArgs sLIsCert) (defBody sLIsCert) (defScope sLIsCert) .none kV41 dc41 pm41 an41 cd41 ct41), sl41⟩)
    (c41 : PySem.W.codeIn K cd41 "_law_is_certificate" = true) (k41 : PySem.W.keepIn K (.ref f41) = true)
    {f42 : Addr} {od42 an42 : Option Addr} {sl42 : Array (Option Value)} {oc42 kV42 dc42 pm42 cd42 ct42 : Value}
    (a42 : PySem.W.nsIn K mainGlobals "_law_full_house" = some (some (.ref f42)))
    (l42 : K.lookup f42 = some ⟨oc42, od42, .func (PySem.W.fnOf "_law_full_house" "_law_full_house" (defArgs sLFull) (defBody sLFull) (defScope sLFull) .none kV42 dc42 pm42 an42 cd42 ct42), sl42⟩)
    (c42 : PySem.W.codeIn K cd42 "_law_full_house" = true) (k42 : PySem.W.keepIn K (.ref f42) = true)
    {f43 : Addr} {od43 an43 : Option Addr} {sl43 : Array (Option Value)} {oc43 kV43 dc43 pm43 cd43 ct43 : Value}
    (a43 : PySem.W.nsIn K mainGlobals "_law_near_target" = some (some (.ref f43)))
    (l43 : K.lookup f43 = some ⟨oc43, od43, .func (PySem.W.fnOf "_law_near_target" "_law_near_target" (defArgs sLNear) (defBody sLNear) (defScope sLNear) .none kV43 dc43 pm43 an43 cd43 ct43), sl43⟩)
    (c43 : PySem.W.codeIn K cd43 "_law_near_target" = true) (k43 : PySem.W.keepIn K (.ref f43) = true)
    {f44 : Addr} {od44 an44 : Option Addr} {sl44 : Array (Option Value)} {oc44 kV44 dc44 pm44 cd44 ct44 : Value}
    (a44 : PySem.W.nsIn K mainGlobals "_law_mutated" = some (some (.ref f44)))
    (l44 : K.lookup f44 = some ⟨oc44, od44, .func (PySem.W.fnOf "_law_mutated" "_law_mutated" (defArgs sMut) (defBody sMut) (defScope sMut) .none kV44 dc44 pm44 an44 cd44 ct44), sl44⟩)
    (c44 : PySem.W.codeIn K cd44 "_law_mutated" = true) (k44 : PySem.W.keepIn K (.ref f44) = true)
    {f45 : Addr} {od45 an45 : Option Addr} {sl45 : Array (Option Value)} {oc45 kV45 dc45 pm45 cd45 ct45 : Value}
    (a45 : PySem.W.nsIn K mainGlobals "_law_random_rows" = some (some (.ref f45)))
    (l45 : K.lookup f45 = some ⟨oc45, od45, .func (PySem.W.fnOf "_law_random_rows" "_law_random_rows" (defArgs sLRR) (defBody sLRR) (defScope sLRR) .none kV45 dc45 pm45 an45 cd45 ct45), sl45⟩)
    (c45 : PySem.W.codeIn K cd45 "_law_random_rows" = true) (k45 : PySem.W.keepIn K (.ref f45) = true)
    {f46 : Addr} {od46 an46 : Option Addr} {sl46 : Array (Option Value)} {oc46 kV46 dc46 pm46 cd46 ct46 : Value}
    (a46 : PySem.W.nsIn K mainGlobals "_law_any_rows" = some (some (.ref f46)))
    (l46 : K.lookup f46 = some ⟨oc46, od46, .func (PySem.W.fnOf "_law_any_rows" "_law_any_rows" (defArgs sLAny) (defBody sLAny) (defScope sLAny) .none kV46 dc46 pm46 an46 cd46 ct46), sl46⟩)
    (c46 : PySem.W.codeIn K cd46 "_law_any_rows" = true) (k46 : PySem.W.keepIn K (.ref f46) = true)
    {f47 : Addr} {od47 an47 : Option Addr} {sl47 : Array (Option Value)} {oc47 kV47 dc47 pm47 cd47 ct47 : Value}
    (a47 : PySem.W.nsIn K mainGlobals "_law_crossing" = some (some (.ref f47)))
    (l47 : K.lookup f47 = some ⟨oc47, od47, .func (PySem.W.fnOf "_law_crossing" "_law_crossing" (defArgs sLCross) (defBody sLCross) (defScope sLCross) .none kV47 dc47 pm47 an47 cd47 ct47), sl47⟩)
    (c47 : PySem.W.codeIn K cd47 "_law_crossing" = true) (k47 : PySem.W.keepIn K (.ref f47) = true)
    {f48 : Addr} {od48 an48 : Option Addr} {sl48 : Array (Option Value)} {oc48 kV48 dc48 pm48 cd48 ct48 : Value}
    (a48 : PySem.W.nsIn K mainGlobals "_law_things" = some (some (.ref f48)))
    (l48 : K.lookup f48 = some ⟨oc48, od48, .func (PySem.W.fnOf "_law_things" "_law_things" (defArgs sLThg) (defBody sLThg) (defScope sLThg) .none kV48 dc48 pm48 an48 cd48 ct48), sl48⟩)
    (c48 : PySem.W.codeIn K cd48 "_law_things" = true) (k48 : PySem.W.keepIn K (.ref f48) = true)
    {f49 : Addr} {od49 an49 : Option Addr} {sl49 : Array (Option Value)} {oc49 kV49 dc49 pm49 cd49 ct49 : Value}
    (a49 : PySem.W.nsIn K mainGlobals "_law_holds" = some (some (.ref f49)))
    (l49 : K.lookup f49 = some ⟨oc49, od49, .func (PySem.W.fnOf "_law_holds" "_law_holds" (defArgs sLHolds) (defBody sLHolds) (defScope sLHolds) .none kV49 dc49 pm49 an49 cd49 ct49), sl49⟩)
    (c49 : PySem.W.codeIn K cd49 "_law_holds" = true) (k49 : PySem.W.keepIn K (.ref f49) = true)
    {f50 : Addr} {od50 an50 : Option Addr} {sl50 : Array (Option Value)} {oc50 kV50 dc50 pm50 cd50 ct50 : Value}
    (a50 : PySem.W.nsIn K mainGlobals "law" = some (some (.ref f50)))
    (l50 : K.lookup f50 = some ⟨oc50, od50, .func (PySem.W.fnOf "law" "law" (defArgs sLaw) (defBody sLaw) (defScope sLaw) .none kV50 dc50 pm50 an50 cd50 ct50), sl50⟩)
    (c50 : PySem.W.codeIn K cd50 "law" = true) (k50 : PySem.W.keepIn K (.ref f50) = true)
    (z_abs : PySem.W.nsIn K mainGlobals "abs" = some none) (z_len : PySem.W.nsIn K mainGlobals "len" = some none) (z_list : PySem.W.nsIn K mainGlobals "list" = some none) (z_range : PySem.W.nsIn K mainGlobals "range" = some none) (z_min : PySem.W.nsIn K mainGlobals "min" = some none) (z_max : PySem.W.nsIn K mainGlobals "max" = some none) (z_tuple : PySem.W.nsIn K mainGlobals "tuple" = some none) (z_sorted : PySem.W.nsIn K mainGlobals "sorted" = some none) (z_isinstance : PySem.W.nsIn K mainGlobals "isinstance" = some none) (z_all : PySem.W.nsIn K mainGlobals "all" = some none) (z_zip : PySem.W.nsIn K mainGlobals "zip" = some none) (z_bool : PySem.W.nsIn K mainGlobals "bool" = some none) (z_int : PySem.W.nsIn K mainGlobals "int" = some none) (z_str : PySem.W.nsIn K mainGlobals "str" = some none) (z_repr : PySem.W.nsIn K mainGlobals "repr" = some none) (z_any : PySem.W.nsIn K mainGlobals "any" = some none) (z_dict : PySem.W.nsIn K mainGlobals "dict" = some none) (z_set : PySem.W.nsIn K mainGlobals "set" = some none) : LawAt P w K mg 17 fa (spLaw K) := by
  have e := hfa.symm.trans (PySem.W.mg_of X G a50)
  cases e
  have T : Nm mg := ⟨PySem.W.mg_none_of X G z_abs, PySem.W.mg_none_of X G z_len, PySem.W.mg_none_of X G z_list, PySem.W.mg_none_of X G z_range, PySem.W.mg_none_of X G z_min, PySem.W.mg_none_of X G z_max, PySem.W.mg_none_of X G z_tuple, PySem.W.mg_none_of X G z_sorted, PySem.W.mg_none_of X G z_isinstance, PySem.W.mg_none_of X G z_all, PySem.W.mg_none_of X G z_zip, PySem.W.mg_none_of X G z_bool, PySem.W.mg_none_of X G z_int, PySem.W.mg_none_of X G z_str, PySem.W.mg_none_of X G z_repr⟩
  have F1 := fun_mk (st := sIsInt) l1 c1 k1
  have b1 := F1.binds (ps := ["value"]) fun _ _ _ _ _ _ us hl => match us, hl with | [_], _ => rfl
  have F2 := fun_mk (st := sNb) l2 c2 k2
  have b2 := F2.binds (ps := ["house", "room"]) fun _ _ _ _ _ _ us hl => match us, hl with | [_, _], _ => rfl
  have F3 := fun_mk (st := sPath) l3 c3 k3
  have b3 := F3.binds (ps := ["house", "a", "b"]) fun _ _ _ _ _ _ us hl => match us, hl with | [_, _, _], _ => rfl
  have F4 := fun_mk (st := sComp) l4 c4 k4
  have b4 := F4.binds (ps := ["house", "rooms"]) fun _ _ _ _ _ _ us hl => match us, hl with | [_, _], _ => rfl
  have F5 := fun_mk (st := sSteps) l5 c5 k5
  have b5 := F5.binds (ps := ["house", "goal", "rooms"]) fun _ _ _ _ _ _ us hl => match us, hl with | [_, _, _], _ => rfl
  have F6 := fun_mk (st := sRoomOf) l6 c6 k6
  have b6 := F6.binds (ps := ["placement", "name"]) fun _ _ _ _ _ _ us hl => match us, hl with | [_, _], _ => rfl
  have F7 := fun_mk (st := sPIn) l7 c7 k7
  have b7 := F7.binds (ps := ["placement", "room"]) fun _ _ _ _ _ _ us hl => match us, hl with | [_, _], _ => rfl
  have F8 := fun_mk (st := sPWi) l8 c8 k8
  have b8 := F8.binds (ps := ["placement", "rooms"]) fun _ _ _ _ _ _ us hl => match us, hl with | [_, _], _ => rfl
  have F9 := fun_mk (st := sPassed) l9 c9 k9
  have b9 := F9.binds (ps := ["house", "placement", "target", "name"]) fun _ _ _ _ _ _ us hl => match us, hl with | [_, _, _, _], _ => rfl
  have F10 := fun_mk (st := sPTgt) l10 c10 k10
  have b10 := F10.binds (ps := ["house", "placement", "target", "name"]) fun _ _ _ _ _ _ us hl => match us, hl with | [_, _, _, _], _ => rfl
  have F11 := fun_mk (st := sNextT) l11 c11 k11
  have b11 := F11.binds (ps := ["house", "placement", "target", "name"]) fun _ _ _ _ _ _ us hl => match us, hl with | [_, _, _, _], _ => rfl
  have F12 := fun_mk (st := sAllAt) l12 c12 k12
  have b12 := F12.binds (ps := ["placement", "target", "rooms"]) fun _ _ _ _ _ _ us hl => match us, hl with | [_, _, _], _ => rfl
  have F13 := fun_mk (st := sAhead) l13 c13 k13
  have b13 := F13.binds (ps := ["house", "placement", "target", "room"]) fun _ _ _ _ _ _ us hl => match us, hl with | [_, _, _, _], _ => rfl
  have F14 := fun_mk (st := sFCert) l14 c14 k14
  have b14 := F14.binds (ps := ["house", "placement", "target", "region"]) fun _ _ _ _ _ _ us hl => match us, hl with | [_, _, _, _], _ => rfl
  have F15 := fun_mk (st := sUnw) l15 c15 k15
  have b15 := F15.binds (ps := ["placement", "target", "region"]) fun _ _ _ _ _ _ us hl => match us, hl with | [_, _, _], _ => rfl
  have F16 := fun_mk (st := sRTry) l16 c16 k16
  have b16 := F16.binds (ps := ["house", "placement", "target", "region", "room"]) fun _ _ _ _ _ _ us hl => match us, hl with | [_, _, _, _, _], _ => rfl
  have F17 := fun_mk (st := sRPas) l17 c17 k17
  have b17 := F17.binds (ps := ["house", "placement", "target", "region", "room"]) fun _ _ _ _ _ _ us hl => match us, hl with | [_, _, _, _, _], _ => rfl
  have F18 := fun_mk (st := sRBack) l18 c18 k18
  have b18 := F18.binds (ps := ["house", "placement", "target", "region", "room"]) fun _ _ _ _ _ _ us hl => match us, hl with | [_, _, _, _, _], _ => rfl
  have F19 := fun_mk (st := sCond) l19 c19 k19
  have b19 := F19.binds (ps := ["house", "placement", "target", "region", "rows"]) fun _ _ _ _ _ _ us hl => match us, hl with | [_, _, _, _, _], _ => rfl
  have F20 := fun_mk (st := sHWB) l20 c20 k20
  have b20 := F20.binds (ps := ["house", "island", "back"]) fun _ _ _ _ _ _ us hl => match us, hl with | [_, _, _], _ => rfl
  have F21 := fun_mk (st := sIsCert) l21 c21 k21
  have b21 := F21.binds (ps := ["house", "placement", "target", "region", "value"]) fun _ _ _ _ _ _ us hl => match us, hl with | [_, _, _, _, _], _ => rfl
  have F22 := fun_mk (st := sIsRow) l22 c22 k22
  have b22 := F22.binds (ps := ["house", "placement", "target", "region", "room", "value"]) fun _ _ _ _ _ _ us hl => match us, hl with | [_, _, _, _, _, _], _ => rfl
  have F23 := fun_mk (st := sStream) l23 c23 k23
  have b23 := F23.binds (ps := ["_law_script"]) fun _ _ _ _ _ _ us hl => match us, hl with | [_], _ => rfl
  have F24 := fun_mk (st := sSame) l24 c24 k24
  have b24 := F24.binds (ps := ["_law_found", "_law_expected"]) fun _ _ _ _ _ _ us hl => match us, hl with | [_, _], _ => rfl
  have F25 := fun_mk (st := sDraw) l25 c25 k25
  have b25 := F25.binds (ps := ["_law_stream_here", "_law_many"]) fun _ _ _ _ _ _ us hl => match us, hl with | [_, _], _ => rfl
  have F26 := fun_mk (st := sNames) l26 c26 k26
  have b26 := F26.binds (ps := ["_law_stream_here", "_law_many"]) fun _ _ _ _ _ _ us hl => match us, hl with | [_, _], _ => rfl
  have F27 := fun_mk (st := sLNb) l27 c27 k27
  have b27 := F27.binds (ps := ["_law_house", "_law_room"]) fun _ _ _ _ _ _ us hl => match us, hl with | [_, _], _ => rfl
  have F28 := fun_mk (st := sConn) l28 c28 k28
  have b28 := F28.binds (ps := ["_law_house", "_law_rooms", "_law_room"]) fun _ _ _ _ _ _ us hl => match us, hl with | [_, _, _], _ => rfl
  have F29 := fun_mk (st := sLReg) l29 c29 k29
  have b29 := F29.binds (ps := ["_law_house", "_law_placement"]) fun _ _ _ _ _ _ us hl => match us, hl with | [_, _], _ => rfl
  have F30 := fun_mk (st := sLPath) l30 c30 k30
  have b30 := F30.binds (ps := ["_law_house", "_law_one", "_law_other"]) fun _ _ _ _ _ _ us hl => match us, hl with | [_, _, _], _ => rfl
  have F31 := fun_mk (st := sLPassing) l31 c31 k31
  have b31 := F31.binds (ps := ["_law_house", "_law_placement", "_law_target", "_law_room", "_law_some"]) fun _ _ _ _ _ _ us hl => match us, hl with | [_, _, _, _, _], _ => rfl
  have F32 := fun_mk (st := sLFree) l32 c32 k32
  have b32 := F32.binds (ps := ["_law_house", "_law_placement", "_law_target", "_law_piece"]) fun _ _ _ _ _ _ us hl => match us, hl with | [_, _, _, _], _ => rfl
  have F33 := fun_mk (st := sLStill) l33 c33 k33
  have b33 := F33.binds (ps := ["_law_placement", "_law_target", "_law_piece"]) fun _ _ _ _ _ _ us hl => match us, hl with | [_, _, _], _ => rfl
  have F34 := fun_mk (st := sLCLeft) l34 c34 k34
  have b34 := F34.binds (ps := ["_law_house", "_law_piece", "_law_room"]) fun _ _ _ _ _ _ us hl => match us, hl with | [_, _, _], _ => rfl
  have F35 := fun_mk (st := sLNextR) l35 c35 k35
  have b35 := F35.binds (ps := ["_law_house", "_law_placement", "_law_target", "_law_room"]) fun _ _ _ _ _ _ us hl => match us, hl with | [_, _, _, _], _ => rfl
  have F36 := fun_mk (st := sLSolv) l36 c36 k36
  have b36 := F36.binds (ps := ["_law_house", "_law_placement", "_law_target", "_law_piece"]) fun _ _ _ _ _ _ us hl => match us, hl with | [_, _, _, _], _ => rfl
  have F37 := fun_mk (st := sLOutside) l37 c37 k37
  have b37 := F37.binds (ps := ["_law_house", "_law_placement", "_law_target"]) fun _ _ _ _ _ _ us hl => match us, hl with | [_, _, _], _ => rfl
  have F38 := fun_mk (st := sLClosed) l38 c38 k38
  have b38 := F38.binds (ps := ["_law_house", "_law_placement", "_law_target"]) fun _ _ _ _ _ _ us hl => match us, hl with | [_, _, _], _ => rfl
  have F39 := fun_mk (st := sLUnw) l39 c39 k39
  have b39 := F39.binds (ps := ["_law_placement", "_law_target", "_law_region"]) fun _ _ _ _ _ _ us hl => match us, hl with | [_, _, _], _ => rfl
  have F40 := fun_mk (st := sLIsRow) l40 c40 k40
  have b40 := F40.binds (ps := ["_law_house", "_law_placement", "_law_target", "_law_region", "_law_room", "_law_thing"]) fun _ _ _ _ _ _ us hl => match us, hl with | [_, _, _, _, _, _], _ => rfl
  have F41 := fun_mk (st := sLIsCert) l41 c41 k41
  have b41 := F41.binds (ps := ["_law_house", "_law_placement", "_law_target", "_law_region", "_law_thing"]) fun _ _ _ _ _ _ us hl => match us, hl with | [_, _, _, _, _], _ => rfl
  have F42 := fun_mk (st := sLFull) l42 c42 k42
  have b42 := F42.binds (ps := ["_law_stream_here", "_law_least", "_law_most"]) fun _ _ _ _ _ _ us hl => match us, hl with | [_, _, _], _ => rfl
  have F43 := fun_mk (st := sLNear) l43 c43 k43
  have b43 := F43.binds (ps := ["_law_stream_here", "_law_house", "_law_placement"]) fun _ _ _ _ _ _ us hl => match us, hl with | [_, _, _], _ => rfl
  have F44 := fun_mk (st := sMut) l44 c44 k44
  have b44 := F44.binds (ps := ["_law_stream_here", "_law_thing"]) fun _ _ _ _ _ _ us hl => match us, hl with | [_, _], _ => rfl
  have F45 := fun_mk (st := sLRR) l45 c45 k45
  have b45 := F45.binds (ps := ["_law_stream_here", "_law_house", "_law_placement", "_law_target", "_law_region"]) fun _ _ _ _ _ _ us hl => match us, hl with | [_, _, _, _, _], _ => rfl
  have F46 := fun_mk (st := sLAny) l46 c46 k46
  have b46 := F46.binds (ps := ["_law_stream_here", "_law_house", "_law_placement", "_law_target", "_law_region"]) fun _ _ _ _ _ _ us hl => match us, hl with | [_, _, _, _, _], _ => rfl
  have F47 := fun_mk (st := sLCross) l47 c47 k47
  have b47 := F47.binds (ps := ["_law_stream_here", "_law_house"]) fun _ _ _ _ _ _ us hl => match us, hl with | [_, _], _ => rfl
  have F48 := fun_mk (st := sLThg) l48 c48 k48
  have b48 := F48.binds (ps := ["_law_stream_here", "_law_house", "_law_placement", "_law_target", "_law_region", "_law_outcome"]) fun _ _ _ _ _ _ us hl => match us, hl with | [_, _, _, _, _, _], _ => rfl
  have F49 := fun_mk (st := sLHolds) l49 c49 k49
  have b49 := F49.binds (ps := ["_law_stream_here", "_law_house", "_law_placement", "_law_target", "_law_region"]) fun _ _ _ _ _ _ us hl => match us, hl with | [_, _, _, _, _], _ => rfl
  have F50 := fun_mk (st := sLaw) l50 c50 k50
  have Z : All K mg := ⟨T, PySem.W.mg_none_of X G z_any, PySem.W.mg_none_of X G z_dict, PySem.W.mg_none_of X G z_set, ⟨_, _, ⟨F1, b1, PySem.W.mg_of X G a1⟩⟩, ⟨_, _, ⟨F2, b2, PySem.W.mg_of X G a2⟩⟩, ⟨_, _, ⟨F3, b3, PySem.W.mg_of X G a3⟩⟩, ⟨_, _, ⟨F4, b4, PySem.W.mg_of X G a4⟩⟩, ⟨_, _, ⟨F5, b5, PySem.W.mg_of X G a5⟩⟩, ⟨_, _, ⟨F6, b6, PySem.W.mg_of X G a6⟩⟩, ⟨_, _, ⟨F7, b7, PySem.W.mg_of X G a7⟩⟩, ⟨_, _, ⟨F8, b8, PySem.W.mg_of X G a8⟩⟩, ⟨_, _, ⟨F9, b9, PySem.W.mg_of X G a9⟩⟩, ⟨_, _, ⟨F10, b10, PySem.W.mg_of X G a10⟩⟩, ⟨_, _, ⟨F11, b11, PySem.W.mg_of X G a11⟩⟩, ⟨_, _, ⟨F12, b12, PySem.W.mg_of X G a12⟩⟩, ⟨_, _, ⟨F13, b13, PySem.W.mg_of X G a13⟩⟩, ⟨_, _, ⟨F14, b14, PySem.W.mg_of X G a14⟩⟩, ⟨_, _, ⟨F15, b15, PySem.W.mg_of X G a15⟩⟩, ⟨_, _, ⟨F16, b16, PySem.W.mg_of X G a16⟩⟩, ⟨_, _, ⟨F17, b17, PySem.W.mg_of X G a17⟩⟩, ⟨_, _, ⟨F18, b18, PySem.W.mg_of X G a18⟩⟩, ⟨_, _, ⟨F19, b19, PySem.W.mg_of X G a19⟩⟩, ⟨_, _, ⟨F20, b20, PySem.W.mg_of X G a20⟩⟩, ⟨_, _, ⟨F21, b21, PySem.W.mg_of X G a21⟩⟩, ⟨_, _, ⟨F22, b22, PySem.W.mg_of X G a22⟩⟩, ⟨_, _, ⟨F23, b23, PySem.W.mg_of X G a23⟩⟩, ⟨_, _, ⟨F24, b24, PySem.W.mg_of X G a24⟩⟩, ⟨_, _, ⟨F25, b25, PySem.W.mg_of X G a25⟩⟩, ⟨_, _, ⟨F26, b26, PySem.W.mg_of X G a26⟩⟩, ⟨_, _, ⟨F27, b27, PySem.W.mg_of X G a27⟩⟩, ⟨_, _, ⟨F28, b28, PySem.W.mg_of X G a28⟩⟩, ⟨_, _, ⟨F29, b29, PySem.W.mg_of X G a29⟩⟩, ⟨_, _, ⟨F30, b30, PySem.W.mg_of X G a30⟩⟩, ⟨_, _, ⟨F31, b31, PySem.W.mg_of X G a31⟩⟩, ⟨_, _, ⟨F32, b32, PySem.W.mg_of X G a32⟩⟩, ⟨_, _, ⟨F33, b33, PySem.W.mg_of X G a33⟩⟩, ⟨_, _, ⟨F34, b34, PySem.W.mg_of X G a34⟩⟩, ⟨_, _, ⟨F35, b35, PySem.W.mg_of X G a35⟩⟩, ⟨_, _, ⟨F36, b36, PySem.W.mg_of X G a36⟩⟩, ⟨_, _, ⟨F37, b37, PySem.W.mg_of X G a37⟩⟩, ⟨_, _, ⟨F38, b38, PySem.W.mg_of X G a38⟩⟩, ⟨_, _, ⟨F39, b39, PySem.W.mg_of X G a39⟩⟩, ⟨_, _, ⟨F40, b40, PySem.W.mg_of X G a40⟩⟩, ⟨_, _, ⟨F41, b41, PySem.W.mg_of X G a41⟩⟩, ⟨_, _, ⟨F42, b42, PySem.W.mg_of X G a42⟩⟩, ⟨_, _, ⟨F43, b43, PySem.W.mg_of X G a43⟩⟩, ⟨_, _, ⟨F44, b44, PySem.W.mg_of X G a44⟩⟩, ⟨_, _, ⟨F45, b45, PySem.W.mg_of X G a45⟩⟩, ⟨_, _, ⟨F46, b46, PySem.W.mg_of X G a46⟩⟩, ⟨_, _, ⟨F47, b47, PySem.W.mg_of X G a47⟩⟩, ⟨_, _, ⟨F48, b48, PySem.W.mg_of X G a48⟩⟩, ⟨_, _, ⟨F49, b49, PySem.W.mg_of X G a49⟩⟩⟩
  refine ⟨_, fun s v => ?_, fun base _ _ => ok_law F50 Z⟩
  exact .of_eq rfl
theorem tells : Tells spLaw := fun K H a ns hl hS => ⟨a, ns, rfl, hS, hl, fun _ => rfl⟩
end Fw

open PySem PySem.W PyProof.Rows in
set_option maxRecDepth 100000 in
set_option maxHeartbeats 0 in
theorem PySem.Challenge.cw_fromwithin_k25_certificates_checked_holds : PySem.Challenge.rw_fromwithin_k25_certificates_checked.Holds := by
  w_on; o_law; k_head; (case hw => w_witness2)
  k_fill
  refine Fw.walkG (l := PySem.Challenge.rw_fromwithin_k25_certificates_checked) (k := 17) Fw.tells rfl rfl ⟨rfl, by decide, by decide⟩ (fun w h Y => PySem.W.kIn_of Y) ?F
  case F =>
    intro w mg fa h KX G hmg
    refine' Fw.all_mk KX G hmg ?a1 ?l1 ?c1 ?k1 ?a2 ?l2 ?c2 ?k2 ?a3 ?l3 ?c3 ?k3 ?a4 ?l4 ?c4 ?k4 ?a5 ?l5 ?c5 ?k5 ?a6 ?l6 ?c6 ?k6 ?a7 ?l7 ?c7 ?k7 ?a8 ?l8 ?c8 ?k8 ?a9 ?l9 ?c9 ?k9 ?a10 ?l10 ?c10 ?k10 ?a11 ?l11 ?c11 ?k11 ?a12 ?l12 ?c12 ?k12 ?a13 ?l13 ?c13 ?k13 ?a14 ?l14 ?c14 ?k14 ?a15 ?l15 ?c15 ?k15 ?a16 ?l16 ?c16 ?k16 ?a17 ?l17 ?c17 ?k17 ?a18 ?l18 ?c18 ?k18 ?a19 ?l19 ?c19 ?k19 ?a20 ?l20 ?c20 ?k20 ?a21 ?l21 ?c21 ?k21 ?a22 ?l22 ?c22 ?k22 ?a23 ?l23 ?c23 ?k23 ?a24 ?l24 ?c24 ?k24 ?a25 ?l25 ?c25 ?k25 ?a26 ?l26 ?c26 ?k26 ?a27 ?l27 ?c27 ?k27 ?a28 ?l28 ?c28 ?k28 ?a29 ?l29 ?c29 ?k29 ?a30 ?l30 ?c30 ?k30 ?a31 ?l31 ?c31 ?k31 ?a32 ?l32 ?c32 ?k32 ?a33 ?l33 ?c33 ?k33 ?a34 ?l34 ?c34 ?k34 ?a35 ?l35 ?c35 ?k35 ?a36 ?l36 ?c36 ?k36 ?a37 ?l37 ?c37 ?k37 ?a38 ?l38 ?c38 ?k38 ?a39 ?l39 ?c39 ?k39 ?a40 ?l40 ?c40 ?k40 ?a41 ?l41 ?c41 ?k41 ?a42 ?l42 ?c42 ?k42 ?a43 ?l43 ?c43 ?k43 ?a44 ?l44 ?c44 ?k44 ?a45 ?l45 ?c45 ?k45 ?a46 ?l46 ?c46 ?k46 ?a47 ?l47 ?c47 ?k47 ?a48 ?l48 ?c48 ?k48 ?a49 ?l49 ?c49 ?k49 ?a50 ?l50 ?c50 ?k50 ?z_abs ?z_len ?z_list ?z_range ?z_min ?z_max ?z_tuple ?z_sorted ?z_isinstance ?z_all ?z_zip ?z_bool ?z_int ?z_str ?z_repr ?z_any ?z_dict ?z_set
    (case a1 => k_is)
    (case l1 => k_is)
    (case c1 => k_is)
    (case k1 => k_is)
    (case a2 => k_is)
    (case l2 => k_is)
    (case c2 => k_is)
    (case k2 => k_is)
    (case a3 => k_is)
    (case l3 => k_is)
    (case c3 => k_is)
    (case k3 => k_is)
    (case a4 => k_is)
    (case l4 => k_is)
    (case c4 => k_is)
    (case k4 => k_is)
    (case a5 => k_is)
    (case l5 => k_is)
    (case c5 => k_is)
    (case k5 => k_is)
    (case a6 => k_is)
    (case l6 => k_is)
    (case c6 => k_is)
    (case k6 => k_is)
    (case a7 => k_is)
    (case l7 => k_is)
    (case c7 => k_is)
    (case k7 => k_is)
    (case a8 => k_is)
    (case l8 => k_is)
    (case c8 => k_is)
    (case k8 => k_is)
    (case a9 => k_is)
    (case l9 => k_is)
    (case c9 => k_is)
    (case k9 => k_is)
    (case a10 => k_is)
    (case l10 => k_is)
    (case c10 => k_is)
    (case k10 => k_is)
    (case a11 => k_is)
    (case l11 => k_is)
    (case c11 => k_is)
    (case k11 => k_is)
    (case a12 => k_is)
    (case l12 => k_is)
    (case c12 => k_is)
    (case k12 => k_is)
    (case a13 => k_is)
    (case l13 => k_is)
    (case c13 => k_is)
    (case k13 => k_is)
    (case a14 => k_is)
    (case l14 => k_is)
    (case c14 => k_is)
    (case k14 => k_is)
    (case a15 => k_is)
    (case l15 => k_is)
    (case c15 => k_is)
    (case k15 => k_is)
    (case a16 => k_is)
    (case l16 => k_is)
    (case c16 => k_is)
    (case k16 => k_is)
    (case a17 => k_is)
    (case l17 => k_is)
    (case c17 => k_is)
    (case k17 => k_is)
    (case a18 => k_is)
    (case l18 => k_is)
    (case c18 => k_is)
    (case k18 => k_is)
    (case a19 => k_is)
    (case l19 => k_is)
    (case c19 => k_is)
    (case k19 => k_is)
    (case a20 => k_is)
    (case l20 => k_is)
    (case c20 => k_is)
    (case k20 => k_is)
    (case a21 => k_is)
    (case l21 => k_is)
    (case c21 => k_is)
    (case k21 => k_is)
    (case a22 => k_is)
    (case l22 => k_is)
    (case c22 => k_is)
    (case k22 => k_is)
    (case a23 => k_is)
    (case l23 => k_is)
    (case c23 => k_is)
    (case k23 => k_is)
    (case a24 => k_is)
    (case l24 => k_is)
    (case c24 => k_is)
    (case k24 => k_is)
    (case a25 => k_is)
    (case l25 => k_is)
    (case c25 => k_is)
    (case k25 => k_is)
    (case a26 => k_is)
    (case l26 => k_is)
    (case c26 => k_is)
    (case k26 => k_is)
    (case a27 => k_is)
    (case l27 => k_is)
    (case c27 => k_is)
    (case k27 => k_is)
    (case a28 => k_is)
    (case l28 => k_is)
    (case c28 => k_is)
    (case k28 => k_is)
    (case a29 => k_is)
    (case l29 => k_is)
    (case c29 => k_is)
    (case k29 => k_is)
    (case a30 => k_is)
    (case l30 => k_is)
    (case c30 => k_is)
    (case k30 => k_is)
    (case a31 => k_is)
    (case l31 => k_is)
    (case c31 => k_is)
    (case k31 => k_is)
    (case a32 => k_is)
    (case l32 => k_is)
    (case c32 => k_is)
    (case k32 => k_is)
    (case a33 => k_is)
    (case l33 => k_is)
    (case c33 => k_is)
    (case k33 => k_is)
    (case a34 => k_is)
    (case l34 => k_is)
    (case c34 => k_is)
    (case k34 => k_is)
    (case a35 => k_is)
    (case l35 => k_is)
    (case c35 => k_is)
    (case k35 => k_is)
    (case a36 => k_is)
    (case l36 => k_is)
    (case c36 => k_is)
    (case k36 => k_is)
    (case a37 => k_is)
    (case l37 => k_is)
    (case c37 => k_is)
    (case k37 => k_is)
    (case a38 => k_is)
    (case l38 => k_is)
    (case c38 => k_is)
    (case k38 => k_is)
    (case a39 => k_is)
    (case l39 => k_is)
    (case c39 => k_is)
    (case k39 => k_is)
    (case a40 => k_is)
    (case l40 => k_is)
    (case c40 => k_is)
    (case k40 => k_is)
    (case a41 => k_is)
    (case l41 => k_is)
    (case c41 => k_is)
    (case k41 => k_is)
    (case a42 => k_is)
    (case l42 => k_is)
    (case c42 => k_is)
    (case k42 => k_is)
    (case a43 => k_is)
    (case l43 => k_is)
    (case c43 => k_is)
    (case k43 => k_is)
    (case a44 => k_is)
    (case l44 => k_is)
    (case c44 => k_is)
    (case k44 => k_is)
    (case a45 => k_is)
    (case l45 => k_is)
    (case c45 => k_is)
    (case k45 => k_is)
    (case a46 => k_is)
    (case l46 => k_is)
    (case c46 => k_is)
    (case k46 => k_is)
    (case a47 => k_is)
    (case l47 => k_is)
    (case c47 => k_is)
    (case k47 => k_is)
    (case a48 => k_is)
    (case l48 => k_is)
    (case c48 => k_is)
    (case k48 => k_is)
    (case a49 => k_is)
    (case l49 => k_is)
    (case c49 => k_is)
    (case k49 => k_is)
    (case a50 => k_is)
    (case l50 => k_is)
    (case c50 => k_is)
    (case k50 => k_is)
    (case z_abs => k_is)
    (case z_len => k_is)
    (case z_list => k_is)
    (case z_range => k_is)
    (case z_min => k_is)
    (case z_max => k_is)
    (case z_tuple => k_is)
    (case z_sorted => k_is)
    (case z_isinstance => k_is)
    (case z_all => k_is)
    (case z_zip => k_is)
    (case z_bool => k_is)
    (case z_int => k_is)
    (case z_str => k_is)
    (case z_repr => k_is)
    (case z_any => k_is)
    (case z_dict => k_is)
    (case z_set => k_is)
