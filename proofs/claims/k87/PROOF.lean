import PyProof.Rows.All
import Wide.All
import OpenK.AllK
import Wide.FinOn
import HandS.ForMost
import HandS.Head0
import HandS.Head1
import HandS.Head2
import HandS.Wide
import HandS.Conv
import HandS.Style
import HandS.Sort
import HandS.SortRule
import HandS.SortInts
import HandS.Deep
import HandS.Text
import HandS.Words
import HandS.IsInst
import HandS.More
import HandS.TupSets
import HandS.Zip
import HandS.Walk
import KE.KDictPairs
import PyProof.EqKinds
import HandS.TupAny
import HandS.ExcInit
import HandS.ExcField
import HandS.SetFor
import KE.KExcIs
import HandS.ExcOwn
import HandS.TryMany
import HandS.WordsExc
import KE.KTryMore
import HandS.HotCalls
import KE.GoesMore
import HandS.FStr
import KE.KxAffix
import HandS.Star
import PyProof.StrLawsTight
import PyProof.StrLawsChain
import KE.SortData
import PyProof.TupleOfSeq
import HandS.TupLe
import PySem.Challenge.RW_fromwithin_k87_whole_texts_round_trip
set_option Elab.async false
set_option linter.all false
set_option maxRecDepth 100000
set_option maxHeartbeats 8000000
namespace FwH
open PySem PySem.W PySem.Calls PyProof.Rows
abbrev hR : OpenRow := OpenLaw.row PySem.Challenge.rw_fromwithin_k87_whole_texts_round_trip
abbrev hV : Program := view hR.prog [69]
def hN0 : List PySem.Str := [PySem.Str.ofString "__name__", PySem.Str.ofString "HouseError", PySem.Str.ofString "UnknownPerson", PySem.Str.ofString "InvalidRoom", PySem.Str.ofString "NotAdjacent", PySem.Str.ofString "EmptyRoom", PySem.Str.ofString "InvalidMoves", PySem.Str.ofString "OtherRegion", PySem.Str.ofString "TightRegion", PySem.Str.ofString "Blocked", PySem.Str.ofString "InvalidName", PySem.Str.ofString "DuplicateName", PySem.Str.ofString "LimitReached", PySem.Str.ofString "AlreadyAdjacent", PySem.Str.ofString "WouldFormCycle", PySem.Str.ofString "NothingToUndo", PySem.Str.ofString "HistoryFull", PySem.Str.ofString "SessionBusy", PySem.Str.ofString "InvalidActions", PySem.Str.ofString "BatchFailed", PySem.Str.ofString "InvalidMoment", PySem.Str.ofString "InvalidHouse", PySem.Str.ofString "InvalidPlacement", PySem.Str.ofString "InvalidText", PySem.Str.ofString "MAX_ROOMS", PySem.Str.ofString "MAX_PEOPLE", PySem.Str.ofString "LONGEST_NAME", PySem.Str.ofString "is_integer", PySem.Str.ofString "is_name", PySem.Str.ofString "is_pair", PySem.Str.ofString "is_ascending", PySem.Str.ofString "is_house", PySem.Str.ofString "is_room", PySem.Str.ofString "is_door", PySem.Str.ofString "has_cycle", PySem.Str.ofString "neighbors", PySem.Str.ofString "path_between", PySem.Str.ofString "steps_toward", PySem.Str.ofString "is_placement", PySem.Str.ofString "is_person_in_room"]
def hN1 : List PySem.Str := [PySem.Str.ofString "is_target", PySem.Str.ofString "names_of", PySem.Str.ofString "room_of", PySem.Str.ofString "LINE_FEED", PySem.Str.ofString "format_house", PySem.Str.ofString "format_placement", PySem.Str.ofString "joined", PySem.Str.ofString "parse_house", PySem.Str.ofString "split_lines", PySem.Str.ofString "house_with_line", PySem.Str.ofString "is_digit", PySem.Str.ofString "parse_placement", PySem.Str.ofString "_law_stream", PySem.Str.ofString "_law_same", PySem.Str.ofString "_law_names", PySem.Str.ofString "_law_draw", PySem.Str.ofString "_law_house", PySem.Str.ofString "_law_placement", PySem.Str.ofString "_law_error_class", PySem.Str.ofString "_law_text_case", PySem.Str.ofString "_law_parse_outcome", PySem.Str.ofString "_law_changed_text", PySem.Str.ofString "_law_text_stable", PySem.Str.ofString "_law_prefixes_right"]
def hN : List PySem.Str := hN0 ++ hN1
theorem laid {P : Prop} (H : Hook) (h : ∀ H' : Hook, H' = H → P) : P := h H rfl
local macro_rules | `(tactic| o_head $H) => `(tactic| refine FwH.laid $H ?_)
noncomputable def hPut (a : Params → Frag) (b : List Addr) (_ : (∀ (K : Params → Frag) (as : List Addr) (e : ∀ P, as = (K P).map (·.1)) (H : Hook), H = kHook K as e → K = a → as = b → hR.Holds) → hR.Holds) : (Params → Frag) × List Addr := (a, b)
noncomputable def hK : (Params → Frag) × List Addr := by
  apply hPut
  intro put
  k_head
  intro H' e
  exact put _ _ _ _ e rfl rfl
theorem hE : ∀ P, hK.2 = (hK.heap_1 P).map (·.1) := fun _ => by kernel_rfl
abbrev Run (w : World) : Prop := HandSHeadRun.RunEq hR hV (kHook hK.heap_1 hK.2 hE) (fun s => hK.2.map (HandSHeadRun.getT s)) 30000 hN w
set_option maxHeartbeats 0 in
theorem run_f (w : World) : Run (w.withFollow "special-get-raises" false) := by
  intro os
  kernel_rfl
set_option maxHeartbeats 0 in
theorem run_t (w : World) : Run (w.withFollow "special-get-raises" true) := by
  intro os
  kernel_rfl
end FwH
/-! Forests grown room by room: simple ways in them are unique. -/
namespace Fw
def adj (D : List (Int × Int)) (a b : Int) : Prop := (a, b) ∈ D ∨ (b, a) ∈ D
theorem adj_symm {D : List (Int × Int)} {a b : Int} (h : adj D a b) : adj D b a := h.symm
/-- a way without a room twice -/
inductive SP (R : Int → Int → Prop) : Int → Int → List Int → Prop
  | one (a : Int) : SP R a a [a]
  | cons {a c b : Int} {p : List Int} : R a c → SP R c b p → a ∉ p → SP R a b (a :: p)
section
variable {R R' : Int → Int → Prop}
theorem SP.head {a b : Int} {p : List Int} (h : SP R a b p) : a ∈ p := by
  cases h <;> simp
theorem SP.last {a b : Int} {p : List Int} (h : SP R a b p) : b ∈ p := by
  induction h with
  | one a => simp
  | cons _ _ _ ih => exact List.mem_cons_of_mem _ ih
theorem SP.loop {a : Int} {p : List Int} (h : SP R a a p) : p = [a] := by
  cases h with
  | one => rfl
  | cons r q n => exact absurd q.last n
theorem SP.nodup {a b : Int} {p : List Int} (h : SP R a b p) : p.Nodup := by
  induction h with
  | one a => simp
  | cons _ _ n ih => exact List.nodup_cons.mpr ⟨n, ih⟩
theorem SP.snoc {a b c : Int} {p : List Int} (h : SP R a b p) (r : R b c) (n : c ∉ p) : SP R a c (p ++ [c]) := by
  induction h with
  | one a =>
    refine .cons r (.one c) ?_
    intro e
    have e : a = c := List.mem_singleton.mp e
    exact n (by rw [e]; simp)
  | cons r' q n' ih =>
    rename_i a' c' b' p'
    rw [List.mem_cons, not_or] at n
    refine .cons r' (ih r n.2) ?_
    intro e
    rcases List.mem_append.mp e with e | e
    · exact n' e
    · exact n.1 (List.mem_singleton.mp e).symm
theorem SP.map {a b : Int} {p : List Int} (h : SP R a b p) (f : ∀ x y, x ∈ p → y ∈ p → R x y → R' x y) : SP R' a b p := by
  induction h with
  | one a => exact .one a
  | cons r q n ih =>
    exact .cons (f _ _ (List.mem_cons_self ..) (List.mem_cons_of_mem _ q.head) r) (ih fun x y hx hy => f x y (List.mem_cons_of_mem _ hx) (List.mem_cons_of_mem _ hy)) n
/-- what is closed under R and holds the end holds the start, and the other way -/
theorem SP.back {S : Int → Prop} (hs : ∀ x y, R x y → S y → S x) {a b : Int} {p : List Int} (h : SP R a b p) (e : S b) : S a := by
  induction h with
  | one a => exact e
  | cons r _ _ ih => exact hs _ _ r (ih e)
end
def Uniq (R : Int → Int → Prop) : Prop := ∀ a b p q, SP R a b p → SP R a b q → p = q
section
variable {R R' : Int → Int → Prop} {u v : Int}
/-- one more leaf v, on u -/
structure Leaf (R R' : Int → Int → Prop) (u v : Int) : Prop where
  iff : ∀ x y, R' x y ↔ (R x y ∨ (x = u ∧ y = v) ∨ (x = v ∧ y = u))
  no1 : ∀ x, ¬ R v x
  no2 : ∀ x, ¬ R x v
  ne : u ≠ v
theorem Leaf.into (L : Leaf R R' u v) {x : Int} (h : R' x v) : x = u := by
  rcases (L.iff x v).mp h with h | h | h
  · exact absurd h (L.no2 x)
  · exact h.1
  · exact absurd h.2.symm L.ne
theorem Leaf.out (L : Leaf R R' u v) {x : Int} (h : R' v x) : x = u := by
  rcases (L.iff v x).mp h with h | h | h
  · exact absurd h (L.no1 x)
  · exact absurd h.1.symm L.ne
  · exact h.2
theorem Leaf.off (L : Leaf R R' u v) {x y : Int} (hx : x ≠ v) (hy : y ≠ v) (h : R' x y) : R x y := by
  rcases (L.iff x y).mp h with h | h | h
  · exact h
  · exact absurd h.2 hy
  · exact absurd h.1 hx
theorem Leaf.avoid (L : Leaf R R' u v) {a b : Int} {p : List Int} (h : SP R' a b p) (n : v ∉ p) : SP R a b p :=
  h.map fun x y hx hy r => L.off (fun e => n (e ▸ hx)) (fun e => n (e ▸ hy)) r
theorem Leaf.free (L : Leaf R R' u v) {a b : Int} {p : List Int} (h : SP R' a b p) (ha : a ≠ v) (hb : b ≠ v) : v ∉ p := by
  induction h with
  | one a =>
    intro e
    rw [List.mem_singleton] at e
    exact ha e.symm
  | cons r q n ih =>
    rename_i a' c' b' p'
    by_cases hc : c' = v
    · subst hc
      have e := L.into r
      cases q with
      | one => exact absurd rfl hb
      | cons r2 q2 n2 =>
        rename_i c2 p2
        have e2 := L.out r2
        exact absurd (List.mem_cons_of_mem _ (e ▸ e2 ▸ q2.head)) n
    · intro e
      rw [List.mem_cons] at e
      rcases e with e | e
      · exact ha e.symm
      · exact ih hc hb e
theorem Leaf.from (L : Leaf R R' u v) {b : Int} {p : List Int} (h : SP R' v b p) (hb : b ≠ v) : ∃ p', p = v :: p' ∧ SP R u b p' := by
  cases h with
  | one => exact absurd rfl hb
  | cons r q n =>
    rename_i c p'
    have e := L.out r
    subst e
    exact ⟨p', rfl, L.avoid q n⟩
theorem Leaf.to (L : Leaf R R' u v) {a b : Int} {p : List Int} (h : SP R' a b p) : a ≠ v → b = v → ∃ p', p = p' ++ [v] ∧ SP R a u p' := by
  induction h with
  | one a =>
    intro h1 h2
    exact absurd h2 h1
  | cons r q n ih =>
    rename_i a' c' b' p'
    intro h1 h2
    by_cases hc : c' = v
    · subst hc
      subst h2
      have e := L.into r
      subst e
      have e2 := q.loop
      subst e2
      exact ⟨[a'], rfl, .one _⟩
    · obtain ⟨p2, e, q2⟩ := ih hc h2
      refine ⟨a' :: p2, by rw [e]; rfl, .cons (L.off h1 hc r) q2 ?_⟩
      intro m
      exact n (by rw [e]; exact List.mem_append_left _ m)
theorem Leaf.uniq (L : Leaf R R' u v) (U : Uniq R) : Uniq R' := by
  intro a b p q hp hq
  by_cases ha : a = v
  · subst ha
    by_cases hb : b = a
    · subst hb
      rw [hp.loop, hq.loop]
    · obtain ⟨p', e1, s1⟩ := L.from hp hb
      obtain ⟨q', e2, s2⟩ := L.from hq hb
      rw [e1, e2, U _ _ _ _ s1 s2]
  · by_cases hb : b = v
    · obtain ⟨p', e1, s1⟩ := L.to hp ha hb
      obtain ⟨q', e2, s2⟩ := L.to hq ha hb
      rw [e1, e2, U _ _ _ _ s1 s2]
    · exact U _ _ _ _ (L.avoid hp (L.free hp ha hb)) (L.avoid hq (L.free hq ha hb))
end
/-- a forest, room by room: the rooms that stand, and the doors -/
inductive Grown : List Int → List (Int × Int) → Prop
  | nil : Grown [] []
  | room {U : List Int} {E : List (Int × Int)} (v : Int) : Grown U E → v ∉ U → Grown (v :: U) E
  | door {U : List Int} {E : List (Int × Int)} (v u a b : Int) : Grown U E → v ∉ U → u ∈ U → (a = min u v ∧ b = max u v) → Grown (v :: U) ((a, b) :: E)
theorem minmax (u v a b : Int) (h : a = min u v ∧ b = max u v) : (a = u ∧ b = v ∧ u ≤ v) ∨ (a = v ∧ b = u ∧ v ≤ u) := by
  omega
theorem Grown.ends {U : List Int} {E : List (Int × Int)} (g : Grown U E) : ∀ a b, (a, b) ∈ E → a ∈ U ∧ b ∈ U ∧ a < b := by
  induction g with
  | nil => intro a b h; cases h
  | room v g n ih => intro a b h; exact ⟨List.mem_cons_of_mem _ (ih a b h).1, List.mem_cons_of_mem _ (ih a b h).2.1, (ih a b h).2.2⟩
  | door v u x y g n hu hm ih =>
    intro a b h
    have hne : u ≠ v := fun e => n (e ▸ hu)
    rw [List.mem_cons] at h
    rcases h with h | h
    · injection h with h1 h2
      subst h1 h2
      rcases minmax u v a b hm with ⟨h1, h2, h3⟩ | ⟨h1, h2, h3⟩
      · subst h1 h2
        exact ⟨List.mem_cons_of_mem _ hu, List.mem_cons_self .., by omega⟩
      · subst h1 h2
        exact ⟨List.mem_cons_self .., List.mem_cons_of_mem _ hu, by omega⟩
    · exact ⟨List.mem_cons_of_mem _ (ih a b h).1, List.mem_cons_of_mem _ (ih a b h).2.1, (ih a b h).2.2⟩
theorem Grown.nodup {U : List Int} {E : List (Int × Int)} (g : Grown U E) : E.Nodup := by
  induction g with
  | nil => exact List.nodup_nil
  | room v g n ih => exact ih
  | door v u x y g n hu hm ih =>
    refine List.nodup_cons.mpr ⟨fun h => ?_, ih⟩
    have e := g.ends x y h
    rcases minmax u v x y hm with ⟨h1, h2, _⟩ | ⟨h1, h2, _⟩
    · exact n (h2 ▸ e.2.1)
    · exact n (h1 ▸ e.1)
theorem Grown.length {U : List Int} {E : List (Int × Int)} (g : Grown U E) : E.length ≤ U.length := by
  induction g with
  | nil => exact Nat.le_refl _
  | room v g n ih => exact Nat.le_succ_of_le ih
  | door v u x y g n hu hm ih => exact Nat.succ_le_succ ih
theorem Grown.uniq {U : List Int} {E : List (Int × Int)} (g : Grown U E) : Uniq (adj E) := by
  induction g with
  | nil =>
    intro a b p q hp hq
    have k : ∀ {p : List Int}, SP (adj []) a b p → p = [a] := by
      intro p hp
      cases hp with
      | one => rfl
      | cons r _ _ => rcases r with r | r <;> cases r
    rw [k hp, k hq]
  | room v g n ih => exact ih
  | @door U E v u x y g n hu hm ih =>
    have L : Leaf (adj E) (adj ((x, y) :: E)) u v := by
      refine ⟨fun a b => ?_, fun z h => ?_, fun z h => ?_, fun e => n (e ▸ hu)⟩
      · unfold adj
        simp only [List.mem_cons, Prod.mk.injEq]
        rcases minmax u v x y hm with ⟨h1, h2, _⟩ | ⟨h1, h2, _⟩
        · subst h1 h2
          constructor
          · rintro ((h | h) | (h | h))
            · exact .inr (.inl h)
            · exact .inl (.inl h)
            · exact .inr (.inr ⟨h.2, h.1⟩)
            · exact .inl (.inr h)
          · rintro ((h | h) | h | h)
            · exact .inl (.inr h)
            · exact .inr (.inr h)
            · exact .inl (.inl h)
            · exact .inr (.inl ⟨h.2, h.1⟩)
        · subst h1 h2
          constructor
          · rintro ((h | h) | (h | h))
            · exact .inr (.inr h)
            · exact .inl (.inl h)
            · exact .inr (.inl ⟨h.2, h.1⟩)
            · exact .inl (.inr h)
          · rintro ((h | h) | h | h)
            · exact .inl (.inr h)
            · exact .inr (.inr h)
            · exact .inr (.inl ⟨h.2, h.1⟩)
            · exact .inl (.inl h)
      · rcases h with h | h
        · exact n (g.ends _ _ h).1
        · exact n (g.ends _ _ h).2.1
      · rcases h with h | h
        · exact n (g.ends _ _ h).2.1
        · exact n (g.ends _ _ h).1
    exact L.uniq ih
/-- a door stands ahead of another -/
def Dlt (a b : Int × Int) : Prop := a.1 < b.1 ∨ (a.1 = b.1 ∧ a.2 < b.2)
/-- a forest of n rooms, as an ascending list of doors -/
def Forest (n : Int) (D : List (Int × Int)) : Prop := ∃ U E, Grown U E ∧ (∀ x, x ∈ U ↔ 0 ≤ x ∧ x < n) ∧ D.Perm E ∧ U.length ≤ 8 ∧ D.Pairwise Dlt
theorem adj_perm {D E : List (Int × Int)} (h : D.Perm E) : adj D = adj E := by
  funext a b
  unfold adj
  rw [h.mem_iff, h.mem_iff]
theorem Forest.uniq {n : Int} {D : List (Int × Int)} (f : Forest n D) : Uniq (adj D) := by
  obtain ⟨U, E, g, _, p, _⟩ := f
  rw [adj_perm p]
  exact g.uniq
theorem Forest.nodup {n : Int} {D : List (Int × Int)} (f : Forest n D) : D.Nodup := by
  obtain ⟨U, E, g, _, p, _⟩ := f
  exact p.nodup_iff.mpr g.nodup
theorem Forest.up {n : Int} {D : List (Int × Int)} (f : Forest n D) : D.Pairwise Dlt := by
  obtain ⟨U, E, _, _, _, _, u⟩ := f
  exact u
theorem Forest.len {n : Int} {D : List (Int × Int)} (f : Forest n D) : D.length ≤ 8 := by
  obtain ⟨U, E, g, _, p, l, _⟩ := f
  rw [p.length_eq]
  exact Nat.le_trans g.length l
theorem Forest.ends {n : Int} {D : List (Int × Int)} (f : Forest n D) {a b : Int} (h : (a, b) ∈ D) : 0 ≤ a ∧ a < b ∧ b < n := by
  obtain ⟨U, E, g, u, p, _⟩ := f
  have e := g.ends a b (p.mem_iff.mp h)
  exact ⟨((u a).mp e.1).1, e.2.2, ((u b).mp e.2.1).2⟩
theorem Forest.adj {n : Int} {D : List (Int × Int)} (f : Forest n D) {a b : Int} (h : adj D a b) : 0 ≤ a ∧ a < n ∧ 0 ≤ b ∧ b < n := by
  rcases h with h | h
  · have e := f.ends h; omega
  · have e := f.ends h; omega
/-- the adjacent rooms, ascending -/
def nb (n : Int) (D : List (Int × Int)) (r : Int) : List Int := ((List.range n.toNat).map fun (i : Nat) => (i : Int)).filter fun o => decide ((r, o) ∈ D) || decide ((o, r) ∈ D)
theorem mem_nb {n : Int} {D : List (Int × Int)} {r o : Int} : o ∈ nb n D r ↔ (0 ≤ o ∧ o < n) ∧ adj D r o := by
  unfold nb adj
  rw [List.mem_filter, List.mem_map]
  simp only [List.mem_range, Bool.or_eq_true, decide_eq_true_eq]
  constructor
  · rintro ⟨⟨i, hi, rfl⟩, h⟩
    exact ⟨⟨by omega, by omega⟩, h⟩
  · rintro ⟨⟨h0, h1⟩, h⟩
    exact ⟨⟨o.toNat, by omega, by omega⟩, h⟩
theorem Forest.mem_nb {n : Int} {D : List (Int × Int)} (f : Forest n D) {r o : Int} : o ∈ nb n D r ↔ Fw.adj D r o := by
  rw [Fw.mem_nb]
  exact ⟨fun h => h.2, fun h => ⟨⟨(f.adj h).2.2.1, (f.adj h).2.2.2⟩, h⟩⟩
theorem range_up (n : Nat) : ((List.range n).map fun (i : Nat) => (i : Int)).Pairwise (· < ·) := by
  rw [List.pairwise_map]
  exact List.pairwise_lt_range.imp fun h => by omega
theorem nb_up (n : Int) (D : List (Int × Int)) (r : Int) : (nb n D r).Pairwise (· < ·) := (range_up _).filter _
/-- two ascending lists with the same members are one -/
theorem up_ext : ∀ {xs ys : List Int}, xs.Pairwise (· < ·) → ys.Pairwise (· < ·) → (∀ x, x ∈ xs ↔ x ∈ ys) → xs = ys
  | [], [], _, _, _ => rfl
  | [], y :: ys, _, _, h => absurd ((h y).mpr (List.mem_cons_self ..)) (by simp)
  | x :: xs, [], _, _, h => absurd ((h x).mp (List.mem_cons_self ..)) (by simp)
  | x :: xs, y :: ys, hx, hy, h => by
    obtain ⟨hx1, hx2⟩ := List.pairwise_cons.mp hx
    obtain ⟨hy1, hy2⟩ := List.pairwise_cons.mp hy
    have e : x = y := by
      have h1 := (h x).mp (List.mem_cons_self ..)
      have h2 := (h y).mpr (List.mem_cons_self ..)
      rw [List.mem_cons] at h1 h2
      rcases h1 with h1 | h1
      · exact h1
      · rcases h2 with h2 | h2
        · exact h2.symm
        · have := hy1 _ h1
          have := hx1 _ h2
          omega
    subst e
    rw [up_ext hx2 hy2 fun z => ?_]
    have hz := h z
    rw [List.mem_cons, List.mem_cons] at hz
    constructor
    · intro m
      rcases hz.mp (.inr m) with e | e
      · subst e; have := hx1 _ m; omega
      · exact e
    · intro m
      rcases hz.mpr (.inr m) with e | e
      · subst e; have := hy1 _ m; omega
      · exact e
theorem up_of {xs : List Int} (h : xs.Pairwise (· ≤ ·)) (n : xs.Nodup) : xs.Pairwise (· < ·) := by
  refine (h.and n).imp ?_
  intro a b ⟨h1, h2⟩
  omega
/-- the doors from r and to r, as the law lists them -/
def outs (D : List (Int × Int)) (r : Int) : List Int := (D.filter fun d => decide (d.1 = r)).map (·.2)
def ins (D : List (Int × Int)) (r : Int) : List Int := (D.filter fun d => decide (d.2 = r)).map (·.1)
theorem mem_outs {D : List (Int × Int)} {r o : Int} : o ∈ outs D r ↔ (r, o) ∈ D := by
  unfold outs
  simp only [List.mem_map, List.mem_filter, decide_eq_true_eq]
  constructor
  · rintro ⟨⟨a, b⟩, ⟨h, rfl⟩, rfl⟩; exact h
  · intro h; exact ⟨(r, o), ⟨h, rfl⟩, rfl⟩
theorem mem_ins {D : List (Int × Int)} {r o : Int} : o ∈ ins D r ↔ (o, r) ∈ D := by
  unfold ins
  simp only [List.mem_map, List.mem_filter, decide_eq_true_eq]
  constructor
  · rintro ⟨⟨a, b⟩, ⟨h, rfl⟩, rfl⟩; exact h
  · intro h; exact ⟨(o, r), ⟨h, rfl⟩, rfl⟩
/-- the doors to r and from r, one list behind the other, as the program lists them -/
theorem Forest.nb_eq {n : Int} {D : List (Int × Int)} (f : Forest n D) (r : Int) : ins D r ++ outs D r = nb n D r := by
  refine up_ext ?_ (nb_up n D r) fun x => ?_
  · rw [List.pairwise_append]
    refine ⟨?_, ?_, fun a ha b hb => ?_⟩
    · unfold ins
      rw [List.pairwise_map]
      refine (f.up.filter _).imp_of_mem fun {x y} hx hy h => ?_
      have e1 : x.2 = r := of_decide_eq_true (List.mem_filter.mp hx).2
      have e2 : y.2 = r := of_decide_eq_true (List.mem_filter.mp hy).2
      unfold Dlt at h
      omega
    · unfold outs
      rw [List.pairwise_map]
      refine (f.up.filter _).imp_of_mem fun {x y} hx hy h => ?_
      have e1 : x.1 = r := of_decide_eq_true (List.mem_filter.mp hx).2
      have e2 : y.1 = r := of_decide_eq_true (List.mem_filter.mp hy).2
      unfold Dlt at h
      omega
    · have h1 := f.ends (mem_ins.mp ha)
      have h2 := f.ends (mem_outs.mp hb)
      omega
  · rw [List.mem_append, mem_outs, mem_ins, f.mem_nb]
    exact or_comm
/-- how many rooms below n are not in S: it falls when one more is -/
def left (n : Nat) (S : Int → Bool) : Nat := (List.range n).countP fun (i : Nat) => !S (i : Int)
theorem countP_lt {α : Type} {p q : α → Bool} : ∀ {l : List α} {x : α}, (∀ y ∈ l, q y = true → p y = true) → x ∈ l → p x = true → q x = false → l.countP q < l.countP p
  | [], _, _, m, _, _ => by cases m
  | y :: l, x, h, m, hp, hq => by
    have hm : l.countP q ≤ l.countP p := List.countP_mono_left fun z hz => h z (List.mem_cons_of_mem _ hz)
    rw [List.countP_cons, List.countP_cons]
    rw [List.mem_cons] at m
    by_cases e : x = y
    · subst e
      rw [if_neg (by rw [hq]; exact Bool.false_ne_true), if_pos hp]
      omega
    · have ih := countP_lt (fun z hz => h z (List.mem_cons_of_mem _ hz)) (m.resolve_left e) hp hq
      have hy := h y (List.mem_cons_self ..)
      by_cases c : q y = true
      · rw [if_pos c, if_pos (hy c)]; omega
      · rw [if_neg c]; omega
theorem left_lt {n : Nat} {S S' : Int → Bool} {o : Int} (h : ∀ x, S x = true → S' x = true) (h0 : 0 ≤ o) (h1 : o < n) (hs : S o = false) (hs' : S' o = true) : left n S' < left n S := by
  refine countP_lt (x := o.toNat) (fun y _ hy => ?_) (List.mem_range.mpr (by omega)) ?_ ?_
  · cases e : S (y : Int) with
    | false => rfl
    | true => rw [h _ e] at hy; cases hy
  · rw [show ((o.toNat : Nat) : Int) = o by omega, hs]; rfl
  · rw [show ((o.toNat : Nat) : Int) = o by omega, hs']; rfl
theorem left_le (n : Nat) (S : Int → Bool) : left n S ≤ n := by
  refine Nat.le_trans List.countP_le_length ?_
  simp
end Fw
namespace Fw
open PySem PySem.Spec PyProof.Rows L2
def top (i : Nat) : Stmt := PySem.Challenge.pw_fromwithin_k87_whole_texts_round_trip.main.body.getD i (.Pass ⟨0, 0, 0, 0⟩)
abbrev iUnknownPerson : Stmt := inClass (top 2) 0
abbrev iInvalidRoom : Stmt := inClass (top 3) 0
abbrev iNotAdjacent : Stmt := inClass (top 4) 0
abbrev iEmptyRoom : Stmt := inClass (top 5) 0
abbrev iInvalidMoves : Stmt := inClass (top 6) 0
abbrev iOtherRegion : Stmt := inClass (top 7) 0
abbrev iTightRegion : Stmt := inClass (top 8) 0
abbrev iBlocked : Stmt := inClass (top 9) 0
abbrev iInvalidName : Stmt := inClass (top 10) 0
abbrev iDuplicateName : Stmt := inClass (top 11) 0
abbrev iLimitReached : Stmt := inClass (top 12) 0
abbrev iAlreadyAdjacent : Stmt := inClass (top 13) 0
abbrev iWouldFormCycle : Stmt := inClass (top 14) 0
abbrev iNothingToUndo : Stmt := inClass (top 15) 0
abbrev iHistoryFull : Stmt := inClass (top 16) 0
abbrev iSessionBusy : Stmt := inClass (top 17) 0
abbrev iInvalidActions : Stmt := inClass (top 18) 0
abbrev iBatchFailed : Stmt := inClass (top 19) 0
abbrev iInvalidMoment : Stmt := inClass (top 20) 0
abbrev iInvalidHouse : Stmt := inClass (top 21) 0
abbrev iInvalidPlacement : Stmt := inClass (top 22) 0
abbrev iInvalidText : Stmt := inClass (top 23) 0
abbrev sIsInt : Stmt := top 28
abbrev sIsName : Stmt := top 29
abbrev sIsPair : Stmt := top 30
abbrev sIsAsc : Stmt := top 31
abbrev sIsHouse : Stmt := top 33
abbrev sIsRoom : Stmt := top 34
abbrev sIsDoor : Stmt := top 35
abbrev sHasCyc : Stmt := top 36
abbrev sNb : Stmt := top 37
abbrev sPath : Stmt := top 38
abbrev sSteps : Stmt := top 39
abbrev sIsPl : Stmt := top 41
abbrev sIsPR : Stmt := top 42
abbrev sIsTg : Stmt := top 43
abbrev sNamesOf : Stmt := top 44
abbrev sRoomOf : Stmt := top 45
abbrev sFmtH : Stmt := top 48
abbrev sFmtP : Stmt := top 49
abbrev sJnd : Stmt := top 50
abbrev sParH : Stmt := top 51
abbrev sSpLn : Stmt := top 52
abbrev sHwl : Stmt := top 53
abbrev sDig : Stmt := top 54
abbrev sParP : Stmt := top 55
abbrev sStream : Stmt := top 57
abbrev sSame : Stmt := top 58
abbrev sNames : Stmt := top 59
abbrev sDraw : Stmt := top 60
abbrev sHouse : Stmt := top 61
abbrev sPl : Stmt := top 62
abbrev sLErrorClass : Stmt := top 63
abbrev sLTxt : Stmt := top 64
abbrev sLPOut : Stmt := top 65
abbrev sLChT : Stmt := top 66
abbrev sLStab : Stmt := top 67
abbrev sLPre : Stmt := top 68
abbrev sLaw : Stmt := top 69
end Fw
namespace Fw
open PySem PySem.Spec PyProof.Rows L2
abbrev vi (ns : List Int) : List V := ns.map V.int
theorem same_upd {H : Hp} {p : Addr} {o : HO} (h : H p = none) : Same H (upd H p o) := fun b x e => by
  rw [upd_ne (ne_of_none e h)]
  exact e
/-- the stream of draws: s the list of three, A the great cells, B all cells; c bounds the count -/
structure StreamAt (H : Hp) (s A B : Addr) (c : Nat) : Prop where
  ex : ∃ (big cells : List Int) (cnt : Int), H s = some (.lst [.ref A, .ref B, .int cnt]) ∧ H A = some (.lst (vi big)) ∧ H B = some (.lst (vi cells)) ∧
    (∀ x ∈ big, 0 ≤ x) ∧ (∀ x ∈ cells, 0 ≤ x) ∧ 0 < cells.length ∧ cells.length ≤ 100 ∧ big.length ≤ 100 ∧ 0 ≤ cnt ∧ cnt ≤ c
  nAB : A ≠ B
  nsA : s ≠ A
  nsB : s ≠ B
/-- all but the stream's own lists stands as before -/
def Fr (s A : Addr) (H H' : Hp) : Prop := ∀ b o, b ≠ s → b ≠ A → H b = some o → H' b = some o
theorem Fr.trans {s A : Addr} {H H1 H2 : Hp} (a : Fr s A H H1) (b : Fr s A H1 H2) : Fr s A H H2 := fun c o h1 h2 e => b c o h1 h2 (a c o h1 h2 e)
theorem Fr.of {s A : Addr} {H H1 : Hp} (a : Same H H1) : Fr s A H H1 := fun c o _ _ e => a c o e
theorem same_put {H H1 : Hp} {p : Addr} {o : HO} (s : Same H H1) (h : H p = none) : Same H (upd H1 p o) := fun b x e => by
  rw [upd_ne (ne_of_none e h)]
  exact s _ _ e
theorem get_vi {ns : List Int} {i : Nat} {x : V} (h : (vi ns)[i]? = some x) : ∃ v, ns[i]? = some v ∧ x = .int v := by
  rw [List.getElem?_map] at h
  cases e : ns[i]? with
  | none => rw [e] at h; cases h
  | some v => rw [e] at h; exact ⟨v, rfl, (Option.some.inj h).symm⟩
theorem vi_app (a b : List Int) : vi (a ++ b) = vi a ++ vi b := List.map_append
def absI (i : Int) : Int := if i < 0 then -i else i
theorem absI_pos (i : Int) : 0 ≤ absI i := by unfold absI; split <;> omega
/-- the builtins' names are not taken -/
structure Nm (mg : Str → Option Value) : Prop where
  abs : mg "abs" = none
  len : mg "len" = none
  list : mg "list" = none
  range : mg "range" = none
  min : mg "min" = none
  max : mg "max" = none
  tuple : mg "tuple" = none
  sorted : mg "sorted" = none
  isinstance : mg "isinstance" = none
  all : mg "all" = none
  zip : mg "zip" = none
  bool : mg "bool" = none
  int : mg "int" = none
  str : mg "str" = none
  repr : mg "repr" = none
/-! ### data -/
theorem dp_ints {K : PySem.W.Frag} {H : Hp} : ∀ ns : List Int, DpAll K H (vi ns) (ns.map PyData.int)
  | [] => .nil
  | n :: ns => .cons (.int n) (dp_ints ns)
theorem lay_ints : ∀ ns : List Int, PyData.canLayAll0 (ns.map PyData.int) = true
  | [] => by simp [PyData.canLayAll0]
  | n :: ns => by
    rw [List.map_cons, PyData.canLayAll0, lay_ints ns, PyData.canLay0]
    rfl
theorem deep_ints : ∀ ns : List Int, PyData.depthAll (ns.map PyData.int) = 0
  | [] => by simp [PyData.depthAll]
  | n :: ns => by
    rw [List.map_cons, PyData.depthAll, deep_ints ns, PyData.depth]
    rfl
theorem shaped_list (ns : List Int) : SeqAt.shaped (.list (ns.map PyData.int)) = true := by
  unfold SeqAt.shaped
  rw [PyData.canLay0, lay_ints, PyData.depth, deep_ints]
  decide
theorem eqv_nil (ns : List Int) : PyData.eqv (.list (ns.map PyData.int)) (.list []) = ns.isEmpty := by
  rw [PyData.eqv]
  cases ns with
  | nil => rw [List.map_nil, PyData.eqvAll]; rfl
  | cons n ns => rw [List.map_cons, PyData.eqvAll]; rfl
theorem ix0 (n : Nat) : ixN (n + 1) 0 = some 0 := by
  unfold ixN
  rw [if_pos (by omega), if_pos (by omega)]
  rfl
theorem atI0 {α : Type} {x : α} {xs : List α} : atI (x :: xs) 0 = some x := atI_nat (j := 0) rfl
theorem atI1 {α : Type} {x y : α} {xs : List α} : atI (x :: y :: xs) 1 = some y := atI_nat (j := 1) rfl
theorem atI2 {α : Type} {x y z : α} {xs : List α} : atI (x :: y :: z :: xs) 2 = some z := atI_nat (j := 2) rfl
section
variable {P : Program} {w : World} {K : PySem.W.Frag} {mg : Str → Option Value} {base : Heap}
def spStream (K : PySem.W.Frag) : Sp := fun vs H Q _ => ∃ (a : Addr) (ns : List Int), vs = [.ref a] ∧ SqL K H a (ns.map V.int) ∧ ns.length ≤ 63 ∧
  ∀ H' s A B, Same H H' → H s = none → H A = none → StreamAt H' s A B 0 → Q (.ref s) H'
theorem scStream : FnScope ["_law_script", "_law_cells", "_law_cell"] ["_law_script"] (defScope sStream) := ⟨rfl, rfl, rfl, by decide +kernel, rfl, by decide +kernel, by decide +kernel⟩
theorem ok_stream {f : Addr} {fd : FuncData} {k : Nat} (F : Fun K "_law_stream" "_law_stream" sStream f fd) (T : Nm mg) : FnOk P w K mg base CX0 (k + 1) f fd ["_law_script"] (spStream K) := by
  refine F.ok scStream (fun vs H Q E h => ?_) (fun cdv A outer s H vs Q E hr h => ?_)
  · obtain ⟨a, ns, rfl, _⟩ := h
    rfl
  · obtain ⟨a, ns, rfl, hS, hlen, q⟩ := h
    refine ⟨_, pss_cons (ps_setLc (i := 1) (own := [("_law_cell", 2)]) (g := gName 2) (by rfl) scStream.nd rfl rfl (sw_true rfl rfl rfl (by decide +kernel)) (pi_list (pv 0))
        (blkOk_by (own := [("_law_cell", 2)]) (N := ["_law_script", "_law_cells", "_law_cell"]) (sc := defScope sStream) (by decide +kernel))
        (fun _ _ _ _ _ => pg_name (i := 2) scStream.nd rfl (Or.inl rfl)) (fun _ _ _ _ _ => pts_nil)
        (fun _ _ _ _ _ => pe_callB call_abs (by rfl) T.abs (by decide +kernel) (pa_cons (pv 2) pa_nil)))
      (pss_one (ps_ret (pe_lst (pa_cons
        (pe_lc (own := [("_law_cell", 2)]) (g := gName 2) (by rfl) scStream.nd (pi_list (pv 1))
          (blkOk_by (own := [("_law_cell", 2)]) (N := ["_law_script", "_law_cells", "_law_cell"]) (sc := defScope sStream) (by decide +kernel))
          (fun _ _ _ _ _ => pg_name (i := 2) scStream.nd rfl (Or.inl rfl)) (fun _ _ _ _ _ => pts_one (pt_cmpR op_ge (pv 2) (pe_op op_pow pe_int pe_int) (nomark _)))
          (fun _ _ _ _ _ => pv 2))
        (pa_cons (pe_op op_cat (pv 1) (pe_lst (pa_cons (pe_op op_add (pe_callB call_len_seq (by rfl) T.len PySem.boot_len (pa_cons (pv 1) pa_nil)) pe_int) pa_nil)))
        (pa_cons pe_int pa_nil)))))), ?_⟩
    refine ⟨.ref a, rfl, a, rfl, ⟨_, hS⟩, fun D hD => lc_list (K := K) (a := a) (xs := vi ns) (fun i H1 => Same H H1 ∧ H1 D = some (.lst (vi ((ns.map absI).take i))))
      ⟨same_upd hD, upd_same⟩ (fun i H1 _ h => h.1.seq hS) ?_ ?_⟩
    · rintro i x H1 hx ⟨s1, e1⟩
      obtain ⟨v, ev, rfl⟩ := get_vi hx
      refine ⟨rfl, ?_⟩
      unfold tYes
      refine iteT ?_
      refine ⟨_, rfl, v, rfl, _, e1, ?_, ?_, ?_⟩
      · rw [List.length_map, List.length_take, List.length_map]
        exact small1000 (by omega)
      · exact same_put s1 hD
      · rw [upd_same, List.take_add_one, List.getElem?_map, ev, vi_app]
        rfl
    · rintro H1 ⟨s1, e1⟩
      rw [List.length_map, ← List.length_map (f := absI), List.take_length] at e1
      refine ⟨_, rfl, D, rfl, ⟨_, SqL.of e1⟩, fun G hG => lc_list (K := K) (a := D) (xs := vi (ns.map absI)) (fun i H2 => Same H1 H2 ∧ H2 G = some (.lst (vi (((ns.map absI).take i).filter fun x => decide (10 ^ 18 ≤ x)))))
        ⟨same_upd hG, upd_same⟩ (fun i H2 _ h => h.1.seq (SqL.of e1)) ?_ ?_⟩
      · rintro i x H2 hx ⟨s2, e2⟩
        obtain ⟨v, ev, rfl⟩ := get_vi hx
        refine ⟨rfl, _, rfl, _, _, rfl, rfl, ⟨by decide, by decide, by decide⟩, _, _, rfl, rfl, _, rfl, ?_⟩
        have et : ((ns.map absI).take (i + 1)).filter (fun x => decide (10 ^ 18 ≤ x)) = ((ns.map absI).take i).filter (fun x => decide (10 ^ 18 ≤ x)) ++ (if 10 ^ 18 ≤ v then [v] else []) := by
          rw [List.take_add_one, ev, List.filter_append]
          congr 1
          by_cases c : (10 : Int) ^ 18 ≤ v
          · rw [if_pos c]
            show List.filter _ [v] = [v]
            rw [List.filter_cons_of_pos (by simpa using c)]
            rfl
          · rw [if_neg c]
            show List.filter _ [v] = []
            rw [List.filter_cons_of_neg (by simpa using c)]
            rfl
        refine ite2 (fun c => ?_) (fun c => ?_)
        · have c : (10 : Int) ^ 18 ≤ v := of_decide_eq_true c
          refine ⟨_, rfl, _, e2, ?_, same_put s2 hG, ?_⟩
          · rw [List.length_map]
            refine small1000 (Nat.le_trans (List.length_filter_le _ _) ?_)
            rw [List.length_take, List.length_map]
            omega
          · rw [upd_same, et, if_pos c, vi_app]
            rfl
        · have c : ¬ (10 : Int) ^ 18 ≤ v := fun e => c (decide_eq_true e)
          refine ⟨s2, ?_⟩
          rw [et, if_neg c, List.append_nil]
          exact e2
      · rintro H2 ⟨s2, e2⟩
        rw [List.length_map, List.take_length] at e2
        have e1' := s2 _ _ e1
        refine ⟨_, rfl, _, rfl, D, _, rfl, .inl (SqL.of e1'), _, _, rfl, rfl, by show 1 ≤ sizeLine; decide, fun O hO => ?_⟩
        have e1'' := same_upd (o := .lst [.int (((vi (ns.map absI)).length : Nat) + 3)]) hO _ _ e1'
        refine ⟨D, O, _, _, rfl, rfl, e1'', upd_same, ?_, fun B hB => ?_⟩
        · simp only [List.length_map, List.length_append, List.length_cons, List.length_nil]
          exact Nat.le_of_lt (small1000 (by omega))
        refine ⟨by show 3 ≤ sizeLine; decide, fun S hS' => ?_⟩
        have nGS : S ≠ G := fun e => by
          rw [e] at hS'
          exact absurd hS' (by rw [same_upd hB _ _ (same_upd hO _ _ e2)]; exact nofun)
        have nBS : S ≠ B := fun e => by
          rw [e, upd_same] at hS'
          cases hS'
        have nGB : G ≠ B := fun e => by
          rw [← e] at hB
          exact absurd hB (by rw [same_upd hO _ _ e2]; exact nofun)
        have sA : Same H (upd (upd H2 O (.lst [.int (((vi (ns.map absI)).length : Nat) + 3)])) B (.lst (vi (ns.map absI) ++ [.int (((vi (ns.map absI)).length : Nat) + 3)]))) := (s1.trans s2).trans ((same_upd hO).trans (same_upd hB))
        refine q _ S G B (sA.trans (same_upd hS')) (sA.free hS') (s1.free hG) ⟨⟨(ns.map absI).filter (fun x => decide (10 ^ 18 ≤ x)), ns.map absI ++ [((ns.length : Nat) : Int) + 3], 0, upd_same, ?_, ?_, ?_, ?_, ?_, ?_, ?_, Int.le_refl _, Int.le_refl _⟩, nGB, nGS, nBS⟩
        · rw [upd_ne nGS.symm, upd_ne nGB, same_upd hO _ _ e2]
        · rw [upd_ne nBS.symm, upd_same, vi_app]
          show some (HO.lst (vi (ns.map absI) ++ [V.int (((vi (ns.map absI)).length : Nat) + 3)])) = _
          rw [List.length_map, List.length_map]
          rfl
        · intro x hx
          obtain ⟨y, _, rfl⟩ := List.mem_map.mp (List.mem_filter.mp hx).1
          exact absI_pos y
        · intro x hx
          rcases List.mem_append.mp hx with hx | hx
          · obtain ⟨y, _, rfl⟩ := List.mem_map.mp hx
            exact absI_pos y
          · rw [List.mem_singleton.mp hx]
            omega
        · simp
        · simp only [List.length_map, List.length_append, List.length_cons, List.length_nil]
          omega
        · refine Nat.le_trans (List.length_filter_le _ _) ?_
          rw [List.length_map]
          omega
theorem lg60 {m : Int} (h0 : 0 < m) (h1 : m < 2 ^ 60) : m.natAbs.log2 < 9000 := by
  have : m.natAbs ≠ 0 := by omega
  have h2 : m.natAbs < 2 ^ 60 := by omega
  have := (Nat.log2_lt this).mpr h2
  omega
def spDraw : Sp := fun vs H Q _ => ∃ (s A B : Addr) (c : Nat) (m : Int), vs = [.ref s, .int m] ∧ StreamAt H s A B c ∧ c < 2 ^ 40 ∧ 0 < m ∧ m < 2 ^ 60 ∧
  ∀ H' r, StreamAt H' s A B (c + 1) → Fr s A H H' → 0 ≤ r → r < m → Q (.int r) H'
theorem scDraw : FnScope ["_law_stream_here", "_law_many", "_law_rest", "_law_turn", "_law_cell", "_law_mixed"] ["_law_stream_here", "_law_many"] (defScope sDraw) := ⟨rfl, rfl, rfl, by decide +kernel, rfl, by decide +kernel, by decide +kernel⟩
theorem ok_draw {f : Addr} {fd : FuncData} {k : Nat} (F : Fun K "_law_draw" "_law_draw" sDraw f fd) (T : Nm mg) : FnOk P w K mg base CX0 (k + 1) f fd ["_law_stream_here", "_law_many"] spDraw := by
  refine F.ok scDraw (fun vs H Q E h => ?_) (fun cdv A outer s H vs Q E hr h => ?_)
  · obtain ⟨s, A, B, c, m, rfl, _⟩ := h
    rfl
  · obtain ⟨s, A, B, c, m, rfl, hS, hc, hm0, hm1, q⟩ := h
    refine ⟨_, pss_cons (ps_while PassesOwn.never (pt_cmpR (op_neD hr.units) (pe_ix ix_list (pv 0) pe_int (fun _ _ => rfl)) (pe_lst pa_nil) (nomark _))
        (pss_cons (ps_set (i := 2) scDraw.nd rfl (.inl rfl) (pe_ix ix_list (pe_ix ix_list (pv 0) pe_int (fun _ _ => rfl)) pe_int (fun _ _ => rfl)))
        (pss_cons (ps_if (pt_cmpR op_gt (pv 2) pe_int (nomark _))
          (pss_cons (ps_asg (pe_op op_fdivW (pv 2) (pv 1)) (pg_sub (pe_ix ix_list (pv 0) pe_int (fun _ _ => rfl)) pe_int set_list))
          (pss_one (ps_ret (pe_op op_modN (pv 2) (pv 1))))) pss_nil)
        (pss_one (ps_expr (pe_bm PySem.F.plainAttrs_list PySem.F.slot_list_pop PySem.F.type_list_pop mt_popAt (pe_ix ix_list (pv 0) pe_int (fun _ _ => rfl)) (pa_cons pe_int pa_nil)))))))
      (pss_cons (ps_set (i := 3) scDraw.nd rfl (.inl rfl) (pe_op op_add (pe_ix ix_list (pv 0) pe_int (fun _ _ => rfl)) pe_int))
      (pss_cons (ps_asg (pv 3) (pg_sub (pv 0) pe_int set_list))
      (pss_cons (ps_set (i := 4) scDraw.nd rfl (.inl rfl) (pe_op op_modN (pe_ix ix_list (pe_ix ix_list (pv 0) pe_int (fun _ _ => rfl)) (pe_op op_modN (pv 3) (pe_callB call_len_seq (by rfl) T.len PySem.boot_len (pa_cons (pe_ix ix_list (pv 0) pe_int (fun _ _ => rfl)) pa_nil))) (fun _ _ => rfl)) pe_int))
      (pss_cons (ps_set (i := 5) scDraw.nd rfl (.inl rfl) (pe_op op_add (pe_op op_add (pe_op op_mul (pv 4) (pe_op op_add pe_int (pe_op op_mul pe_int (pv 3)))) (pe_op op_mul (pe_op op_mul pe_int (pv 3)) (pv 3))) pe_int))
      (pss_cons (ps_set (i := 5) scDraw.nd rfl (.inl rfl) (pe_op op_modN (pv 5) pe_int))
      (pss_one (ps_ret (pe_op op_modN (pe_op op_fdivN (pe_op op_modN (pe_op op_mul (pv 5) (pv 5)) pe_int) pe_int) (pv 1))))))))), ?_⟩
    have fm : ∀ x y : Int, 0 < y → 0 ≤ x.fmod y ∧ x.fmod y < y := fun x y hy => by
      rw [Int.fmod_eq_emod_of_nonneg x (Int.le_of_lt hy)]
      exact ⟨Int.emod_nonneg x (by omega), Int.emod_lt_of_pos x hy⟩
    refine ⟨fun n σ H' => ∃ y2, σ = [some (.ref s), some (.int m), y2, none, none, none] ∧ StreamAt H' s A B c ∧ Fr s A H H' ∧ ∃ big : List Int, H' A = some (.lst (vi big)) ∧ n = big.length, ?_, ?_⟩
    · obtain ⟨big, cells, cnt, _, h2, _⟩ := hS.ex
      exact ⟨_, none, rfl, hS, fun _ _ _ _ e => e, big, h2, rfl⟩
    rintro n σ H1 ⟨y2, rfl, hS1, fr1, big', hb', rfl⟩
    obtain ⟨big, cells, cnt, h1, h2, h3, p1, p2, l0, l1, l2, c0, c1⟩ := hS1.ex
    have eb : vi big' = vi big := by
      rw [h2] at hb'
      injection hb' with hb'
      injection hb' with hb'
      exact hb'.symm
    have el : big'.length = big.length := by
      have := congrArg List.length eb
      simpa using this
    rw [el]
    refine ⟨_, rfl, s, _, _, _, rfl, rfl, SqL.of h1, atI0, Nat.zero_le _, fun e he => ?_⟩
    have n1 : s ≠ e := ne_of_none h1 he
    have n2 : A ≠ e := ne_of_none h2 he
    have n3 : B ≠ e := ne_of_none h3 he
    have h1' : (upd H1 e (.lst [])) s = _ := (upd_ne n1).trans h1
    have h2' : (upd H1 e (.lst [])) A = _ := (upd_ne n2).trans h2
    have h3' : (upd H1 e (.lst [])) B = _ := (upd_ne n3).trans h3
    have sm : Same H1 (upd H1 e (.lst [])) := same_upd he
    refine ⟨.list (big.map .int), .list [], .lst (SqL.of h2') (dp_ints big), .lst (SqL.of upd_same) .nil, shaped_list big, shaped_list [], _, rfl, ?_⟩
    rw [eqv_nil]
    cases big with
    | nil =>
      refine iteF ?_
      -- turn = s[2] + 1; s[2] = turn
      refine ⟨_, rfl, s, _, _, _, rfl, rfl, SqL.of h1', atI2, _, _, rfl, rfl, ?_⟩
      refine ⟨_, rfl, _, rfl, s, _, _, 2, rfl, rfl, h1', rfl, ?_⟩
      have h3s : (upd (upd H1 e (.lst [])) s (.lst ([V.ref A, V.ref B, V.int cnt].set 2 (V.int (cnt + 1))))) B = _ := (upd_ne hS1.nsB.symm).trans h3'
      have h2s : (upd (upd H1 e (.lst [])) s (.lst ([V.ref A, V.ref B, V.int cnt].set 2 (V.int (cnt + 1))))) A = _ := (upd_ne hS1.nsA.symm).trans h2'
      have hS2 : StreamAt (upd (upd H1 e (.lst [])) s (.lst ([V.ref A, V.ref B, V.int cnt].set 2 (V.int (cnt + 1))))) s A B (c + 1) :=
        ⟨⟨[], cells, cnt + 1, upd_same, h2s, h3s, p1, p2, l0, l1, l2, by omega, by omega⟩, hS1.nAB, hS1.nsA, hS1.nsB⟩
      have fr2 : Fr s A H (upd (upd H1 e (.lst [])) s (.lst ([V.ref A, V.ref B, V.int cnt].set 2 (V.int (cnt + 1))))) := fun b o z1 z2 z3 => by
        rw [upd_ne z1]
        exact sm _ _ (fr1 b o z1 z2 z3)
      have h1s : (upd (upd H1 e (.lst [])) s (.lst ([V.ref A, V.ref B, V.int cnt].set 2 (V.int (cnt + 1))))) s = some (.lst [V.ref A, V.ref B, V.int (cnt + 1)]) := upd_same
      have hl : (0 : Int) < (cells.length : Nat) := by omega
      obtain ⟨g0, g1⟩ := fm (cnt + 1) ((cells.length : Nat) : Int) hl
      have hj : ((cnt + 1).fmod ((cells.length : Nat) : Int)).toNat < cells.length := by omega
      have hat : atI (vi cells) ((cnt + 1).fmod (((vi cells).length : Nat) : Int)) = some (V.int cells[((cnt + 1).fmod ((cells.length : Nat) : Int)).toNat]) := by
        rw [List.length_map]
        have := atI_nat (xs := vi cells) (j := ((cnt + 1).fmod ((cells.length : Nat) : Int)).toNat) (v := V.int cells[((cnt + 1).fmod ((cells.length : Nat) : Int)).toNat]) (by rw [List.getElem?_map, List.getElem?_eq_getElem hj]; rfl)
        rw [show ((((cnt + 1).fmod ((cells.length : Nat) : Int)).toNat : Nat) : Int) = (cnt + 1).fmod ((cells.length : Nat) : Int) by omega] at this
        exact this
      refine ⟨_, rfl, s, _, _, _, rfl, rfl, SqL.of h1s, atI1, _, rfl, _, rfl, s, _, _, _, rfl, rfl, SqL.of h1s, atI1, B, _, rfl, .inl (SqL.of h3s), _, _, rfl, rfl, by rw [List.length_map]; omega, B, _, _, _, rfl, rfl, SqL.of h3s, hat, _, _, rfl, rfl, (by show (2147483647 : Int) ≠ 0; decide), ?_⟩
      generalize cells[((cnt + 1).fmod ((cells.length : Nat) : Int)).toNat] = x
      obtain ⟨x0, x1⟩ := fm x 2147483647 (by decide)
      refine ⟨_, rfl, _, rfl, _, _, rfl, rfl, .inl ⟨by decide, by decide⟩, _, _, rfl, rfl, _, _, rfl, rfl, .inl ⟨by omega, by omega⟩, ?_⟩
      refine ⟨_, rfl, _, _, rfl, rfl, .inl ⟨by decide, by decide⟩, _, rfl, _, _, rfl, rfl, .inr ⟨by omega, by omega⟩, _, _, rfl, rfl, _, _, rfl, rfl, ?_⟩
      refine ⟨_, rfl, _, _, rfl, rfl, (by show (2147483629 : Int) ≠ 0; decide), ?_⟩
      refine ⟨_, rfl, _, rfl, _, _, rfl, rfl, .inl ?_, _, _, rfl, rfl, (by show (2147483587 : Int) ≠ 0; decide), _, _, rfl, rfl, ⟨by decide, by decide⟩, _, rfl, _, _, rfl, rfl, by omega, ?_⟩
      · generalize (x.fmod 2147483647 * _ + _ + _ : Int) = y
        obtain ⟨y0, y1⟩ := fm y 2147483629 (by decide)
        exact ⟨by omega, by omega⟩
      · exact q _ _ hS2 fr2 (fm _ m hm0).1 (fm _ m hm0).2
    | cons x r =>
      refine iteT ⟨_, fun _ _ h => h, ?_⟩
      refine ⟨_, rfl, s, _, _, _, rfl, rfl, SqL.of h1', atI0, A, _, _, _, rfl, rfl, SqL.of h2', atI0, ?_⟩
      refine ⟨_, rfl, _, _, rfl, rfl, _, rfl, ?_⟩
      have hx : 0 ≤ x := p1 x (List.mem_cons_self ..)
      have hr' : ∀ y ∈ r, 0 ≤ y := fun y hy => p1 y (List.mem_cons_of_mem _ hy)
      refine ite2 (fun cx => ?_) (fun cx => ?_)
      · refine ⟨_, rfl, _, rfl, _, _, rfl, rfl, ⟨hm0, lg60 hm0 hm1⟩, ?_⟩
        refine ⟨_, rfl, s, _, _, _, rfl, rfl, SqL.of h1', atI0, A, _, _, 0, rfl, rfl, h2', ix0 _, ?_⟩
        refine ⟨_, rfl, _, rfl, _, _, rfl, rfl, by omega, ?_⟩
        refine q _ _ ⟨⟨x / m :: r, cells, cnt, (upd_ne hS1.nsA).trans h1', upd_same, (upd_ne hS1.nAB.symm).trans h3', ?_, p2, l0, l1, l2, c0, by omega⟩, hS1.nAB, hS1.nsA, hS1.nsB⟩ ?_ (fm x m hm0).1 (fm x m hm0).2
        · intro y hy
          rcases List.mem_cons.mp hy with rfl | hy
          · exact Int.ediv_nonneg hx (Int.le_of_lt hm0)
          · exact hr' y hy
        · intro b o z1 z2 z3
          rw [upd_ne z2]
          exact sm _ _ (fr1 b o z1 z2 z3)
      · refine ⟨_, rfl, s, _, _, _, rfl, rfl, SqL.of h1', atI0, .inl ⟨rfl, _, SqL.of h2'⟩, A, _, _, 0, _, rfl, rfl, h2', by decide, by decide, (ixN_seq (ix0 _)).1, rfl, ?_⟩
        refine ⟨r.length, by simp, _, rfl, ⟨⟨r, cells, cnt, (upd_ne hS1.nsA).trans h1', upd_same, (upd_ne hS1.nAB.symm).trans h3', hr', p2, l0, l1, by simp at l2; omega, c0, c1⟩, hS1.nAB, hS1.nsA, hS1.nsB⟩, ?_, r, upd_same, rfl⟩
        intro b o z1 z2 z3
        rw [upd_ne z2]
        exact sm _ _ (fr1 b o z1 z2 z3)
end
end Fw
namespace Fw
open PySem PySem.Spec PyProof.Rows L2
structure Def (K : PySem.W.Frag) (mg : Str → Option Value) (x : Str) (st : Stmt) (f : Addr) (fd : FuncData) (ps : List Str) : Prop where
  F : Fun K x x st f fd
  b : Binds K fd ps []
  g : mg x = some (.ref f)
section
variable {s A B : Addr} {H H1 H2 : Hp} {c : Nat}
theorem StreamAt.ne (hS : StreamAt H s A B c) {L : Addr} (h : H L = none) : s ≠ L ∧ A ≠ L ∧ B ≠ L := by
  obtain ⟨big, cells, cnt, h1, h2, h3, _⟩ := hS.ex
  exact ⟨ne_of_none h1 h, ne_of_none h2 h, ne_of_none h3 h⟩
theorem StreamAt.put (hS : StreamAt H s A B c) {L : Addr} {o : HO} (n : s ≠ L ∧ A ≠ L ∧ B ≠ L) : StreamAt (upd H L o) s A B c := by
  obtain ⟨big, cells, cnt, h1, h2, h3, r⟩ := hS.ex
  exact ⟨⟨big, cells, cnt, (upd_ne n.1).trans h1, (upd_ne n.2.1).trans h2, (upd_ne n.2.2).trans h3, r⟩, hS.nAB, hS.nsA, hS.nsB⟩
theorem StreamAt.mono (hS : StreamAt H s A B c) {c' : Nat} (h : c ≤ c') : StreamAt H s A B c' := by
  obtain ⟨big, cells, cnt, h1, h2, h3, p1, p2, l0, l1, l2, c0, c1⟩ := hS.ex
  exact ⟨⟨big, cells, cnt, h1, h2, h3, p1, p2, l0, l1, l2, c0, by omega⟩, hS.nAB, hS.nsA, hS.nsB⟩
theorem StreamAt.same (hS : StreamAt H s A B c) (e : Same H H1) : StreamAt H1 s A B c := by
  obtain ⟨big, cells, cnt, h1, h2, h3, r⟩ := hS.ex
  exact ⟨⟨big, cells, cnt, e _ _ h1, e _ _ h2, e _ _ h3, r⟩, hS.nAB, hS.nsA, hS.nsB⟩
theorem StreamAt.tup (hS : StreamAt H s A B c) {t : Addr} {xs : List V} (h : H t = some (.tup xs)) : t ≠ s ∧ t ≠ A ∧ t ≠ B := by
  obtain ⟨big, cells, cnt, h1, h2, h3, _⟩ := hS.ex
  exact ⟨ne_of h h1 (by intro q; cases q), ne_of h h2 (by intro q; cases q), ne_of h h3 (by intro q; cases q)⟩
theorem Fr.refl : Fr s A H H := fun _ _ _ _ e => e
theorem Fr.free (f : Fr s A H H1) (hS : StreamAt H1 s A B c) {L : Addr} (h : H1 L = none) : H L = none := by
  obtain ⟨n1, n2, _⟩ := hS.ne h
  cases e : H L with
  | none => rfl
  | some o =>
    rw [f L o n1.symm n2.symm e] at h
    cases h
theorem Fr.put (f : Fr s A H H1) {L : Addr} {o : HO} (h : H L = none) : Fr s A H (upd H1 L o) := fun b u z1 z2 e => by
  rw [upd_ne (ne_of_none e h)]
  exact f b u z1 z2 e
theorem Fr.tup (f : Fr s A H H1) (hS : StreamAt H s A B c) {t : Addr} {xs : List V} (h : H t = some (.tup xs)) : H1 t = some (.tup xs) :=
  f t _ (hS.tup h).1 (hS.tup h).2.1 h
end
/-- a house, as it stands in memory -/
def HouseAt (H : Hp) (h : Addr) (n : Int) (D : List (Int × Int)) : Prop := ∃ (q : Addr) (ps : List (Addr × Int × Int)),
  H h = some (.tup [.int n, .ref q]) ∧ H q = some (.tup (ps.map fun p => V.ref p.1)) ∧ D = ps.map (·.2) ∧ ∀ p ∈ ps, H p.1 = some (.tup [.int p.2.1, .int p.2.2])
theorem HouseAt.same {H H' : Hp} {h : Addr} {n : Int} {D : List (Int × Int)} (x : HouseAt H h n D) (e : Same H H') : HouseAt H' h n D := by
  obtain ⟨q, ps, h1, h2, h3, h4⟩ := x
  exact ⟨q, ps, e _ _ h1, e _ _ h2, h3, fun p hp => e _ _ (h4 p hp)⟩
theorem HouseAt.fr {s A B : Addr} {c : Nat} {H H' : Hp} {h : Addr} {n : Int} {D : List (Int × Int)} (x : HouseAt H h n D) (hS : StreamAt H s A B c) (e : Fr s A H H') : HouseAt H' h n D := by
  obtain ⟨q, ps, h1, h2, h3, h4⟩ := x
  exact ⟨q, ps, e.tup hS h1, e.tup hS h2, h3, fun p hp => e.tup hS (h4 p hp)⟩
theorem perm_map_inv {α β : Type} {f : α → β} : ∀ {ys zs : List β}, ys.Perm zs → ∀ {ps : List α}, zs = ps.map f → ∃ ps' : List α, ps'.Perm ps ∧ ys = ps'.map f := by
  intro ys zs h
  induction h with
  | nil =>
    intro ps e
    cases ps with
    | nil => exact ⟨[], .nil, rfl⟩
    | cons p r => cases e
  | cons x _ ih =>
    intro ps e
    cases ps with
    | nil => cases e
    | cons p r =>
      rw [List.map_cons] at e
      injection e with e1 e2
      obtain ⟨ps', hp, he⟩ := ih e2
      exact ⟨p :: ps', hp.cons p, by rw [he, List.map_cons, e1]⟩
  | swap x y l =>
    intro ps e
    match ps, e with
    | p :: q :: r, e =>
      rw [List.map_cons, List.map_cons] at e
      injection e with e1 e2
      injection e2 with e2 e3
      exact ⟨q :: p :: r, List.Perm.swap p q r, by rw [List.map_cons, List.map_cons, e1, e2, e3]⟩
  | trans _ _ ih1 ih2 =>
    intro ps e
    obtain ⟨p2, h2, e2⟩ := ih2 e
    obtain ⟨p1, h1, e1⟩ := ih1 e2
    exact ⟨p1, h1.trans h2, e1⟩
theorem rg_vi (n : Int) : rgV 0 n = vi ((List.range n.toNat).map fun (i : Nat) => (i : Int)) := by
  unfold rgV vi
  rw [List.map_map, Int.sub_zero]
  refine List.map_congr_left fun i _ => ?_
  show V.int (0 + (i : Int)) = V.int (i : Int)
  rw [Int.zero_add]
def rg (n : Int) : List Int := (List.range n.toNat).map fun (i : Nat) => (i : Int)
theorem mem_rg {n x : Int} : x ∈ rg n ↔ 0 ≤ x ∧ x < n := by
  unfold rg
  rw [List.mem_map]
  constructor
  · rintro ⟨i, hi, rfl⟩
    rw [List.mem_range] at hi
    omega
  · rintro ⟨h0, h1⟩
    exact ⟨x.toNat, List.mem_range.mpr (by omega), by omega⟩
theorem rg_len (n : Int) : (rg n).length = n.toNat := by simp [rg]
theorem rg_nodup (n : Int) : (rg n).Nodup := (range_up n.toNat).imp fun h => by omega
theorem vi_erase (ns : List Int) (i : Nat) : (vi ns).eraseIdx i = vi (ns.eraseIdx i) := by
  induction ns generalizing i with
  | nil => rfl
  | cons n ns ih =>
    cases i with
    | zero => rfl
    | succ i =>
      show V.int n :: (vi ns).eraseIdx i = V.int n :: vi (ns.eraseIdx i)
      rw [ih]
theorem erase_perm : ∀ {ns : List Int} {i : Nat} (h : i < ns.length), (ns[i] :: ns.eraseIdx i).Perm ns
  | n :: ns, 0, _ => List.Perm.refl _
  | n :: ns, i + 1, h => by
    have h' : i < ns.length := by simpa using h
    show (ns[i] :: n :: ns.eraseIdx i).Perm (n :: ns)
    exact (List.Perm.swap _ _ _).trans ((erase_perm (by simpa using h)).cons n)
theorem lacks {r : Int} (h0 : 0 ≤ r) (h1 : r < 3) : ∃ lk : Int, atI [V.int 0, V.int 0, V.int 6] r = some (.int lk) ∧ (lk = 0 ∨ lk = 6) := by
  have : r = 0 ∨ r = 1 ∨ r = 2 := by omega
  rcases this with rfl | rfl | rfl
  · exact ⟨0, atI0, .inl rfl⟩
  · exact ⟨0, atI1, .inl rfl⟩
  · exact ⟨6, atI2, .inr rfl⟩
theorem pick3 {r r1 : Int} {i : Nat} (h0 : 0 ≤ r) (h1 : r < 3) (a0 : 0 ≤ r1) (a1 : r1 < 1 + (i : Int)) : ∃ ix : Int, atI [V.int (1 + (i : Int) - 1), V.int 0, V.int r1] r = some (.int ix) ∧ 0 ≤ ix ∧ ix ≤ i := by
  have : r = 0 ∨ r = 1 ∨ r = 2 := by omega
  rcases this with rfl | rfl | rfl
  · exact ⟨_, atI0, by omega, by omega⟩
  · exact ⟨_, atI1, by omega, by omega⟩
  · exact ⟨_, atI2, by omega, by omega⟩
/-- the two ints of a pair in memory -/
def twoOf (H : Hp) (x : V) : Int × Int := match x with
  | .ref t => match H t with
    | some (.tup [.int i, .int j]) => (i, j)
    | _ => (0, 0)
  | _ => (0, 0)
theorem twoOf_eq {H : Hp} {t : Addr} {d : Int × Int} (h : H t = some (.tup [.int d.1, .int d.2])) : twoOf H (.ref t) = d := by
  unfold twoOf
  simp only [h]
theorem Dlt_of {x y : Int × Int} (h : ¬ (y.1 < x.1 ∨ (y.1 = x.1 ∧ y.2 < x.2))) (n : x ≠ y) : Dlt x y := by
  unfold Dlt
  have : ¬ (x.1 = y.1 ∧ x.2 = y.2) := fun e => n (Prod.ext e.1 e.2)
  omega
/-- what stands while the doors are made -/
structure Mid (H : Hp) (s A B O R : Addr) (ord : List Int) (c : Nat) (ps : List (Addr × Int × Int)) (H' : Hp) : Prop where
  st : StreamAt H' s A B c
  frm : Fr s A H H'
  eO : H' O = some (.lst (vi ord))
  eR : H' R = some (.lst (ps.map fun p => V.ref p.1))
  eP : ∀ p ∈ ps, H' p.1 = some (.tup [.int p.2.1, .int p.2.2])
theorem Mid.fr {H H1 H2 : Hp} {s A B O R : Addr} {ord : List Int} {c c' : Nat} {ps : List (Addr × Int × Int)} (m : Mid H s A B O R ord c ps H1) (hS : StreamAt H2 s A B c') (f : Fr s A H1 H2) (zO : s ≠ O ∧ A ≠ O ∧ B ≠ O) (zR : s ≠ R ∧ A ≠ R ∧ B ≠ R) : Mid H s A B O R ord c' ps H2 :=
  ⟨hS, m.frm.trans f, f _ _ zO.1.symm zO.2.1.symm m.eO, f _ _ zR.1.symm zR.2.1.symm m.eR, fun p hp => f.tup m.st (m.eP p hp)⟩
theorem Mid.new {H H1 : Hp} {s A B O R : Addr} {ord : List Int} {c : Nat} {ps : List (Addr × Int × Int)} (m : Mid H s A B O R ord c ps H1) {N : Addr} {o : HO} (h : H1 N = none) : Mid H s A B O R ord c ps (upd H1 N o) :=
  ⟨m.st.same (same_upd h), m.frm.put (m.frm.free m.st h), same_upd h _ _ m.eO, same_upd h _ _ m.eR, fun p hp => same_upd h _ _ (m.eP p hp)⟩
theorem if_by {t : TT} {tb te : TS} {D : Ends} {σ : L2.St} {H : Hp} (Good : Bool → Hp → Prop) (hb : ∀ H', Good true H' → tb D σ H') (he : ∀ H', Good false H' → te D σ H')
    (h : ∀ Q : Bool → Hp → Prop, (∀ b H', Good b H' → Q b H') → t σ H Q) : tIfS t tb te D σ H := h _ fun b H' g => by
  cases b with
  | true => exact iteT (hb _ g)
  | false => exact iteF (he _ g)
section
variable {P : Program} {w : World} {K : PySem.W.Frag} {mg : Str → Option Value} {base : Heap}
def spHouse : Sp := fun vs H Q _ => ∃ (s A B : Addr) (c : Nat) (least most : Int), vs = [.ref s, .int least, .int most] ∧ StreamAt H s A B c ∧ c < 2 ^ 30 ∧ 1 ≤ least ∧ least ≤ most ∧ most ≤ 8 ∧
  ∀ H' h n D, StreamAt H' s A B (c + 40) → Fr s A H H' → HouseAt H' h n D → Forest n D → least ≤ n → n ≤ most → Q (.ref h) H'
abbrev nHouse : List Str := ["_law_stream_here", "_law_least", "_law_most", "_law_rooms", "_law_left", "_law_order", "_law_doors", "_law_lacks", "_law_k", "_law_on"]
theorem scHouse : FnScope nHouse ["_law_stream_here", "_law_least", "_law_most"] (defScope sHouse) := ⟨rfl, rfl, rfl, by decide +kernel, rfl, by decide +kernel, by decide +kernel⟩
theorem ok_house {f fD : Addr} {fd fdD : FuncData} (F : Fun K "_law_house" "_law_house" sHouse f fd) (T : Nm mg) (D : Def K mg "_law_draw" sDraw fD fdD ["_law_stream_here", "_law_many"]) : FnOk P w K mg base CX0 2 f fd ["_law_stream_here", "_law_least", "_law_most"] spHouse := by
  have GD : FnOk P w K mg base CX0 1 fD fdD ["_law_stream_here", "_law_many"] spDraw := ok_draw D.F T
  refine F.ok scHouse (fun vs H Q E h => ?_) (fun cdv A outer s H vs Q E hr h => ?_)
  · obtain ⟨s, A, B, c, least, most, rfl, _⟩ := h
    rfl
  · obtain ⟨s, A, B, c, least, most, rfl, hS, hc, hl1, hl2, hl3, q⟩ := h
    refine ⟨_, pss_cons (ps_set (i := 3) scHouse.nd rfl (.inl rfl) (pe_op op_add (pv 1) (pe_call GD hr (by rfl) D.g D.F.kp D.b .nil pass0 (pa_cons (pv 0) (pa_cons (pe_op op_add (pe_op op_sub (pv 2) (pv 1)) pe_int) pa_nil)))))
      (pss_cons (ps_par3 (i := 4) (j := 5) (l := 6) (by rfl) scHouse.nd rfl rfl rfl (by decide) (by decide) (by decide) rfl rfl rfl (pa_cons (pe_listRg (by rfl) (by rfl) T.list (prg_1 (by rfl) T.range (pv 3))) (pa_cons (pe_lst pa_nil) (pa_cons (pe_lst pa_nil) pa_nil))) (by rfl))
      (pss_cons (ps_while PassesOwn.never (pt_cmpR (op_neD hr.units) (pv 4) (pe_lst pa_nil) (nomark _))
        (pss_one (ps_expr (pe_bm PySem.F.plainAttrs_list PySem.F.slot_list_append PySem.F.type_list_append mt_append (pv 5) (pa_cons
          (pe_bm PySem.F.plainAttrs_list PySem.F.slot_list_pop PySem.F.type_list_pop mt_popAt (pv 4) (pa_cons
            (pe_call GD hr (by rfl) D.g D.F.kp D.b .nil pass0 (pa_cons (pv 0) (pa_cons (pe_callB call_len_seq (by rfl) T.len PySem.boot_len (pa_cons (pv 4) pa_nil)) pa_nil))) pa_nil)) pa_nil)))))
      (pss_cons (ps_set (i := 7) scHouse.nd rfl (.inl rfl) (pe_ix ix_list (pe_lst (pa_cons pe_int (pa_cons pe_int (pa_cons pe_int pa_nil)))) (pe_call GD hr (by rfl) D.g D.F.kp D.b .nil pass0 (pa_cons (pv 0) (pa_cons pe_int pa_nil))) (fun _ _ => rfl)))
      (pss_cons (ps_for PassesOwn.never rfl (pi_range2 (by rfl) T.range (pa_cons pe_int (pa_cons (pv 3) pa_nil))) (pg_name (i := 8) scHouse.nd rfl (Or.inl rfl))
        (pss_cons (ps_set (i := 9) scHouse.nd rfl (.inl rfl) (pe_ix ix_list (pv 5) (pe_ix ix_list (pe_lst (pa_cons (pe_op op_sub (pv 8) pe_int) (pa_cons pe_int (pa_cons (pe_call GD hr (by rfl) D.g D.F.kp D.b .nil pass0 (pa_cons (pv 0) (pa_cons (pv 8) pa_nil))) pa_nil))))
            (pe_call GD hr (by rfl) D.g D.F.kp D.b .nil pass0 (pa_cons (pv 0) (pa_cons pe_int pa_nil))) (fun _ _ => rfl)) (fun _ _ => rfl)))
        (pss_one (ps_if (PW.pt (pw_or (pt_cmpR op_eq (pv 7) pe_int (nomark _)) (pw_or1 (pt_cmpR op_gt (pe_call GD hr (by rfl) D.g D.F.kp D.b .nil pass0 (pa_cons (pv 0) (pa_cons (pv 7) pa_nil))) pe_int (nomark _)))))
          (pss_one (ps_expr (pe_bm PySem.F.plainAttrs_list PySem.F.slot_list_append PySem.F.type_list_append mt_append (pv 6) (pa_cons (pe_tup
            (pa_cons (pe_callB (call_min2 rfl) (by rfl) T.min (by decide +kernel) (pa_cons (pv 9) (pa_cons (pe_ix ix_list (pv 5) (pv 8) (fun _ _ => rfl)) pa_nil)))
            (pa_cons (pe_callB (call_max2 rfl) (by rfl) T.max (by decide +kernel) (pa_cons (pv 9) (pa_cons (pe_ix ix_list (pv 5) (pv 8) (fun _ _ => rfl)) pa_nil))) pa_nil))) pa_nil))))
          pss_nil))))
      (pss_one (ps_ret (pe_tup (pa_cons (pv 3) (pa_cons (pe_callTy call_tuple_of (by rfl) T.tuple (by decide +kernel) (pa_cons (pe_callB cr_sortedPO (by rfl) T.sorted (by decide +kernel) (pa_cons (pv 6) pa_nil)) pa_nil)) pa_nil))))))))), ?_⟩
    refine ⟨_, rfl, _, rfl, _, rfl, _, rfl, _, _, rfl, rfl, _, _, rfl, rfl, s, A, B, c, _, rfl, hS, by omega, by omega, by omega, fun H1 r hS1 fr1 r0 r1 => ⟨_, _, rfl, rfl, ?_⟩⟩
    show gName 3 (V.int (least + r)) _ _ _
    generalize hn : least + r = n
    have n0 : 1 ≤ n := by omega
    have n1 : n ≤ 8 := by omega
    have n2 : least ≤ n := by omega
    have n3 : n ≤ most := by omega
    clear hn r0 r1
    refine ⟨_, rfl, _, rfl, RgOk.of_le (by omega) (by omega) (by omega) (by omega), fun L hL => ⟨Nat.zero_le _, fun O hO => ⟨Nat.zero_le _, fun R hR => ⟨_, _, _, rfl, ?_⟩⟩⟩⟩
    rw [rg_vi] at hR hO ⊢
    rw [show ((List.range n.toNat).map fun (i : Nat) => (i : Int)) = rg n from rfl] at hR hO ⊢
    have nLO : O ≠ L := fun e => by rw [e, upd_same] at hO; cases hO
    have hO1 : H1 O = none := by rw [upd_ne nLO] at hO; exact hO
    have nOR : R ≠ O := fun e => by rw [e, upd_same] at hR; cases hR
    have nLR : R ≠ L := fun e => by rw [e, upd_ne nLO.symm, upd_same] at hR; cases hR
    have hR1 : H1 R = none := by rw [upd_ne nOR, upd_ne nLR] at hR; exact hR
    have zL := hS1.ne hL
    have zO := hS1.ne hO1
    have zR := hS1.ne hR1
    have gL := fr1.free hS1 hL
    have gO := fr1.free hS1 hO1
    have gR := fr1.free hS1 hR1
    have hS2 : StreamAt (upd (upd (upd H1 L (.lst (vi (rg n)))) O (.lst [])) R (.lst [])) s A B (c + 1) := ((hS1.put zL).put zO).put zR
    have fr2 : Fr s A H (upd (upd (upd H1 L (.lst (vi (rg n)))) O (.lst [])) R (.lst [])) := ((fr1.put gL).put gO).put gR
    -- while left != []: order.append(left.pop(draw(s, len(left))))
    refine ⟨fun m σ H' => ∃ (lft ord : List Int) (c' : Nat), σ = [some (.ref s), some (.int least), some (.int most), some (.int n), some (.ref L), some (.ref O), some (.ref R), none, none, none] ∧ StreamAt H' s A B c' ∧ c' + lft.length ≤ c + 1 + n.toNat ∧
        Fr s A H H' ∧ H' L = some (.lst (vi lft)) ∧ H' O = some (.lst (vi ord)) ∧ H' R = some (.lst []) ∧ (ord ++ lft).Perm (rg n) ∧ m = lft.length,
      ⟨_, rg n, [], c + 1, rfl, hS2, by rw [rg_len]; omega, fr2, ?_, ?_, upd_same, List.Perm.refl _, rfl⟩, ?_⟩
    · rw [upd_ne nLR.symm, upd_ne nLO.symm, upd_same]
    · rw [upd_ne nOR.symm, upd_same]
      rfl
    clear hS2 fr2 hR hO
    rintro m σ H2 ⟨lft, ord, c2, rfl, hS2, hc2, fr2, eL, eO, eR, pm, rfl⟩
    have plen : ord.length + lft.length = n.toNat := by
      have := pm.length_eq
      rw [List.length_append, rg_len] at this
      exact this
    refine ⟨_, rfl, Nat.zero_le _, fun e he => ?_⟩
    have sm : Same H2 (upd H2 e (.lst [])) := same_upd he
    have hS3 := hS2.same sm
    have fr3 := fr2.put (o := .lst []) (fr2.free hS2 he)
    have eL3 := sm _ _ eL
    have eO3 := sm _ _ eO
    have eR3 := sm _ _ eR
    refine ⟨.list (lft.map .int), .list [], .lst (SqL.of eL3) (dp_ints lft), .lst (SqL.of upd_same) .nil, shaped_list lft, shaped_list [], _, rfl, ?_⟩
    clear eL eO eR hS2 fr2
    generalize upd H2 e (.lst []) = H3 at *
    clear sm he
    rw [eqv_nil]
    cases lft with
    | cons x0 lft0 =>
      generalize hlf : x0 :: lft0 = lft at *
      have lpos : 0 < lft.length := by rw [← hlf]; simp
      have lem : lft.isEmpty = false := by rw [← hlf]; rfl
      rw [lem]
      clear lem hlf
      refine iteT ⟨_, fun _ _ h => h, ?_⟩
      refine ⟨_, rfl, .inl ⟨rfl, _, SqL.of eO3⟩, _, rfl, .inl ⟨rfl, _, SqL.of eL3⟩, _, rfl, _, rfl, L, _, rfl, .inl (SqL.of eL3), s, A, B, c2, _, rfl, hS3, by omega, ?_, ?_, fun H4 r hS4 fr4 r0 r1 => ?_⟩
      · rw [List.length_map]; omega
      · rw [List.length_map]; omega
      rw [List.length_map] at r1
      have eL4 := fr4 _ _ zL.1.symm zL.2.1.symm eL3
      have eO4 := fr4 _ _ zO.1.symm zO.2.1.symm eO3
      have eR4 := fr4 _ _ zR.1.symm zR.2.1.symm eR3
      have hj : r.toNat < lft.length := by omega
      have ixr : ixN (vi lft).length r = some r.toNat := by
        unfold ixN
        rw [List.length_map, if_pos r0, if_pos r1]
      have gx : (vi lft)[r.toNat]? = some (V.int lft[r.toNat]) := by
        rw [List.getElem?_map, List.getElem?_eq_getElem hj]
        rfl
      refine ⟨L, _, r, r.toNat, _, rfl, rfl, eL4, by omega, by omega, (ixN_seq ixr).1, gx, ?_⟩
      have eO5 : (upd H4 L (.lst ((vi lft).eraseIdx r.toNat))) O = some (.lst (vi ord)) := (upd_ne nLO).trans eO4
      refine ⟨O, _, _, rfl, rfl, eO5, ?_, ?_⟩
      · rw [List.length_map]
        exact small1000 (by omega)
      have el : (lft.eraseIdx r.toNat).length = lft.length - 1 := by
        rw [List.length_eraseIdx, if_pos hj]
      refine ⟨(lft.eraseIdx r.toNat).length, by omega, lft.eraseIdx r.toNat, ord ++ [lft[r.toNat]], c2 + 1, rfl, ((hS4.put zL).put zO), by omega, ((fr3.trans fr4).put gL).put gO, ?_, ?_, ?_, ?_, rfl⟩
      · rw [upd_ne nLO.symm, upd_same, vi_erase]
      · rw [upd_same, vi_app]
        rfl
      · rw [upd_ne nOR, upd_ne nLR]
        exact eR4
      · refine List.Perm.trans ?_ pm
        rw [List.append_assoc]
        refine List.Perm.append_left ord ?_
        exact erase_perm hj
    | nil =>
      refine iteF ?_
      rw [List.append_nil] at pm
      clear eL3 zL gL hL nLO nLR hS1 fr1 hO1 hR1
      simp only [List.length_nil, Nat.add_zero] at hc2 plen
      have zO3 := zO
      -- lacks = [0, 0, 6][draw(s, 3)]
      refine ⟨by show 3 ≤ sizeLine; decide, fun M hM => ?_⟩
      have sm : Same H3 (upd H3 M (.lst [.int 0, .int 0, .int 6])) := same_upd hM
      refine ⟨_, rfl, s, A, B, c2, 3, rfl, hS3.same sm, by omega, by decide, by decide, fun H4 r hS4 fr4 r0 r1 => ?_⟩
      have zM := hS3.ne hM
      have eM4 := fr4 M _ zM.1.symm zM.2.1.symm upd_same
      have eO4 := fr4 _ _ zO.1.symm zO.2.1.symm (sm _ _ eO3)
      have eR4 := fr4 _ _ zR.1.symm zR.2.1.symm (sm _ _ eR3)
      have fr4' : Fr s A H H4 := (fr3.put (fr3.free hS3 hM)).trans fr4
      obtain ⟨lk, elk, hlk⟩ := lacks r0 r1
      refine ⟨M, _, _, _, rfl, rfl, SqL.of eM4, elk, ?_⟩
      clear eM4 fr4 sm hM zM elk eO3 eR3 fr3 hS3
      -- for k in range(1, rooms)
      refine ⟨_, rfl, 1, n, rfl, ⟨by decide, by decide, by omega, by omega⟩, for_range (lo := 1) (n := (n - 1).toNat) (fun i σ H' => ∃ (cc : Nat) (y8 y9 : Option V) (ps : List (Addr × Int × Int)),
        σ = [some (.ref s), some (.int least), some (.int most), some (.int n), some (.ref L), some (.ref O), some (.ref R), some (.int lk), y8, y9] ∧ cc ≤ c2 + 1 + 3 * i ∧ Mid H s A B O R ord cc ps H' ∧
        ps.length ≤ i ∧ ∃ U E, Grown U E ∧ (∀ x, x ∈ U ↔ x ∈ ord.take (i + 1)) ∧ (ps.map (·.2)).Perm E ∧ U.length = i + 1) ⟨c2 + 1, none, none, [], rfl, by omega, ⟨hS4, fr4', eO4, eR4, fun p hp => nomatch hp⟩, Nat.le_refl _, ?_⟩ ?_ ?_⟩
      · have h0 : 0 < ord.length := by omega
        refine ⟨[ord[0]], [], .room _ .nil (by simp), fun x => ?_, .nil, rfl⟩
        rw [List.take_add_one, List.getElem?_eq_getElem h0]
        simp
      · rintro i σ H5 hi ⟨cc, y8, y9, ps, rfl, hcc, M5, hps, U, E, g, hU, pE, lU⟩
        have hi1 : i + 1 < ord.length := by omega
        refine ⟨_, rfl, _, rfl, _, _, rfl, rfl, _, rfl, _, rfl, s, A, B, cc, _, rfl, M5.st, by omega, by omega, by omega, fun H6 r1 hS6 fr6 r10 r11 => ?_⟩
        have M6 := M5.fr hS6 fr6 zO zR
        refine ⟨by show 3 ≤ sizeLine; decide, fun N hN => ?_⟩
        have M7 := M6.new (o := .lst [.int (1 + (i : Int) - 1), .int 0, .int r1]) hN
        refine ⟨_, rfl, s, A, B, cc + 1, 3, rfl, M7.st, by omega, by decide, by decide, fun H8 r2 hS8 fr8 r20 r21 => ?_⟩
        have M8 := M7.fr hS8 fr8 zO zR
        have zN := M6.st.ne hN
        have eN8 := fr8 N _ zN.1.symm zN.2.1.symm upd_same
        obtain ⟨ix, eix, hix0, hix1⟩ := pick3 (i := i) r20 r21 r10 r11
        have hixl : ix.toNat < ord.length := by omega
        have eon : atI (vi ord) ix = some (V.int ord[ix.toNat]) := by
          have := atI_nat (xs := vi ord) (j := ix.toNat) (v := V.int ord[ix.toNat]) (by rw [List.getElem?_map, List.getElem?_eq_getElem hixl]; rfl)
          rw [show ((ix.toNat : Nat) : Int) = ix by omega] at this
          exact this
        have ekk : atI (vi ord) (1 + (i : Int)) = some (V.int ord[i + 1]) := by
          have := atI_nat (xs := vi ord) (j := i + 1) (v := V.int ord[i + 1]) (by rw [List.getElem?_map, List.getElem?_eq_getElem hi1]; rfl)
          rw [show ((i + 1 : Nat) : Int) = 1 + (i : Int) by omega] at this
          exact this
        refine ⟨N, _, _, _, rfl, rfl, SqL.of eN8, eix, O, _, _, _, rfl, rfl, SqL.of M8.eO, eon, ?_⟩
        clear eN8 fr8 zN hN M7 M6 fr6 eix
        have nd : ord.Nodup := pm.nodup_iff.mpr (rg_nodup n)
        have nv : ord[i + 1] ∉ U := fun m => by
          obtain ⟨j, hj, e⟩ := List.mem_take_iff_getElem.mp ((hU _).mp m)
          exact (List.pairwise_iff_getElem.mp nd) j (i + 1) (by omega) hi1 (by omega) e
        have mu : ord[ix.toNat] ∈ U := (hU _).mpr (List.mem_take_iff_getElem.mpr ⟨ix.toNat, by omega, rfl⟩)
        have hU' : ∀ x, x ∈ (ord[i + 1] :: U) ↔ x ∈ ord.take (i + 1 + 1) := fun x => by
          rw [List.take_add_one (i := i + 1), List.getElem?_eq_getElem hi1, List.mem_append, List.mem_cons, hU]
          simp [or_comm]
        dsimp only [gName]
        refine if_by (fun _ H' => ∃ c9, c9 ≤ cc + 3 ∧ Mid H s A B O R ord c9 ps H') ?_ ?_ ?_
        · rintro H9 ⟨c9, hc9, M9⟩
          refine ⟨_, rfl, .inl ⟨rfl, _, SqL.of M9.eR⟩, _, rfl, _, rfl, _, rfl, O, _, _, _, rfl, rfl, SqL.of M9.eO, ekk, _, _, rfl, _, rfl, _, rfl, _, rfl, O, _, _, _, rfl, rfl, SqL.of M9.eO, ekk, _, _, rfl, by show 2 ≤ sizeLine; decide, fun t ht => ?_⟩
          generalize hu : ord[ix.toNat] = u at *
          generalize hv : ord[i + 1] = v at *
          have M10 := M9.new (o := .tup [.int (if v < u then v else u), .int (if v > u then v else u)]) ht
          refine ⟨R, _, _, rfl, rfl, M10.eR, ?_, ?_⟩
          · rw [List.length_map]
            exact small1000 (by omega)
          refine ⟨c9, _, _, ps ++ [(t, if v < u then v else u, if v > u then v else u)], rfl, by omega, ⟨M10.st.put zR, M10.frm.put gR, ?_, ?_, ?_⟩, ?_, v :: U, _, .door v u (if v < u then v else u) (if v > u then v else u) g nv mu ?_, hU', ?_, ?_⟩
          · rw [upd_ne nOR.symm]
            exact M10.eO
          · rw [upd_same, List.map_append]
            rfl
          · intro p hp
            rcases List.mem_append.mp hp with hp | hp
            · have h1 := M10.eP p hp
              rw [upd_ne (ne_of h1 M10.eR (by intro q; cases q))]
              exact h1
            · rw [List.mem_singleton.mp hp]
              have h1 : (upd H9 t (.tup [.int (if v < u then v else u), .int (if v > u then v else u)])) t = some (.tup [.int (if v < u then v else u), .int (if v > u then v else u)]) := upd_same
              rw [upd_ne (ne_of h1 M10.eR (by intro q; cases q))]
              exact h1
          · rw [List.length_append, List.length_singleton]
            omega
          · constructor
            · split <;> omega
            · split <;> omega
          · rw [List.map_append]
            exact (List.perm_append_comm).trans (pE.cons _)
          · rw [List.length_cons, lU]
        · rintro H9 ⟨c9, hc9, M9⟩
          exact ⟨c9, _, _, ps, rfl, by omega, M9, by omega, _, _, .room _ g nv, hU', pE, by rw [List.length_cons, lU]⟩
        · intro QQ hQ
          refine ⟨_, rfl, rfl, _, rfl, ?_⟩
          refine ite2 (fun _ => ?_) (fun hz => ?_)
          · exact hQ _ _ ⟨cc + 2, by omega, M8⟩
          · have hlk6 : lk = 6 := by
              rcases hlk with e | e
              · subst e
                exact absurd (decide_eq_true rfl) hz
              · exact e
            subst hlk6
            refine ⟨_, rfl, _, rfl, s, A, B, cc + 2, 6, rfl, M8.st, by omega, by decide, by decide, fun H9 r3 hS9 fr9 _ _ => ?_⟩
            exact ⟨_, _, rfl, rfl, _, rfl, hQ _ _ ⟨cc + 3, by omega, M8.fr hS9 fr9 zO zR⟩⟩
      · rintro σ H5 ⟨cc, y8, y9, ps, rfl, hcc, M5, hps, U, E, g, hU, pE, lU⟩
        have kz : ∀ z ∈ ps, twoOf H5 (.ref z.1) = z.2 := fun z hz => twoOf_eq (M5.eP z hz)
        refine ⟨_, rfl, _, rfl, R, _, twoOf H5, rfl, SqL.of M5.eR, ?_, fun ys p hsrt hstb hp => ?_⟩
        · intro x hx
          obtain ⟨z, hz, rfl⟩ := List.mem_map.mp hx
          refine ⟨z.1, rfl, ?_⟩
          rw [kz z hz]
          exact M5.eP z hz
        obtain ⟨ps', pp, rfl⟩ := perm_map_inv hstb.perm rfl
        have upD : (ps'.map (·.2)).Pairwise Dlt := by
          have nd : (ps'.map (·.2)).Nodup := ((pp.map _).trans pE).nodup_iff.mpr g.nodup
          rw [List.nodup_iff_pairwise_ne, List.pairwise_map] at nd
          rw [List.pairwise_map]
          have hs : ps'.Pairwise fun x y => ltP (twoOf H5) (.ref y.1) (.ref x.1) = false := List.pairwise_map.mp hsrt
          refine (hs.and nd).imp_of_mem fun {x y} hx hy h => ?_
          have h1 : SrtO.lexB y.2 x.2 = false := by
            have := h.1
            unfold ltP at this
            rw [kz x (pp.mem_iff.mp hx), kz y (pp.mem_iff.mp hy)] at this
            exact this
          exact Dlt_of (SrtO.lexB_no.mp h1) h.2
        have M6 := M5.new (o := .lst (ps'.map fun p => V.ref p.1)) hp
        refine ⟨p, _, rfl, .inl ⟨SqL.of upd_same, fun d hd => ?_⟩⟩
        have M7 := M6.new (o := .tup (ps'.map fun p => V.ref p.1)) hd
        refine ⟨by show 2 ≤ sizeLine; decide, fun h hh => ?_⟩
        have M8 := M7.new (o := .tup [.int n, .ref d]) hh
        have tk : ord.take ((n - 1).toNat + 1) = ord := List.take_of_length_le (by omega)
        refine q _ h n (ps'.map (·.2)) (M8.st.mono (by omega)) M8.frm ⟨d, ps', upd_same, ?_, rfl, fun z hz => M8.eP z (pp.mem_iff.mp hz)⟩ ⟨U, E, g, fun x => ?_, (pp.map _).trans pE, by omega, upD⟩ n2 n3
        · rw [upd_ne (fun e => ?_), upd_same]
          rw [← e, upd_same] at hh
          cases hh
        · rw [hU, tk, pm.mem_iff, mem_rg]
end
end Fw
namespace Fw
open PySem PySem.Spec PyProof.Rows L2
/-! ### x in a tuple, by data -/
theorem units65 {k : Nat} {A : Around} (r : Room k A) : A.units + 65 < cLine := by have := r.un; omega
/-- a door as data -/
def pd (d : Int × Int) : PyData := .tuple [.int d.1, .int d.2]
theorem dp_pair {K : PySem.W.Frag} {H : Hp} {t : Addr} {d : Int × Int} (h : H t = some (.tup [.int d.1, .int d.2])) : Dp K H (.ref t) (pd d) :=
  .tup (SqT.of h) (.cons (.int _) (.cons (.int _) .nil))
theorem dp_pairs {K : PySem.W.Frag} {H : Hp} : ∀ {ps : List (Addr × Int × Int)}, (∀ p ∈ ps, H p.1 = some (.tup [.int p.2.1, .int p.2.2])) → DpAll K H (ps.map fun p => V.ref p.1) ((ps.map (·.2)).map pd)
  | [], _ => .nil
  | p :: ps, h => .cons (dp_pair (h p (List.mem_cons_self ..))) (dp_pairs fun q hq => h q (List.mem_cons_of_mem _ hq))
theorem tt_by {t : TT} {Q : Bool → Hp → Prop} {σ : L2.St} {H : Hp} (Good : Bool → Hp → Prop) (h : ∀ Q' : Bool → Hp → Prop, (∀ b H', Good b H' → Q' b H') → t σ H Q') (hq : ∀ b H', Good b H' → Q b H') : t σ H Q := h _ hq
theorem get_ref {ps : List (Addr × Int × Int)} {i : Nat} {x : V} (h : (ps.map fun p => V.ref p.1)[i]? = some x) : ∃ p, ps[i]? = some p ∧ x = .ref p.1 := by
  rw [List.getElem?_map] at h
  cases e : ps[i]? with
  | none => rw [e] at h; cases h
  | some v => rw [e] at h; exact ⟨v, rfl, (Option.some.inj h).symm⟩
theorem outs_succ {D : List (Int × Int)} {r : Int} {i : Nat} {d : Int × Int} (h : D[i]? = some d) : outs (D.take (i + 1)) r = outs (D.take i) r ++ if d.1 = r then [d.2] else [] := by
  unfold outs
  rw [List.take_add_one, h, List.filter_append, List.map_append]
  congr 1
  by_cases c : d.1 = r
  · rw [if_pos c]
    show List.map _ (List.filter _ [d]) = _
    rw [List.filter_cons_of_pos (by simpa using c)]
    rfl
  · rw [if_neg c]
    show List.map _ (List.filter _ [d]) = _
    rw [List.filter_cons_of_neg (by simpa using c)]
    rfl
theorem ins_succ {D : List (Int × Int)} {r : Int} {i : Nat} {d : Int × Int} (h : D[i]? = some d) : ins (D.take (i + 1)) r = ins (D.take i) r ++ if d.2 = r then [d.1] else [] := by
  unfold ins
  rw [List.take_add_one, h, List.filter_append, List.map_append]
  congr 1
  by_cases c : d.2 = r
  · rw [if_pos c]
    show List.map _ (List.filter _ [d]) = _
    rw [List.filter_cons_of_pos (by simpa using c)]
    rfl
  · rw [if_neg c]
    show List.map _ (List.filter _ [d]) = _
    rw [List.filter_cons_of_neg (by simpa using c)]
    rfl
theorem outs_len (D : List (Int × Int)) (r : Int) : (outs D r).length ≤ D.length := by
  unfold outs
  rw [List.length_map]
  exact List.length_filter_le _ _
theorem ins_len (D : List (Int × Int)) (r : Int) : (ins D r).length ≤ D.length := by
  unfold ins
  rw [List.length_map]
  exact List.length_filter_le _ _
section
variable {P : Program} {w : World} {K : PySem.W.Frag} {mg : Str → Option Value} {base : Heap}
abbrev nNb : List Str := ["house", "room", "doors", "a", "b"]
abbrev gAB : PySem.W.Frag → TG := fun K => gTup K 2 (gCons (gName 3) (gCons (gName 4) gNil))
theorem scNb : FnScope nNb ["house", "room"] (defScope sNb) := ⟨rfl, rfl, rfl, by decide +kernel, rfl, by decide +kernel, by decide +kernel⟩
end
end Fw
namespace Fw
open PySem PySem.Spec PyProof.Rows L2
/-! ### repr, where no repr is under way -/
/-! ### a def that is run where no repr is under way -/
structure FnG (P : Program) (w : World) (K : PySem.W.Frag) (mg : Str → Option Value) (base : Heap) (k : Nat) (f : Addr) (fd : FuncData) (ps : List Str) (sp : Sp) : Prop where
  len : ∀ vs H Q E, sp vs H Q E → vs.length = ps.length
  go : ∀ (A : Around) (out : List Env) (st : Shared) (H : Hp) (as : Args) (us : List Value) (vs : List V) (Q : VK), A.guards = some [] → Room k A → Env0 P w K mg base A out st H → BindsTo st fd as (ps.zip us) → Vals vs us → sp vs H Q E0 →
    codeAny (model P w) A (.call (.ref f) as) (CR CX0 out P w H st Q E0) st
section
variable {P : Program} {w : World} {K : PySem.W.Frag} {mg : Str → Option Value} {base : Heap}
theorem Fun.okG {x : Str} {st : Stmt} {f : Addr} {fd : FuncData} {N ps : List Str} {k : Nat} {sp : Sp} (F : Fun K x x st f fd) (S : FnScope N ps (defScope st)) (len : ∀ vs H Q E, sp vs H Q E → vs.length = ps.length)
    (bd : ∀ (c : Value) (A : Around) (out : List Env) (z : Shared) (H : Hp) (vs : List V) (Q : VK), (A.deeper (envOfC x (defScope st) z.heap.objs.size f c)).guards = some [] → Room k (A.deeper (envOfC x (defScope st) z.heap.objs.size f c)) → sp vs H Q E0 →
      ∃ t, PSs (cxOf CX0 P w K mg base N x (defScope st) f c A out z H E0).nox (defBody st) t ∧ t { nx := fun _ H' => Q .non H', rt := Q } (L2.start N vs) H) : FnG P w K mg base (k + 1) f fd ps sp := by
  obtain ⟨oc, od, kV, doc, pm, an, c, ct, osl, rfl, lk, hc⟩ := F.ex
  refine ⟨len, fun A out z H as us vs Q gd room en bi rel hs => ?_⟩
  have kin : K.In z.heap := fun b o e => (en.bs b o (en.mod.kin b o e)).1
  refine codeAny_call_function room.depth (kin _ _ lk) rfl S.co S.gen rfl (PySem.W.codeRec_of kin hc) (bi _ _ _ _ ?_)
  have kinds : ∀ y ∈ ps.zip us, (defScope st).names.lookup y.1 = some .local ∨ ((defScope st).names.lookup y.1 = some .cell ∧ ((cellsFrom (z.heap.objs.size + 1) (defScope st).names []).lookup y.1).isSome = true) := by
    rintro ⟨n, v⟩ hy
    exact (S.par n (List.of_mem_zip hy).1).imp id fun q => ⟨q, PySem.W.cellsFrom_some _ _ _ (.inl q)⟩
  refine wpAny_newFunctionEnv_cells S.kind kinds fun env ee z1 ic => ?_
  subst ee
  refine ⟨(en.mod.nolimit.keeps fun b o e => (en.bs b o e).1).keeps ic.toInCall.keep, codeAny_func ?_⟩
  obtain ⟨t, d, rd⟩ := bd c A out z H vs Q gd (room.deeper _) hs
  have inv := inv_start (CX := CX0) (E := E0) S room.hd en (len _ _ _ _ hs) rel ic
  refine wpAny_mono (d.nox.run [] z1 _ H _ inv rd) (fun fl z2 e => ?_) fun _ _ e => e
  match fl, e with
  | .ret u, ⟨v, σ', H', J, rv, q⟩ => exact ⟨v, H', J.os, J.bare, J.base, J.hok, rv, q⟩
  | .next, ⟨σ', H', J, q⟩ => exact ⟨.non, H', J.os, J.bare, J.base, J.hok, rfl, q⟩
  | .brk, ⟨_, _, _, q⟩ => exact q.elim
  | .cont, ⟨_, _, _, q⟩ => exact q.elim
/-- a call of such a def -/
theorem pe_callG {X : Cx} {k : Nat} {f : Addr} {fd : FuncData} {ps : List Str} {sp : Sp} {x : Str} {p pos : Pos} {e : Expr} {es : List Expr} {t : TA} (F : FnG X.prog X.w X.K X.mg X.base k f fd ps sp) (gd : X.A.guards = some []) (hr : Room k X.A)
    (hg : Gl X x) (hm : X.mg x = some (.ref f)) (hk : PySem.W.keepIn X.K (.ref f) = true) (hb : Binds X.K fd ps []) (ha : PA X (e :: es) t) (hdb : (x == ("__debug__" : Str)) = false := by decide)
    (h1 : starEach (e :: es) X.env = (false, eval e X.env) :: starEach es X.env := by rfl) (h2 : (backTo pos (starEach es X.env)).any (·.1) = false := by rfl) : PE X (.Call (.Name x p) (e :: es) [] pos) (tCall sp [] E0 t) := by
  constructor
  intro pins z σ H Q I h
  refine wpAny_Call_Name_kw (ld_glob I hg hm (PySem.W.callWith_K (h₀ := X.base) I.ok.mod.kin hk (thn (ha.run pos pins z σ H _ I h) ?_) h1 h2) hdb)
  rintro us z1 ⟨vs, H1, I1, r, q⟩
  refine ⟨I1.kIn, wpAny_call (codeAny_mono (F.go X.A X.stack z1 H1 ⟨us, []⟩ (us ++ []) (vs ++ []) Q gd hr I1.env0 (hb z1 us I1.kIn ?_) (r.append .nil) q) fun a z2 hq => ?_)⟩
  · rw [← (r.append .nil).length]
    exact F.len _ _ _ _ q
  · match a, hq with
    | .error _, hq => exact hq.elim
    | .ok (.ret u), hq => exact I1.after hq
    | .ok .next, hq => exact hq.elim
    | .ok .brk, hq => exact hq.elim
    | .ok .cont, hq => exact hq.elim
end
end Fw
namespace Fw
open PySem PySem.Spec PyProof.Rows L2
/-- the state at the law's own call: only the script is tracked -/
theorem top_state {P : Program} {w : World} {K : PySem.W.Frag} {mg mb : Str → Option Value} {a : Addr} {z : Shared} {vs : List Value} {ns : List Int} (kin : K.In z.heap) (gl : z.heap.Ns mainGlobals mg) (bl : z.heap.Ns builtinsNs mb)
    (bb : ∀ x : Str, x ≠ "__name__" → mb x = bootBuiltins x) (lim : z.heap.NoLimit) (ge : z.gens = #[]) (obj : z.heap.get? a = some { cls := .type "list", data := .seq vs.toArray }) (hi : IntsAre vs ns) (hl : ns.length ≤ sizeLine) :
    ∃ (H : Hp) (base : Heap), SqL K H a (vi ns) ∧ K.In base ∧ base.Ns mainGlobals mg ∧ Env0 P w K mg base callerA [] z H ∧ ∀ (H' : Hp) (z' : Shared), Un (frs []) [] H H' z.heap z'.heap → HOk P w H' z'.heap → OldK z.heap z'.heap := by
  have rel : Vals (vi ns) vs := vals_ints hi
  -- what is tracked: nothing, or the script alone
  have pick : ∃ H : Hp, SqL K H a (vi ns) ∧ HOk P w H z.heap ∧ (∀ b, H b = none ∨ (b = a ∧ K.lookup a = none ∧ ∃ xs, H b = some (.frz { cls := .type "list", data := .seq vs.toArray } (.lst xs)))) := by
    cases e : K.lookup a with
    | some o =>
      have e2 : o = { cls := .type "list", data := .seq vs.toArray } := by
        have := kin a o e
        rw [obj] at this
        exact (Option.some.inj this).symm
      subst e2
      refine ⟨fun _ => none, .inr ⟨_, vs.toArray, _, e, rfl, rfl, rfl, ?_, rel⟩, fun b u q => ?_, fun b => .inl rfl⟩
      · rw [List.size_toArray, hi.length]
        exact hl
      · cases (show (none : Option HO) = some u from q)
    | none =>
      refine ⟨upd (fun _ => none) a (.frz { cls := .type "list", data := .seq vs.toArray } (.lst (vi ns))), .inl (.inr ⟨_, upd_same⟩), fun b u q => ?_, fun b => ?_⟩
      · by_cases eb : b = a
        · rw [eb, upd_same] at q
          cases q
          rw [eb]
          exact ⟨obj, by rw [List.length_map]; exact hl, vs, _, rel, obj⟩
        · rw [upd_ne eb] at q
          cases q
      · by_cases eb : b = a
        · exact .inr ⟨eb, rfl, _, by rw [eb]; exact upd_same⟩
        · exact .inl (upd_ne eb)
  obtain ⟨H, hS, hok, only⟩ := pick
  have low : ∀ {b : Addr} {o : Obj}, z.heap.get? b = some o → (b = a → K.lookup a ≠ none) → (hidT z.heap H).get? b = some o := fun {b o} e q => hidT_get e (by
    rcases only b with n | ⟨eb, n, _⟩
    · exact n
    · exact absurd n (q eb))
  have dic : ∀ {b : Addr} {m : Str → Option Value}, z.heap.Ns b m → (hidT z.heap H).Ns b m := fun {b m} h => by
    obtain ⟨o, es, ep, e, d, r⟩ := h
    refine ⟨o, es, ep, hidT_get e ?_, d, r⟩
    rcases only b with n | ⟨eb, _, _⟩
    · exact n
    · rw [eb, obj] at e
      cases e
      cases (show Data.seq vs.toArray _ = Data.dict es ep from d)
  have kb : K.In (hidT z.heap H) := fun b o e => low (kin b o e) fun eb n => by
    rw [eb, n] at e
    cases e
  refine ⟨H, hidT z.heap H, hS, kb, dic gl, ?_, fun H' z' un ok' => OldK.of_keep fun b o e => ?_⟩
  · refine { frames := rfl, mod := ⟨kb, dic gl, ⟨mb, dic bl, bb⟩, ?_⟩, bs := fun b o e => of_hidT e, bsz := Nat.le_of_eq (hidT_size _ _), funs := trivial, frf := fun b hb => ?_, hok := hok, bare := .of_eq ge }
    · obtain ⟨mc, h1, h2⟩ := lim
      exact ⟨mc, dic h1, h2⟩
    · cases (show b ∈ ([] : List Addr) from hb)
  · rcases only b with n | ⟨eb, _, xs, fz⟩
    · refine un.keep b o e n (fun hb => ?_) (fun hb => ?_)
      · cases (show b ∈ ([] : List Addr) from hb)
      · cases hb
    · have f2 := (ok' b _ (un.frzs b _ _ fz)).1
      rw [eb, obj] at e
      cases e
      exact f2
/-- the law's def takes the script alone -/
abbrev Takes1 (fd : FuncData) : Prop := ∀ (z : Shared) (v : Value), BindsTo z fd ⟨[v], []⟩ [("_law_script", v)]
/-- the law's def, at fa, keeps sp over whatever holds the written part -/
def LawAt (P : Program) (w : World) (K : PySem.W.Frag) (mg : Str → Option Value) (k : Nat) (fa : Addr) (sp : Sp) : Prop :=
  ∃ fd, Takes1 fd ∧ ∀ b : Heap, K.In b → b.Ns mainGlobals mg → FnG P w K mg b k fa fd ["_law_script"] sp
/-- a promise that says True of every script -/
def Tells (sp : PySem.W.Frag → Sp) : Prop := ∀ K H a ns, ns.length ≤ 63 → SqL K H a (vi ns) → sp K [.ref a] H (fun v _ => v = .bl true) E0
/-- how a call that keeps such a promise ends -/
structure Told (P : Program) (w : World) (H : Hp) (z : Shared) (r : Result) (z' : Shared) : Prop where
  res : r = .ok (.ret (.bool true))
  os : z'.os = z.os
  bare : AllBare z'.gens
  st : ∃ H', Un (frs []) [] H H' z.heap z'.heap ∧ HOk P w H' z'.heap
theorem told {P : Program} {w : World} {H : Hp} {z z' : Shared} {r : Result} (e : CR CX0 [] P w H z (fun v _ => v = .bl true) E0 r z') : Told P w H z r z' := by
  rcases r with _ | f
  · exact False.elim e
  cases f
  all_goals first | exact False.elim e | skip
  rename_i u
  obtain ⟨v, H', o1, o2, un, ok, rv, qv⟩ := e
  have qv : v = .bl true := qv
  rw [qv] at rv
  exact ⟨by rw [show u = Value.bool true from rv], o1, o2, H', un, ok⟩
/-- the end of a law whose def wants that no repr is under way -/
theorem walkG {l : PySem.W.OpenLaw} {k : Nat} {q : Program} {ls : List Str} {XP : (Str → Option Value) → Heap → Prop} {Y : World → Heap → Prop} {d : DefRec} {K : Params → PySem.W.Frag} {sp : PySem.W.Frag → Sp} (t : Tells sp) (m : l.most = some 63) (nd : d.params.defaults = []) (room : Room k callerA)
    (inK : ∀ w h, Y w h → (K w.params).In h) (L : ∀ w mg fa h, (K w.params).In h → h.Ns mainGlobals mg → mg d.name = some (.ref fa) → LawAt l.prog w (K w.params) mg k fa (sp (K w.params))) :
    PySem.W.WalkO q ls XP Y l.row.toRowW d [] (fun f vs => PySem.call f vs) := by
  apply Att.attach_call m nd
  intro w _ z mg _ fa _ _ _ _ a vs ns G y _ _ _ here obj hi few gens
  obtain ⟨fd, one, keeps⟩ := L w mg fa _ (inK w _ y) G.T.g here
  obtain ⟨H, b, hS, kb, gb, en, old⟩ := top_state (P := l.prog) (w := w) (inK w _ y) G.T.g G.T.b G.T.builtins G.T.nolimit gens obj hi (Nat.le_trans few (by decide))
  have c := (keeps b kb gb).go callerA [] z H ⟨[.ref a], []⟩ [.ref a] [.ref a] (fun v _ => v = .bl true) rfl room en (one z (.ref a)) (.cons rfl .nil) (t _ H a ns few hS)
  exact codeAny_mono c fun r z' e => by
    have e := told e
    obtain ⟨H', un, ok⟩ := e.st
    exact ⟨e.res, old H' z' un ok, e.os, e.bare⟩
end Fw
namespace Fw
open PySem PySem.Spec PyProof.Rows L2
/-- a house as data -/
def hd (n : Int) (D : List (Int × Int)) : PyData := .tuple [.int n, .tuple (D.map pd)]
theorem log_small {i : Int} (h0 : 0 ≤ i) (h1 : i ≤ 100) : i.natAbs.log2 < 1920 := by
  by_cases h : i.natAbs = 0
  · rw [h]; decide
  · exact (Nat.log2_lt h).mpr (Nat.lt_of_le_of_lt (show i.natAbs ≤ 2 ^ 7 by omega) (Nat.pow_lt_pow_right (by decide) (by decide)))
theorem HouseAt.dp {K : PySem.W.Frag} {H : Hp} {h : Addr} {n : Int} {D : List (Int × Int)} (x : HouseAt H h n D) : Dp K H (.ref h) (hd n D) := by
  obtain ⟨q, ps, h1, h2, h3, h4⟩ := x
  rw [h3]
  exact .tup (SqT.of h1) (.cons (.int n) (.cons (.tup (SqT.of h2) (dp_pairs h4)) .nil))
end Fw
namespace Fw
open PySem PySem.Spec PyProof.Rows L2
/-- a def of the text, wherever it stands -/
def DefE (K : PySem.W.Frag) (mg : Str → Option Value) (x : Str) (st : Stmt) (ps : List Str) : Prop := ∃ f fd, Def K mg x st f fd ps
/-- a def that keeps a promise, by its name -/
def Cal (P : Program) (w : World) (K : PySem.W.Frag) (mg : Str → Option Value) (base : Heap) (k : Nat) (x : Str) (ps : List Str) (sp : Sp) : Prop :=
  ∃ f fd, mg x = some (.ref f) ∧ PySem.W.keepIn K (.ref f) = true ∧ Binds K fd ps [] ∧ FnOk P w K mg base CX0 k f fd ps sp
def CalG (P : Program) (w : World) (K : PySem.W.Frag) (mg : Str → Option Value) (base : Heap) (k : Nat) (x : Str) (ps : List Str) (sp : Sp) : Prop :=
  ∃ f fd, mg x = some (.ref f) ∧ PySem.W.keepIn K (.ref f) = true ∧ Binds K fd ps [] ∧ FnG P w K mg base k f fd ps sp
section
variable {P : Program} {w : World} {K : PySem.W.Frag} {mg : Str → Option Value} {base : Heap}
theorem Def.cal {x : Str} {st : Stmt} {f : Addr} {fd : FuncData} {ps : List Str} {k : Nat} {sp : Sp} (D : Def K mg x st f fd ps) (h : FnOk P w K mg base CX0 k f fd ps sp) : Cal P w K mg base k x ps sp :=
  ⟨f, fd, D.g, D.F.kp, D.b, h⟩
theorem Def.calG {x : Str} {st : Stmt} {f : Addr} {fd : FuncData} {ps : List Str} {k : Nat} {sp : Sp} (D : Def K mg x st f fd ps) (h : FnG P w K mg base k f fd ps sp) : CalG P w K mg base k x ps sp :=
  ⟨f, fd, D.g, D.F.kp, D.b, h⟩
theorem DefE.cal {x : Str} {st : Stmt} {ps : List Str} {k : Nat} {sp : Sp} (D : DefE K mg x st ps) (h : ∀ f fd, Def K mg x st f fd ps → FnOk P w K mg base CX0 k f fd ps sp) : Cal P w K mg base k x ps sp := by
  obtain ⟨f, fd, d⟩ := D
  exact d.cal (h f fd d)
theorem DefE.calG {x : Str} {st : Stmt} {ps : List Str} {k : Nat} {sp : Sp} (D : DefE K mg x st ps) (h : ∀ f fd, Def K mg x st f fd ps → FnG P w K mg base k f fd ps sp) : CalG P w K mg base k x ps sp := by
  obtain ⟨f, fd, d⟩ := D
  exact d.calG (h f fd d)
theorem Cal.imp {x : Str} {ps : List Str} {k : Nat} {sp sp' : Sp} (C : Cal P w K mg base k x ps sp) (h : ∀ vs H Q E, sp' vs H Q E → sp vs H Q E) : Cal P w K mg base k x ps sp' := by
  obtain ⟨f, fd, a, b, c, d⟩ := C
  exact ⟨f, fd, a, b, c, d.imp h⟩
theorem Cal.up {x : Str} {ps : List Str} {j k : Nat} {sp : Sp} (C : Cal P w K mg base j x ps sp) (h : j ≤ k) : Cal P w K mg base k x ps sp := by
  obtain ⟨f, fd, a, b, c, d⟩ := C
  exact ⟨f, fd, a, b, c, d.mono h⟩
theorem pe_cal {X : Cx} {k : Nat} {ps : List Str} {sp : Sp} {x : Str} {p pos : Pos} {e : Expr} {es : List Expr} {t : TA} (C : Cal X.prog X.w X.K X.mg X.base k x ps sp) (hr : Room k X.A) (hg : Gl X x) (ha : PA X (e :: es) t) (hdb : (x == ("__debug__" : Str)) = false := by decide)
    (h1 : starEach (e :: es) X.env = (false, eval e X.env) :: starEach es X.env := by rfl) (h2 : (backTo pos (starEach es X.env)).any (·.1) = false := by rfl) : PE X (.Call (.Name x p) (e :: es) [] pos) (tCall sp [] E0 t) := by
  obtain ⟨f, fd, a, b, c, d⟩ := C
  exact pe_call d hr hg a b c .nil pass0 ha hdb h1 h2
theorem pe_calG {X : Cx} {k : Nat} {ps : List Str} {sp : Sp} {x : Str} {p pos : Pos} {e : Expr} {es : List Expr} {t : TA} (C : CalG X.prog X.w X.K X.mg X.base k x ps sp) (gd : X.A.guards = some []) (hr : Room k X.A) (hg : Gl X x) (ha : PA X (e :: es) t) (hdb : (x == ("__debug__" : Str)) = false := by decide)
    (h1 : starEach (e :: es) X.env = (false, eval e X.env) :: starEach es X.env := by rfl) (h2 : (backTo pos (starEach es X.env)).any (·.1) = false := by rfl) : PE X (.Call (.Name x p) (e :: es) [] pos) (tCall sp [] E0 t) := by
  obtain ⟨f, fd, a, b, c, d⟩ := C
  exact pe_callG d gd hr hg a b c ha hdb h1 h2
end
def tTru (K : PySem.W.Frag) (ta : TE) : TT := fun σ H Q => ta σ H fun x H' => ∃ k, TruV K x H' k ∧ Q k H'
/-! ### the rules with the written part told (so that they can stand in a comprehension) -/
section
variable {X : Cx} (K : PySem.W.Frag) (h : X.K = K)
include h
theorem op_notInK : OpR X (compareOp .NotIn) (rIn K true) := by subst h; exact op_notIn_seq
theorem ix_listK : IxR X (rIxL K) := by subst h; exact ix_list
theorem ix_tupK : IxR X (rIxT K) := by subst h; exact ix_tup
theorem call_lenK : CallR X (.builtin "len") (fun xs H Q => ∃ p ys, xs = [.ref p] ∧ (SqL K H p ys ∨ SqT K H p ys) ∧ Q (.int ys.length) H) := by subst h; exact call_len_seq
theorem call_tupleK : CallR X (.type "tuple") (fun xs H Q => ∃ p ys, xs = [.ref p] ∧ ((SqL K H p ys ∧ ∀ l, H l = none → Q (.ref l) (upd H l (.tup ys))) ∨ (SqT K H p ys ∧ Q (.ref p) H))) := by subst h; exact call_tuple_of
theorem call_tupleF : CallR X (.type "tuple") (fun xs H Q => ∃ p ys, xs = [.ref p] ∧ SqL K H p ys ∧ ∀ (l : Addr) (ob : Obj), H l = none → ob.dict = none → Q (.ref l) (upd H l (.frz ob (.tup ys)))) := by
  subst h
  intro pins s σ H xs us Q I r h
  obtain ⟨p, ys, rfl, hq, q⟩ := h
  obtain ⟨u, rfl, ru⟩ := vals1 r
  cases ru
  obtain ⟨its, rel, pl, hz⟩ := I.list hq
  have hlen := rel.length
  refine call_tuple_list pl.isList (fun h' kp => ?_) (by simp only [List.size_toArray] <;> omega)
  have I1 : Inv X pins σ H { s with heap := h' } := I.kept (t' := s.toks) kp
  have J : Inv X pins σ (upd H h'.objs.size (.frz { cls := .type "tuple", data := .seq its.toArray } (.tup ys))) { s with heap := h'.push { cls := .type "tuple", data := .seq its.toArray } } :=
    I1.laid (t' := s.toks) (fun b o e => Heap.get?_push_of_some _ e) (Nat.le_refl _) (show ObjOk X.prog X.w _ _ _ (.frz _ (.tup ys)) from ⟨Heap.get?_push_size _ rfl, hz, its, rel, IsTup.new _ _⟩)
  exact ⟨.ref h'.objs.size, _, J, rfl, q _ _ (I1.hok.fresh (Nat.le_refl _)) rfl⟩
theorem pi_tupK {tg l : Expr} {tl : TE} (hl : PE X l tl) : PI X tg l (iTup K tl) := by subst h; exact pi_tup hl
theorem pi_listK {tg l : Expr} {tl : TE} (hl : PE X l tl) : PI X tg l (iList K tl) := by subst h; exact pi_list hl
theorem op_eqDK (hu : X.A.units + 64 < cLine) : OpR X (compareOp .Eq) (rEqD K) := by subst h; exact op_eqD hu
theorem pt_truthK {a : Expr} {ta : TE} (ha : PE X a ta) (he : ∀ whole, isTrue a X.env whole = (do let v ← whole; standAt a.pos; holding [v] (truthy v))) : PT X a (tTru K ta) := by subst h; exact pt_truth ha he
end
end Fw
namespace Fw
open PySem PySem.Spec PyProof.Rows L2
/-! ### names: texts of small letters -/
def Low (m : Nat) (s : Str) : Prop := s.length ≤ m ∧ ∀ c ∈ s.cps.toList, 97 ≤ c ∧ c ≤ 122
def Nam (s : Str) : Prop := 1 ≤ s.length ∧ Low 8 s
def ltS (a b : Str) : Prop := a.cps.toList < b.cps.toList
structure Names (ns : List Str) : Prop where
  nam : ∀ x ∈ ns, Nam x
  up : ns.Pairwise ltS
theorem str_ext {a b : Str} (h : a.cps.toList = b.cps.toList) : a = b := by
  cases a with
  | mk x => cases b with
    | mk y =>
      have : x = y := Array.toList_inj.mp h
      rw [this]
theorem app_list (a b : Str) : (a ++ b).cps.toList = a.cps.toList ++ b.cps.toList := by
  show (a.cps ++ b.cps).toList = _
  rw [Array.toList_append]
theorem app_len (a b : Str) : (a ++ b).length = a.length + b.length := Str.length_append a b
theorem len_list (a : Str) : a.length = a.cps.toList.length := by
  show a.cps.size = _
  rw [Array.length_toList]
theorem Low.app {m n : Nat} {a b : Str} (h : Low m a) (k : Low n b) : Low (m + n) (a ++ b) := by
  refine ⟨by rw [app_len]; have := h.1; have := k.1; omega, fun c hc => ?_⟩
  rw [app_list, List.mem_append] at hc
  exact hc.elim (h.2 c) (k.2 c)
theorem Low.mono {m n : Nat} {a : Str} (h : Low m a) (k : m ≤ n) : Low n a := ⟨Nat.le_trans h.1 k, h.2⟩
def let1 (i : Int) : Str := ⟨#[97 + i.toNat]⟩
theorem let1_low {i : Int} (h0 : 0 ≤ i) (h1 : i < 26) : Low 1 (let1 i) := by
  refine ⟨Nat.le_refl _, fun c hc => ?_⟩
  have : c = 97 + i.toNat := by simpa [let1] using hc
  omega
theorem join_low {sep : Str} (hs : sep.cps.toList = []) : ∀ {ys : List Str}, (∀ y ∈ ys, Low 1 y) → Low ys.length (Txt.join sep ys) := by
  intro ys h
  show Low ys.length (Builtin.Str.glued sep ys)
  rw [StrLaws.glued_eq_join]
  induction ys with
  | nil => exact ⟨Nat.le_refl _, fun c hc => by cases (show c ∈ ([] : List Nat) from hc)⟩
  | cons y r ih =>
    cases r with
    | nil => exact h y (List.mem_cons_self ..)
    | cons z r =>
      have i1 := ih fun x hx => h x (List.mem_cons_of_mem _ hx)
      have i0 := h y (List.mem_cons_self ..)
      have e : Str.join sep (y :: z :: r) = y ++ sep ++ Str.join sep (z :: r) := rfl
      have e2 : y ++ sep = y := str_ext (by rw [app_list, hs, List.append_nil])
      rw [e, e2]
      refine ((i0.app i1).mono ?_)
      simp only [List.length_cons]
      omega
theorem join_fits {sep : Str} (hs : sep.cps.toList = []) {ys : List Str} (h : ∀ y ∈ ys, Low 1 y) (hl : ys.length ≤ 100) : (ys.map (·.length)).sum + ys.length * sep.length ≤ 16777216 := by
  have e : sep.length = 0 := by rw [len_list, hs]; rfl
  rw [e, Nat.mul_zero, Nat.add_zero]
  have : ∀ zs : List Str, (∀ y ∈ zs, Low 1 y) → (zs.map (·.length)).sum ≤ zs.length := by
    intro zs hz
    induction zs with
    | nil => exact Nat.le_refl _
    | cons z r ih =>
      have := ih fun x hx => hz x (List.mem_cons_of_mem _ hx)
      have := (hz z (List.mem_cons_self ..)).1
      simp only [List.map_cons, List.sum_cons, List.length_cons]
      omega
  have := this ys h
  omega
def nmk (h t : Str) (r : Int) (k : Nat) : Str := h ++ let1 ((r + 7 * (0 + (k : Int))).fmod 26) ++ t
theorem fm26 (x : Int) : 0 ≤ x.fmod 26 ∧ x.fmod 26 < 26 := by
  rw [Int.fmod_eq_emod_of_nonneg x (by decide)]
  omega
theorem nmk_nam {h t : Str} {r : Int} {k : Nat} (a : Low 3 h) (b : Low 3 t) : Nam (nmk h t r k) := by
  have l := let1_low (fm26 (r + 7 * (0 + (k : Int)))).1 (fm26 _).2
  have := ((a.app l).app b).mono (show 3 + 1 + 3 ≤ 8 by decide)
  refine ⟨?_, this⟩
  unfold nmk
  rw [app_len, app_len]
  show 1 ≤ h.length + 1 + t.length
  omega
theorem nmk_len {h t : Str} {r : Int} {k : Nat} (a : Low 3 h) (b : Low 3 t) : (nmk h t r k).length ≤ 7 := ((a.app (let1_low (fm26 (r + 7 * (0 + (k : Int)))).1 (fm26 _).2)).app b).1
theorem nmk_inj {h t : Str} {r : Int} {i j : Nat} (hi : i < 26) (hj : j < 26) (e : nmk h t r i = nmk h t r j) : i = j := by
  have e1 := congrArg (fun s : Str => s.cps.toList) e
  simp only [nmk, app_list] at e1
  have e2 := List.append_cancel_right e1
  have e3 := List.append_cancel_left e2
  have e4 : 97 + ((r + 7 * (0 + (i : Int))).fmod 26).toNat = 97 + ((r + 7 * (0 + (j : Int))).fmod 26).toNat := by simpa [let1] using e3
  have a := fm26 (r + 7 * (0 + (i : Int)))
  have b := fm26 (r + 7 * (0 + (j : Int)))
  rw [Int.fmod_eq_emod_of_nonneg _ (by decide)] at a b e4
  rw [Int.fmod_eq_emod_of_nonneg _ (by decide)] at e4
  omega
theorem nmk_nodup {h t : Str} {r : Int} {m : Nat} (hm : m ≤ 26) : ((List.range m).map (nmk h t r)).Nodup := by
  rw [List.nodup_iff_pairwise_ne, List.pairwise_map]
  refine (List.nodup_iff_pairwise_ne.mp List.nodup_range).imp_of_mem fun {a b} ha hb ne e => ne ?_
  rw [List.mem_range] at ha hb
  exact nmk_inj (by omega) (by omega) e
theorem risingS_le : ∀ {ys : List Str} {p : Str}, risingS p ys = true → (∀ x ∈ ys, ¬ ltS x p) ∧ ys.Pairwise (fun a b => ¬ ltS b a)
  | [], _, _ => ⟨fun _ h => absurd h List.not_mem_nil, .nil⟩
  | x :: r, p, h => by
    rw [risingS, Bool.and_eq_true, Bool.not_eq_true', ltCps_eq, decide_eq_false_iff_not] at h
    obtain ⟨h1, h2⟩ := h
    obtain ⟨i1, i2⟩ := risingS_le h2
    refine ⟨fun y hy => ?_, .cons i1 i2⟩
    rcases List.mem_cons.mp hy with rfl | hy
    · exact h1
    · have h3 := i1 y hy
      exact fun z => List.le_trans (α := Nat) (Std.not_lt.mp h1) (Std.not_lt.mp h3) z
theorem sortedS_le {ys : List Str} (h : sortedS ys = true) : ys.Pairwise (fun a b => ¬ ltS b a) := by
  cases ys with
  | nil => exact .nil
  | cons x r => exact .cons (risingS_le h).1 (risingS_le h).2
theorem ltS_of {a b : Str} (h : ¬ ltS b a) (n : a ≠ b) : ltS a b := by
  have h : a.cps.toList ≤ b.cps.toList := Std.not_lt.mp h
  by_cases l : ltS a b
  · exact l
  · exact absurd (str_ext (List.le_antisymm h (Std.not_lt.mp l))) n
theorem sorted_names {ns ys : List Str} (p : ys.Perm ns) (h : sortedS ys = true) (n : ns.Nodup) (a : ∀ x ∈ ns, Nam x) : Names ys := by
  refine ⟨fun x hx => a x (p.mem_iff.mp hx), ?_⟩
  have nd : ys.Nodup := p.nodup_iff.mpr n
  exact ((sortedS_le h).and (List.nodup_iff_pairwise_ne.mp nd)).imp fun {a b} h => ltS_of h.1 h.2
theorem ltS_irr (a : Str) : ¬ ltS a a := fun h => List.lt_irrefl _ h
theorem ltS_trans {a b c : Str} (h : ltS a b) (k : ltS b c) : ltS a c := List.lt_trans h k
theorem Names.nodup {ns : List Str} (h : Names ns) : ns.Nodup := List.nodup_iff_pairwise_ne.mpr (h.up.imp fun {a b} l => fun (e : a = b) => ltS_irr b (by rw [e] at l; exact l))
theorem vs_app (a b : List Str) : (a ++ b).map V.str = a.map V.str ++ b.map V.str := List.map_append
theorem get_vs {ns : List Str} {i : Nat} {x : V} (h : (ns.map V.str)[i]? = some x) : ∃ v, ns[i]? = some v ∧ x = .str v := by
  rw [List.getElem?_map] at h
  cases e : ns[i]? with
  | none => rw [e] at h; cases h
  | some v => rw [e] at h; exact ⟨v, rfl, (Option.some.inj h).symm⟩
theorem abc_at {z : Str} (hz : z.cps.toList = (List.range 26).map (97 + ·)) {i : Int} (h0 : 0 ≤ i) (h1 : i < 26) : atI z.cps.toList i = some (97 + i.toNat) := by
  have := atI_nat (xs := z.cps.toList) (j := i.toNat) (v := 97 + i.toNat) (by rw [hz, List.getElem?_map, List.getElem?_range (by omega)]; rfl)
  rw [show ((i.toNat : Nat) : Int) = i by omega] at this
  exact this
theorem nam_ok {s : Str} (h : Nam s) : PyData.strOk s = true := by
  unfold PyData.strOk
  rw [Array.all_eq_true_iff_forall_mem]
  intro c hc
  have := h.2.2 c (by rw [Array.mem_toList_iff]; exact hc)
  exact decide_eq_true (by omega)
/-! ### a placement, as it stands in memory -/
/-- a tuple that is to be read (the second way: one that is known to have no attributes of its own) -/
def TpAt (H : Hp) (p : Addr) (xs : List V) : Prop := H p = some (.tup xs) ∨ ∃ o : Obj, o.dict = none ∧ H p = some (.frz o (.tup xs))
theorem TpAt.same {H H' : Hp} {p : Addr} {xs : List V} (x : TpAt H p xs) (e : Same H H') : TpAt H' p xs := x.elim (fun h => .inl (e _ _ h)) fun ⟨o, d, h⟩ => .inr ⟨o, d, e _ _ h⟩
theorem TpAt.sq {K : PySem.W.Frag} {H : Hp} {p : Addr} {xs : List V} (x : TpAt H p xs) : SqT K H p xs := x.elim (fun h => SqT.of h) fun ⟨o, _, h⟩ => .inl (.inr ⟨o, h⟩)
def PlAt (H : Hp) (p : Addr) (P : List (Str × Int)) : Prop := ∃ ps : List (Addr × Str × Int), TpAt H p (ps.map fun q => V.ref q.1) ∧ P = ps.map (·.2) ∧ ∀ q ∈ ps, H q.1 = some (.tup [.str q.2.1, .int q.2.2])
theorem PlAt.same {H H' : Hp} {p : Addr} {P : List (Str × Int)} (x : PlAt H p P) (e : Same H H') : PlAt H' p P := by
  obtain ⟨ps, h1, h2, h3⟩ := x
  exact ⟨ps, h1.same e, h2, fun q hq => e _ _ (h3 q hq)⟩
/-- the same, of a tuple of the second way -/
def PlD (H : Hp) (p : Addr) (P : List (Str × Int)) : Prop := ∃ (ps : List (Addr × Str × Int)) (o : Obj), o.dict = none ∧ H p = some (.frz o (.tup (ps.map fun q => V.ref q.1))) ∧ P = ps.map (·.2) ∧ ∀ q ∈ ps, H q.1 = some (.tup [.str q.2.1, .int q.2.2])
theorem PlD.pl {H : Hp} {p : Addr} {P : List (Str × Int)} (x : PlD H p P) : PlAt H p P := by
  obtain ⟨ps, o, d, h1, h2, h3⟩ := x
  exact ⟨ps, .inr ⟨o, d, h1⟩, h2, h3⟩
theorem PlD.same {H H' : Hp} {p : Addr} {P : List (Str × Int)} (x : PlD H p P) (e : Same H H') : PlD H' p P := by
  obtain ⟨ps, o, d, h1, h2, h3⟩ := x
  exact ⟨ps, o, d, e _ _ h1, h2, fun q hq => e _ _ (h3 q hq)⟩
/-- a placement of n rooms -/
structure Pl (n : Int) (P : List (Str × Int)) : Prop where
  nm : Names (P.map (·.1))
  rm : ∀ x ∈ P, 0 ≤ x.2 ∧ x.2 < n
theorem Pl.nodup {n : Int} {P : List (Str × Int)} (h : Pl n P) : (P.map (·.1)).Nodup := h.nm.nodup
/-! ### parameters -/
abbrev pDraw : List Str := ["_law_stream_here", "_law_many"]
abbrev pIsAsc : List Str := ["sequence"]
abbrev pIsInt : List Str := ["value"]
abbrev pIsRoom : List Str := ["house", "value"]
abbrev pNamesOf : List Str := ["placement"]
abbrev pPl : List Str := ["_law_stream_here", "_law_house_here", "_law_most"]
abbrev pRoomOf : List Str := ["placement", "name"]
abbrev pSame : List Str := ["_law_found", "_law_expected"]
end Fw
namespace Fw
open PySem PySem.Spec PyProof.Rows L2
section
variable {P : Program} {w : World} {K : PySem.W.Frag} {mg : Str → Option Value} {base : Heap}
theorem StreamAt.frz {s A B : Addr} {c : Nat} {H : Hp} (hS : StreamAt H s A B c) {t : Addr} {o : Obj} {u : HO} (h : H t = some (.frz o u)) : t ≠ s ∧ t ≠ A ∧ t ≠ B := by
  obtain ⟨big, cells, cnt, h1, h2, h3, _⟩ := hS.ex
  exact ⟨ne_of h h1 (by intro q; cases q), ne_of h h2 (by intro q; cases q), ne_of h h3 (by intro q; cases q)⟩
theorem Fr.frz {s A B : Addr} {c : Nat} {H H1 : Hp} (f : Fr s A H H1) (hS : StreamAt H s A B c) {t : Addr} {o : Obj} {u : HO} (h : H t = some (.frz o u)) : H1 t = some (.frz o u) := f t _ (hS.frz h).1 (hS.frz h).2.1 h
theorem TpAt.fr {s A B : Addr} {c : Nat} {H H' : Hp} {p : Addr} {xs : List V} (x : TpAt H p xs) (hS : StreamAt H s A B c) (e : Fr s A H H') : TpAt H' p xs := x.elim (fun h => .inl (e.tup hS h)) fun ⟨o, d, h⟩ => .inr ⟨o, d, e.frz hS h⟩
theorem PlAt.fr {s A B : Addr} {c : Nat} {H H' : Hp} {p : Addr} {P : List (Str × Int)} (x : PlAt H p P) (hS : StreamAt H s A B c) (e : Fr s A H H') : PlAt H' p P := by
  obtain ⟨ps, h1, h2, h3⟩ := x
  exact ⟨ps, h1.fr hS e, h2, fun q hq => e.tup hS (h3 q hq)⟩
theorem PlD.fr {s A B : Addr} {c : Nat} {H H' : Hp} {p : Addr} {P : List (Str × Int)} (x : PlD H p P) (hS : StreamAt H s A B c) (e : Fr s A H H') : PlD H' p P := by
  obtain ⟨ps, o, d, h1, h2, h3⟩ := x
  exact ⟨ps, o, d, e.frz hS h1, h2, fun q hq => e.tup hS (h3 q hq)⟩
def spNames : Sp := fun vs H Q _ => ∃ (s A B : Addr) (c : Nat) (m : Int), vs = [.ref s, .int m] ∧ StreamAt H s A B c ∧ c < 2 ^ 30 ∧ 0 ≤ m ∧ m ≤ 20 ∧
  ∀ H' l ns, StreamAt H' s A B (c + 10) → Fr s A H H' → H l = none → H' l = some (.lst (ns.map V.str)) → ns.length = m.toNat → Names ns → Q (.ref l) H'
/-- the same, with more known of the names -/
def spNamesS (S : List Str → Prop) : Sp := fun vs H Q _ => ∃ (s A B : Addr) (c : Nat) (m : Int), vs = [.ref s, .int m] ∧ StreamAt H s A B c ∧ c < 2 ^ 30 ∧ 0 ≤ m ∧ m ≤ 20 ∧
  ∀ H' l ns, StreamAt H' s A B (c + 10) → Fr s A H H' → H l = none → H' l = some (.lst (ns.map V.str)) → ns.length = m.toNat → Names ns → S ns → Q (.ref l) H'
abbrev spNamesR (R : Str → Prop) : Sp := spNamesS fun ns => ∀ x ∈ ns, R x
/-- short, and all of one length -/
def OneLen (ns : List Str) : Prop := (∀ x ∈ ns, x.length ≤ 7) ∧ ∃ u, ∀ x ∈ ns, x.length = u
theorem nmk_lenE {h t : Str} {r : Int} {k : Nat} : (nmk h t r k).length = h.length + 1 + t.length := by
  unfold nmk
  rw [app_len, app_len]
  rfl
abbrev nNames : List Str := ["_law_stream_here", "_law_many", "_law_letters", "_law_first", "_law_head", "_law_k", "_law_tail"]
theorem scNames : FnScope nNames ["_law_stream_here", "_law_many"] (defScope sNames) := ⟨rfl, rfl, rfl, by decide +kernel, rfl, by decide +kernel, by decide +kernel⟩
theorem ok_namesS {f : Addr} {fd : FuncData} (F : Fun K "_law_names" "_law_names" sNames f fd) (T : Nm mg) (C_law_draw : Cal P w K mg base 1 "_law_draw" pDraw spDraw) : FnOk P w K mg base CX0 2 f fd ["_law_stream_here", "_law_many"] (spNamesS OneLen) := by
  refine F.ok scNames (fun vs H Q E h => ?_) (fun cdv A outer s H vs Q E hr h => ?_)
  · obtain ⟨s, A, B, c, m, rfl, _⟩ := h
    rfl
  · obtain ⟨s, A, B, c, m, rfl, hS, hc, hm0, hm1, q⟩ := h
    refine ⟨_, (pss_cons (ps_set (i := 2) scNames.nd rfl (.inr rfl) pe_str)
      (pss_cons (ps_set (i := 3) scNames.nd rfl (.inr rfl) (pe_cal C_law_draw (hr.mono (by decide)) (by rfl) (pa_cons (pv 0) (pa_cons pe_int pa_nil))))
      (pss_cons (ps_set (i := 4) scNames.nd rfl (.inr rfl) (pe_join pe_str (pe_lc (own := [("_law_k", 5)]) (g := gName 5) (by rfl) scNames.nd (pi_range1 (by rfl) T.range (pa_cons (pe_cal C_law_draw (hr.mono (by decide)) (by rfl) (pa_cons (pv 0) (pa_cons pe_int pa_nil))) pa_nil))
 (blkOk_by (own := [("_law_k", 5)]) (N := nNames) (sc := defScope sNames) (by decide +kernel))
 (fun _ _ _ _ _ => (pg_name (i := 5) scNames.nd rfl (.inl rfl))) (fun _ _ _ _ _ => pts_nil) (fun _ _ _ _ _ => (pe_ix ix_str (pv 2) (pe_cal C_law_draw (hr.mono (by decide)) (by rfl) (pa_cons (pv 0) (pa_cons pe_int pa_nil))) (fun _ _ => rfl))))))
      (pss_cons (ps_set (i := 6) scNames.nd rfl (.inr rfl) (pe_join pe_str (pe_lc (own := [("_law_k", 5)]) (g := gName 5) (by rfl) scNames.nd (pi_range1 (by rfl) T.range (pa_cons (pe_cal C_law_draw (hr.mono (by decide)) (by rfl) (pa_cons (pv 0) (pa_cons pe_int pa_nil))) pa_nil))
 (blkOk_by (own := [("_law_k", 5)]) (N := nNames) (sc := defScope sNames) (by decide +kernel))
 (fun _ _ _ _ _ => (pg_name (i := 5) scNames.nd rfl (.inl rfl))) (fun _ _ _ _ _ => pts_nil) (fun _ _ _ _ _ => (pe_ix ix_str (pv 2) (pe_cal C_law_draw (hr.mono (by decide)) (by rfl) (pa_cons (pv 0) (pa_cons pe_int pa_nil))) (fun _ _ => rfl))))))
      (pss_one (ps_ret (pe_callB cr_sortedS (by rfl) T.sorted (by decide +kernel) (pa_cons (pe_lc (own := [("_law_k", 5)]) (g := gName 5) (by rfl) scNames.nd (pi_range1 (by rfl) T.range (pa_cons (pv 1) pa_nil))
 (blkOk_by (own := [("_law_k", 5)]) (N := nNames) (sc := defScope sNames) (by decide +kernel))
 (fun _ _ _ _ _ => (pg_name (i := 5) scNames.nd rfl (.inl rfl))) (fun _ _ _ _ _ => pts_nil) (fun _ _ _ _ _ => (pe_op op_add_str (pe_op op_add_str (pv 4) (pe_ix ix_str (pv 2) (pe_op op_modN (pe_op op_add (pv 3) (pe_op op_mul pe_int (pv 5))) pe_int) (fun _ _ => rfl))) (pv 6)))) pa_nil)))))))), ?_⟩
    refine ⟨_, rfl, s, A, B, c, _, rfl, hS, by omega, by decide, by decide, fun H1 r hS1 fr1 r0 r1 => ?_⟩
    refine ⟨⟨_, rfl⟩, _, rfl, s, A, B, c + 1, _, rfl, hS1, by omega, by decide, by decide, fun H2 r2 hS2 fr2 r20 r21 => ?_⟩
    have abc : (Str.ofString "abcdefghijklmnopqrstuvwxyz").cps.toList = (List.range 26).map (97 + ·) := by decide +kernel
    have nil : (Str.ofString "").cps.toList = [] := by decide +kernel
    refine ⟨r2, rfl, by omega, by omega, fun L hL => lc_range (lo := 0) (n := r2.toNat) (fun i H' => ∃ ys : List Str, StreamAt H' s A B (c + 1 + 1 + i) ∧ Fr s A H2 H' ∧ H' L = some (.lst (ys.map V.str)) ∧ ys.length = i ∧ ∀ y ∈ ys, Low 1 y)
      ⟨[], hS2.same (same_upd hL), Fr.of (same_upd hL), upd_same, rfl, fun y hy => absurd hy List.not_mem_nil⟩ ?_ ?_⟩
    · rintro i H' hi ⟨ys, hS', fr', e', l', p'⟩
      refine ⟨rfl, ?_⟩
      unfold tYes
      refine iteT ⟨_, rfl, _, rfl, s, A, B, c + 1 + 1 + i, _, rfl, hS', by omega, by decide, by decide, fun H'' x hS'' fr'' x0 x1 => ?_⟩
      have z := hS2.ne hL
      refine ⟨_, x, _, rfl, rfl, by decide +kernel, abc_at abc x0 x1, _, fr'' _ _ z.1.symm z.2.1.symm e', ?_, ys ++ [let1 x], hS''.put z, (fr'.trans fr'').put hL, ?_, ?_, ?_⟩
      · rw [List.length_map]
        exact small1000 (by omega)
      · rw [upd_same, vs_app]
        rfl
      · rw [List.length_append, l']
        rfl
      · intro y hy
        rcases List.mem_append.mp hy with hy | hy
        · exact p' y hy
        · rw [List.mem_singleton.mp hy]
          exact let1_low x0 x1
    rintro H3 ⟨ys, hS3, fr3, e3, l3, p3⟩
    refine ⟨_, L, ys, rfl, rfl, .inl (SqL.of e3), join_fits nil p3 (by omega), ?_⟩
    have hd : Low 3 (Txt.join (Str.ofString "") ys) := (join_low nil p3).mono (by omega)
    generalize Txt.join (Str.ofString "") ys = hd' at *
    have hS3 := hS3.mono (show _ ≤ c + 5 by omega)
    have fr3 : Fr s A H H3 := (fr1.trans fr2).trans fr3
    clear e3 l3 p3 hL fr2 hS2
    refine ⟨⟨_, rfl⟩, _, rfl, s, A, B, c + 5, _, rfl, hS3, by omega, by decide, by decide, fun H4 r4 hS4 fr4 r40 r41 => ?_⟩
    refine ⟨r4, rfl, by omega, by omega, fun M hM => lc_range (lo := 0) (n := r4.toNat) (fun i H' => ∃ ys : List Str, StreamAt H' s A B (c + 5 + 1 + i) ∧ Fr s A H4 H' ∧ H' M = some (.lst (ys.map V.str)) ∧ ys.length = i ∧ ∀ y ∈ ys, Low 1 y)
      ⟨[], hS4.same (same_upd hM), Fr.of (same_upd hM), upd_same, rfl, fun y hy => absurd hy List.not_mem_nil⟩ ?_ ?_⟩
    · rintro i H' hi ⟨ys, hS', fr', e', l', p'⟩
      refine ⟨rfl, ?_⟩
      unfold tYes
      refine iteT ⟨_, rfl, _, rfl, s, A, B, c + 5 + 1 + i, _, rfl, hS', by omega, by decide, by decide, fun H'' x hS'' fr'' x0 x1 => ?_⟩
      have z := hS4.ne hM
      refine ⟨_, x, _, rfl, rfl, by decide +kernel, abc_at abc x0 x1, _, fr'' _ _ z.1.symm z.2.1.symm e', ?_, ys ++ [let1 x], hS''.put z, (fr'.trans fr'').put hM, ?_, ?_, ?_⟩
      · rw [List.length_map]
        exact small1000 (by omega)
      · rw [upd_same, vs_app]
        rfl
      · rw [List.length_append, l']
        rfl
      · intro y hy
        rcases List.mem_append.mp hy with hy | hy
        · exact p' y hy
        · rw [List.mem_singleton.mp hy]
          exact let1_low x0 x1
    rintro H5 ⟨zs, hS5, fr5, e5, l5, p5⟩
    refine ⟨_, M, zs, rfl, rfl, .inl (SqL.of e5), join_fits nil p5 (by omega), ?_⟩
    have td : Low 3 (Txt.join (Str.ofString "") zs) := (join_low nil p5).mono (by omega)
    generalize Txt.join (Str.ofString "") zs = tl' at *
    have hS5 := hS5.mono (show _ ≤ c + 10 by omega)
    have fr5 : Fr s A H H5 := (fr3.trans fr4).trans fr5
    clear e5 l5 p5 hM fr4 hS4 hS3 fr3 fr1 hS1
    refine ⟨_, rfl, m, rfl, by omega, by omega, fun N hN => lc_range (lo := 0) (n := m.toNat) (fun i H' => Same H5 H' ∧ H' N = some (.lst (((List.range i).map (nmk hd' tl' r)).map V.str)))
      ⟨same_upd hN, upd_same⟩ ?_ ?_⟩
    · rintro i H' hi ⟨sm, e'⟩
      refine ⟨rfl, ?_⟩
      unfold tYes
      have g := fm26 (r + 7 * (0 + (i : Int)))
      refine iteT ⟨_, rfl, _, rfl, _, rfl, _, rfl, _, _, rfl, rfl, .inl ⟨by decide, by decide⟩, _, _, rfl, rfl, _, _, rfl, rfl, (by show (26 : Int) ≠ 0; decide), _, _, _, rfl, rfl, by decide +kernel, abc_at abc g.1 g.2, _, _, rfl, rfl, ?_, _, rfl, _, _, rfl, rfl, ?_, _, e', ?_, same_put sm hN, ?_⟩
      · show hd'.length + 1 ≤ sizeLine
        have := hd.1
        exact Nat.le_of_lt (small1000 (by omega))
      · rw [app_len]
        show hd'.length + 1 + tl'.length ≤ sizeLine
        have := hd.1
        have := td.1
        exact Nat.le_of_lt (small1000 (by omega))
      · rw [List.length_map, List.length_map, List.length_range]
        exact small1000 (by omega)
      · rw [upd_same, List.range_succ, List.map_append, vs_app]
        rfl
    rintro H6 ⟨sm6, e6⟩
    refine ⟨N, _, rfl, SqL.of e6, ?_, fun zs p hp hs hpn => ?_⟩
    · rw [List.length_map, List.length_range]
      omega
    have fr7 : Fr s A H (upd H6 p (.lst (zs.map V.str))) := fr5.trans (Fr.of (sm6.trans (same_upd hpn)))
    refine q _ p zs (hS5.same (sm6.trans (same_upd hpn))) fr7 (fr5.free hS5 (sm6.free hpn)) upd_same ?_ (sorted_names hp hs (nmk_nodup (by omega)) ?_) ⟨fun x hx => ?_, hd'.length + 1 + tl'.length, fun x hx => ?_⟩
    · rw [hp.length_eq, List.length_map, List.length_range]
    · intro x hx
      obtain ⟨k, _, rfl⟩ := List.mem_map.mp hx
      exact nmk_nam hd td
    · obtain ⟨k, _, rfl⟩ := List.mem_map.mp (hp.mem_iff.mp hx)
      exact nmk_len hd td
    · obtain ⟨k, _, rfl⟩ := List.mem_map.mp (hp.mem_iff.mp hx)
      exact nmk_lenE
theorem ok_names7 {f : Addr} {fd : FuncData} (F : Fun K "_law_names" "_law_names" sNames f fd) (T : Nm mg) (C_law_draw : Cal P w K mg base 1 "_law_draw" pDraw spDraw) : FnOk P w K mg base CX0 2 f fd ["_law_stream_here", "_law_many"] (spNamesR fun x => x.length ≤ 7) :=
  (ok_namesS F T C_law_draw).imp fun vs H Q E ⟨s, A, B, c, m, e, hS, hc, m0, m1, q⟩ => ⟨s, A, B, c, m, e, hS, hc, m0, m1, fun H' l ns a b c d e f g => q H' l ns a b c d e f g.1⟩
theorem names_all {R : Str → Prop} {x : Str} {ps : List Str} {k : Nat} (C : Cal P w K mg base k x ps spNames) (h : ∀ z, R z) : Cal P w K mg base k x ps (spNamesR R) :=
  C.imp fun vs H Q E ⟨s, A, B, c, m, e, hS, hc, m0, m1, q⟩ => ⟨s, A, B, c, m, e, hS, hc, m0, m1, fun H' l ns a b c d e f => q H' l ns a b c d e f fun _ _ => h _⟩
theorem ok_names {f : Addr} {fd : FuncData} (F : Fun K "_law_names" "_law_names" sNames f fd) (T : Nm mg) (C_law_draw : Cal P w K mg base 1 "_law_draw" pDraw spDraw) : FnOk P w K mg base CX0 2 f fd ["_law_stream_here", "_law_many"] spNames :=
  (ok_names7 F T C_law_draw).imp fun vs H Q E ⟨s, A, B, c, m, e, hS, hc, m0, m1, q⟩ => ⟨s, A, B, c, m, e, hS, hc, m0, m1, fun H' l ns a b c d e f _ => q H' l ns a b c d e f⟩
end
end Fw
namespace Fw
open PySem PySem.Spec PyProof.Rows L2
theorem cut_vi (ns : List Int) (lo hi : Option Int) : ∃ ms : List Int, cutV (vi ns) lo hi = vi ms ∧ (∀ x ∈ ms, x ∈ ns) := by
  refine ⟨(ns.drop (HT.sIx (vi ns).length 0 lo)).take (HT.sIx (vi ns).length (vi ns).length hi - HT.sIx (vi ns).length 0 lo), ?_, fun x hx => List.mem_of_mem_drop (List.mem_of_mem_take hx)⟩
  unfold cutV vi
  rw [List.map_take, List.map_drop]
theorem cut_le (xs : List V) {m : Int} (h : 0 ≤ m) : (cutV xs none (some m)).length ≤ m.toNat := by
  unfold cutV
  rw [List.length_take]
  refine Nat.le_trans (Nat.min_le_left _ _) ?_
  show (if m < 0 then _ else min m.toNat xs.length) - 0 ≤ m.toNat
  rw [if_neg (by omega)]
  omega
theorem atI_in {xs : List Int} {r : Int} (h0 : 0 ≤ r) (h1 : r < (xs.length : Nat)) : ∃ x, x ∈ xs ∧ atI (vi xs) r = some (V.int x) := by
  have hj : r.toNat < xs.length := by omega
  refine ⟨xs[r.toNat], List.getElem_mem hj, ?_⟩
  have := atI_nat (xs := vi xs) (j := r.toNat) (v := V.int xs[r.toNat]) (by rw [List.getElem?_map, List.getElem?_eq_getElem hj]; rfl)
  rw [show ((r.toNat : Nat) : Int) = r by omega] at this
  exact this
theorem seq_by {a b : TS} {D : Ends} {σ : L2.St} {H : Hp} (M : L2.St → Hp → Prop) (h1 : ∀ N : L2.St → Hp → Prop, (∀ σ' H', M σ' H' → N σ' H') → a { D with nx := N } σ H) (h2 : ∀ σ' H', M σ' H' → b D σ' H') : tSeq a b D σ H := h1 _ h2
section
variable {P : Program} {w : World} {K : PySem.W.Frag} {mg : Str → Option Value} {base : Heap}
theorem HouseAt.room0 {H : Hp} {h : Addr} {n : Int} {D : List (Int × Int)} (x : HouseAt H h n D) : ∃ q, H h = some (.tup [.int n, .ref q]) := by
  obtain ⟨q, ps, h1, _⟩ := x
  exact ⟨q, h1⟩
def spPl : Sp := fun vs H Q _ => ∃ (s A B h : Addr) (c : Nat) (n : Int) (D : List (Int × Int)) (m : Int), vs = [.ref s, .ref h, .int m] ∧ StreamAt H s A B c ∧ c < 2 ^ 29 ∧ HouseAt H h n D ∧ 1 ≤ n ∧ n ≤ 8 ∧ 0 ≤ m ∧ m ≤ 12 ∧
  ∀ H' p P, StreamAt H' s A B (c + 60) → Fr s A H H' → PlD H' p P → Pl n P → P.length ≤ m.toNat → Q (.ref p) H'
/-- the same, with more known of the names -/
def spPlS (S : List Str → Prop) : Sp := fun vs H Q _ => ∃ (s A B h : Addr) (c : Nat) (n : Int) (D : List (Int × Int)) (m : Int), vs = [.ref s, .ref h, .int m] ∧ StreamAt H s A B c ∧ c < 2 ^ 29 ∧ HouseAt H h n D ∧ 1 ≤ n ∧ n ≤ 8 ∧ 0 ≤ m ∧ m ≤ 12 ∧
  ∀ H' p P, StreamAt H' s A B (c + 60) → Fr s A H H' → PlD H' p P → Pl n P → P.length ≤ m.toNat → S (P.map (·.1)) → Q (.ref p) H'
def spPlR (R : Str → Prop) : Sp := fun vs H Q _ => ∃ (s A B h : Addr) (c : Nat) (n : Int) (D : List (Int × Int)) (m : Int), vs = [.ref s, .ref h, .int m] ∧ StreamAt H s A B c ∧ c < 2 ^ 29 ∧ HouseAt H h n D ∧ 1 ≤ n ∧ n ≤ 8 ∧ 0 ≤ m ∧ m ≤ 12 ∧
  ∀ H' p P, StreamAt H' s A B (c + 60) → Fr s A H H' → PlD H' p P → Pl n P → P.length ≤ m.toNat → (∀ x ∈ P, R x.1) → Q (.ref p) H'
abbrev nPl : List Str := ["_law_stream_here", "_law_house_here", "_law_most", "_law_share", "_law_held", "_law_room", "_law_spots", "_law_k", "_law_found", "_law_name"]
theorem scPl : FnScope nPl ["_law_stream_here", "_law_house_here", "_law_most"] (defScope sPl) := ⟨rfl, rfl, rfl, by decide +kernel, rfl, by decide +kernel, by decide +kernel⟩
theorem ok_plS {S' : List Str → Prop} {f : Addr} {fd : FuncData} (F : Fun K "_law_placement" "_law_placement" sPl f fd) (T : Nm mg) (C_law_draw : Cal P w K mg base 1 "_law_draw" pDraw spDraw) (C_law_names : Cal P w K mg base 2 "_law_names" pDraw (spNamesS S')) : FnOk P w K mg base CX0 3 f fd pPl (spPlS S') := by
  refine F.ok scPl (fun vs H Q E h => ?_) (fun cdv A outer s H vs Q E hr h => ?_)
  · obtain ⟨s, A, B, h, c, n, D, m, rfl, _⟩ := h
    rfl
  · obtain ⟨s, A, B, h, c, n, D, m, rfl, hS, hc, hH, n0, n1, m0, m1, q⟩ := h
    refine ⟨_, (pss_cons (ps_set (i := 3) scPl.nd rfl (.inr rfl) (pe_cal C_law_draw (hr.mono (by decide)) (by rfl) (pa_cons (pv 0) (pa_cons pe_int pa_nil))))
      (pss_cons (ps_set (i := 4) scPl.nd rfl (.inl rfl) (pe_slice sl_list (pe_lc (own := [("_law_room", 5)]) (g := gName 5) (by rfl) scPl.nd (pi_range1 (by rfl) T.range (pa_cons (pe_ix ix_tup (pv 1) pe_int (fun _ _ => rfl)) pa_nil))
 (blkOk_by (own := [("_law_room", 5)]) (N := nPl) (sc := defScope sPl) (by decide +kernel))
 (fun _ _ _ _ _ => (pg_name (i := 5) scPl.nd rfl (.inl rfl))) (fun _ _ _ _ _ => pts_one (PW.pt (pw_or (pt_cmpR op_eq (pv 3) pe_int (nomark _)) (pw_or1 (pt_cmpR op_gt (pe_cal C_law_draw (hr.mono (by decide)) (by rfl) (pa_cons (pv 0) (pa_cons pe_int pa_nil))) pe_int (nomark _)))))) (fun _ _ _ _ _ => (pv 5))) po_none (po_some (pv 2))))
      (pss_cons (ps_set (i := 6) scPl.nd rfl (.inl rfl) (pe_callTy call_list_of (by rfl) T.list (by decide +kernel) (pa_cons (pv 4) pa_nil)))
      (pss_cons (ps_if (PW.pt (pw_and (pt_cmpR (op_neD hr.units) (pv 4) (pe_lst pa_nil) (nomark _)) (pw_and1 (pt_cmpR op_eq (pe_cal C_law_draw (hr.mono (by decide)) (by rfl) (pa_cons (pv 0) (pa_cons pe_int pa_nil))) pe_int (nomark _)))))
      (pss_one (ps_for PassesOwn.never rfl (pi_range1 (by rfl) T.range (pa_cons (pe_cal C_law_draw (hr.mono (by decide)) (by rfl) (pa_cons (pv 0) (pa_cons (pe_op op_add (pe_op op_sub (pv 2) (pe_callB call_len_seq (by rfl) T.len (by decide +kernel) (pa_cons (pv 4) pa_nil))) pe_int) pa_nil))) pa_nil)) (pg_name (i := 7) scPl.nd rfl (.inl rfl))
       (pss_one (ps_expr (pe_bm PySem.F.plainAttrs_list PySem.F.slot_list_append PySem.F.type_list_append mt_append (pv 6) (pa_cons (pe_ix ix_list (pv 4) (pe_cal C_law_draw (hr.mono (by decide)) (by rfl) (pa_cons (pv 0) (pa_cons (pe_callB call_len_seq (by rfl) T.len (by decide +kernel) (pa_cons (pv 4) pa_nil)) pa_nil))) (fun _ _ => rfl)) pa_nil))))))
      pss_nil)
      (pss_cons (ps_set (i := 8) scPl.nd rfl (.inl rfl) (pe_lst pa_nil))
      (pss_cons (ps_for PassesOwn.never rfl (pi_list (pe_cal C_law_names (hr.mono (by decide)) (by rfl) (pa_cons (pv 0) (pa_cons (pe_callB call_len_seq (by rfl) T.len (by decide +kernel) (pa_cons (pv 6) pa_nil)) pa_nil)))) (pg_name (i := 9) scPl.nd rfl (.inl rfl))
      (pss_one (ps_expr (pe_bm PySem.F.plainAttrs_list PySem.F.slot_list_append PySem.F.type_list_append mt_append (pv 8) (pa_cons (pe_tup (pa_cons (pv 9) (pa_cons (pe_bm PySem.F.plainAttrs_list PySem.F.slot_list_pop PySem.F.type_list_pop mt_popAt (pv 6) (pa_cons (pe_cal C_law_draw (hr.mono (by decide)) (by rfl) (pa_cons (pv 0) (pa_cons (pe_callB call_len_seq (by rfl) T.len (by decide +kernel) (pa_cons (pv 6) pa_nil)) pa_nil))) pa_nil)) pa_nil))) pa_nil)))))
      (pss_one (ps_ret (pe_callTy (call_tupleF K rfl) (by rfl) T.tuple (by decide +kernel) (pa_cons (pv 8) pa_nil)))))))))), ?_⟩
    refine ⟨_, rfl, s, A, B, c, _, rfl, hS, by omega, by decide, by decide, fun H1 sh hS1 fr1 _ _ => ?_⟩
    have hH1 := hH.fr hS fr1
    obtain ⟨qd, eh1⟩ := hH1.room0
    -- held
    refine ⟨_, rfl, h, _, _, _, rfl, rfl, SqT.of eh1, atI0, n, rfl, by omega, by omega, fun L hL => lc_range (lo := 0) (n := n.toNat) (fun i H' => ∃ ys : List Int, StreamAt H' s A B (c + 1 + i) ∧ Fr s A H1 H' ∧ H' L = some (.lst (vi ys)) ∧ ys.length ≤ i ∧ ∀ y ∈ ys, 0 ≤ y ∧ y < n)
      ⟨[], hS1.same (same_upd hL), Fr.of (same_upd hL), upd_same, Nat.le_refl _, fun y hy => absurd hy List.not_mem_nil⟩ ?_ ?_⟩
    · rintro i H' hi ⟨ys, hS', fr', e', l', p'⟩
      have z := hS1.ne hL
      refine ⟨rfl, tt_by (fun b H3 => StreamAt H3 s A B (c + 1 + (i + 1)) ∧ Fr s A H' H3) ?_ ?_⟩
      · intro Q' hQ'
        refine ⟨_, rfl, rfl, _, rfl, ?_⟩
        refine ite2 (fun _ => ?_) (fun _ => ?_)
        · exact hQ' _ _ ⟨hS'.mono (by omega), Fr.refl⟩
        · refine ⟨_, rfl, s, A, B, c + 1 + i, _, rfl, hS', by omega, by decide, by decide, fun H'' x hS'' fr'' x0 x1 => ⟨_, _, rfl, rfl, _, rfl, ?_⟩⟩
          exact hQ' _ _ ⟨hS'', fr''⟩
      · rintro b H3 ⟨hS3, fr3⟩
        have e3 := fr3 _ _ z.1.symm z.2.1.symm e'
        refine ite2 (fun _ => ?_) (fun _ => ?_)
        · refine ⟨_, rfl, _, e3, ?_, ys ++ [0 + (i : Int)], hS3.put z, (fr'.trans fr3).put hL, ?_, ?_, ?_⟩
          · rw [List.length_map]
            exact small1000 (by omega)
          · rw [upd_same, vi_app]
            rfl
          · rw [List.length_append, List.length_singleton]
            omega
          · intro y hy
            rcases List.mem_append.mp hy with hy | hy
            · exact p' y hy
            · rw [List.mem_singleton.mp hy]
              omega
        · exact ⟨ys, hS3, fr'.trans fr3, e3, by omega, p'⟩
    rintro H2 ⟨ys, hS2, fr2, e2, l2, p2⟩
    have hS2 := hS2.mono (show _ ≤ c + 9 by omega)
    refine ⟨_, rfl, m, rfl, L, _, rfl, SqL.of e2, fun M hM => ?_⟩
    have zM := hS2.ne hM
    obtain ⟨held, eh, ph⟩ := cut_vi ys none (some m)
    have lh : held.length ≤ m.toNat := by
      have := cut_le (vi ys) m0
      rw [eh, List.length_map] at this
      exact this
    have ph : ∀ y ∈ held, 0 ≤ y ∧ y < n := fun y hy => p2 y (ph y hy)
    rw [show cutV (vi ys) none (some m) = vi held from eh]
    clear eh
    have hS3 := hS2.same (same_upd (o := .lst (vi held)) hM)
    have fr3 : Fr s A H (upd H2 M (.lst (vi held))) := (fr1.trans fr2).trans (Fr.of (same_upd hM))
    have e3 : (upd H2 M (.lst (vi held))) M = some (.lst (vi held)) := upd_same
    generalize upd H2 M (.lst (vi held)) = H3 at *
    clear e2 p2 l2 fr2 hS2
    -- spots
    refine ⟨_, rfl, M, _, rfl, .inl (SqL.of e3), fun S hS' => ?_⟩
    have fS := fr3.free hS3 hS'
    have zS := hS3.ne hS'
    have nMS : M ≠ S := ne_of_none e3 hS'
    have hS4 := hS3.same (same_upd (o := .lst (vi held)) hS')
    have fr4 : Fr s A H (upd H3 S (.lst (vi held))) := fr3.trans (Fr.of (same_upd hS'))
    have e4 : (upd H3 S (.lst (vi held))) M = some (.lst (vi held)) := same_upd hS' _ _ e3
    have es4 : (upd H3 S (.lst (vi held))) S = some (.lst (vi held)) := upd_same
    generalize upd H3 S (.lst (vi held)) = H4 at *
    clear hS' hS3 fr3 e3
    dsimp only [gName]
    refine seq_by (fun σ' H' => ∃ (y5 y7 : Option V) (c' : Nat) (spots : List Int), σ' = [some (.ref s), some (.ref h), some (.int m), some (.int sh), some (.ref M), y5, some (.ref S), y7, none, none] ∧ StreamAt H' s A B c' ∧ c' ≤ c + 30 ∧ Fr s A H H' ∧ H' S = some (.lst (vi spots)) ∧ spots.length ≤ m.toNat ∧ ∀ y ∈ spots, 0 ≤ y ∧ y < n) ?_ ?_
    · intro N hN
      refine if_by (fun b H' => ∃ c', StreamAt H' s A B c' ∧ c' ≤ c + 10 ∧ Fr s A H H' ∧ H' S = some (.lst (vi held)) ∧ H' M = some (.lst (vi held)) ∧ (b = true → held ≠ [])) ?_ ?_ ?_
      · rintro H5 ⟨c5, hS5, hc5, fr5, es5, e5, ne⟩
        have ne := ne rfl
        have l0 : 0 < held.length := List.length_pos_iff.mpr ne
        refine ⟨_, rfl, _, rfl, _, rfl, M, _, rfl, .inl (SqL.of e5), _, _, rfl, rfl, _, _, rfl, rfl, s, A, B, c5, _, rfl, hS5, by omega, ?_, ?_, fun H6 x hS6 fr6 x0 x1 => ?_⟩
        · rw [List.length_map]; omega
        · rw [List.length_map]; omega
        rw [List.length_map] at x1
        refine ⟨x, rfl, by omega, by omega, for_range (lo := 0) (n := x.toNat) (fun i σ' H' => ∃ (y7 : Option V) (c' : Nat) (spots : List Int), σ' = [some (.ref s), some (.ref h), some (.int m), some (.int sh), some (.ref M), none, some (.ref S), y7, none, none] ∧ StreamAt H' s A B c' ∧ c' ≤ c5 + 1 + i ∧ Fr s A H H' ∧ H' S = some (.lst (vi spots)) ∧ H' M = some (.lst (vi held)) ∧ spots.length = held.length + i ∧ ∀ y ∈ spots, 0 ≤ y ∧ y < n)
          ⟨_, c5 + 1, held, rfl, hS6, by omega, fr5.trans fr6, fr6 _ _ zS.1.symm zS.2.1.symm es5, fr6 _ _ zM.1.symm zM.2.1.symm e5, rfl, ph⟩ ?_ ?_⟩
        · rintro i σ' H7 hi ⟨y7, c7, spots, rfl, hS7, hc7, fr7, es7, e7, l7, p7⟩
          refine ⟨_, rfl, .inl ⟨rfl, _, SqL.of es7⟩, _, rfl, _, rfl, _, rfl, M, _, rfl, .inl (SqL.of e7), s, A, B, c7, _, rfl, hS7, by omega, ?_, ?_, fun H8 y hS8 fr8 y0 y1 => ?_⟩
          · rw [List.length_map]; omega
          · rw [List.length_map]; omega
          rw [List.length_map] at y1
          obtain ⟨v, hv, ev⟩ := atI_in y0 y1
          have es8 := fr8 _ _ zS.1.symm zS.2.1.symm es7
          refine ⟨M, _, _, _, rfl, rfl, SqL.of (fr8 _ _ zM.1.symm zM.2.1.symm e7), ev, S, _, _, rfl, rfl, es8, ?_, _, c7 + 1, spots ++ [v], rfl, hS8.put zS, by omega, (fr7.trans fr8).put fS, ?_, ?_, ?_, ?_⟩
          · rw [List.length_map]
            exact small1000 (by omega)
          · rw [upd_same, vi_app]
            rfl
          · rw [upd_ne nMS]
            exact fr8 _ _ zM.1.symm zM.2.1.symm e7
          · rw [List.length_append, List.length_singleton]
            omega
          · intro z hz
            rcases List.mem_append.mp hz with hz | hz
            · exact p7 z hz
            · rw [List.mem_singleton.mp hz]
              exact ph v hv
        · rintro σ' H7 ⟨y7, c7, spots, rfl, hS7, hc7, fr7, es7, e7, l7, p7⟩
          exact hN _ _ ⟨_, _, c7, spots, rfl, hS7, by omega, fr7, es7, by omega, p7⟩
      · rintro H5 ⟨c5, hS5, hc5, fr5, es5, e5, ne⟩
        exact hN _ _ ⟨_, _, c5, held, rfl, hS5, by omega, fr5, es5, lh, ph⟩
      · intro Q' hQ'
        refine ⟨_, rfl, Nat.zero_le _, fun e he => ?_⟩
        have sm : Same H4 (upd H4 e (.lst [])) := same_upd he
        have hS5 := hS4.same sm
        have fr5 := fr4.trans (Fr.of sm)
        have e5 := sm _ _ e4
        have es5 := sm _ _ es4
        refine ⟨.list (held.map .int), .list [], .lst (SqL.of e5) (dp_ints held), .lst (SqL.of upd_same) .nil, shaped_list held, shaped_list [], _, rfl, ?_⟩
        rw [eqv_nil]
        generalize upd H4 e (.lst []) = H5 at *
        cases held with
        | nil => exact iteF (hQ' _ _ ⟨c + 9, hS5, by omega, fr5, es5, e5, fun h => nomatch h⟩)
        | cons x0 hr0 =>
          refine iteT ⟨_, rfl, s, A, B, c + 9, _, rfl, hS5, by omega, by decide, by decide, fun H6 x hS6 fr6 x0 x1 => ⟨rfl, _, rfl, ?_⟩⟩
          exact hQ' _ _ ⟨c + 9 + 1, hS6, by omega, fr5.trans fr6, fr6 _ _ zS.1.symm zS.2.1.symm es5, fr6 _ _ zM.1.symm zM.2.1.symm e5, fun _ => List.cons_ne_nil _ _⟩
    clear e4 es4 fr4 hS4
    rintro σ' H5 ⟨y5, y7, c5, spots, rfl, hS5, hc5, fr5, es5, l5, p5⟩
    refine ⟨Nat.zero_le _, fun R hR => ?_⟩
    have zR := hS5.ne hR
    have gR := fr5.free hS5 hR
    have nSR : S ≠ R := ne_of_none es5 hR
    have hS6 := hS5.same (same_upd (o := .lst []) hR)
    have fr6 := fr5.trans (Fr.of (same_upd (o := .lst []) hR))
    have es6 := same_upd (o := .lst []) hR _ _ es5
    have eR6 : (upd H5 R (.lst [])) R = some (.lst []) := upd_same
    generalize upd H5 R (.lst []) = H6 at *
    clear hS5 fr5 es5 hR
    refine ⟨_, rfl, _, rfl, S, _, rfl, .inl (SqL.of es6), s, A, B, c5, _, rfl, hS6, by omega, by omega, ?_, fun H7 NL ns hS7 fr7 hNL eN lN nN nR => ?_⟩
    · rw [List.length_map]; omega
    have zN := hS6.ne hNL
    have gN := fr6.free hS6 hNL
    have nSN : S ≠ NL := ne_of_none es6 hNL
    have nRN : R ≠ NL := ne_of_none eR6 hNL
    rw [List.length_map] at lN
    have lN : ns.length = spots.length := by omega
    refine ⟨NL, rfl, ⟨_, SqL.of eN⟩, for_list (K := K) (a := NL) (xs := ns.map V.str) (fun i σ' H' => ∃ (y9 : Option V) (sp : List Int) (ps : List (Addr × Str × Int)), σ' = [some (.ref s), some (.ref h), some (.int m), some (.int sh), some (.ref M), y5, some (.ref S), y7, some (.ref R), y9] ∧ StreamAt H' s A B (c5 + 10 + i) ∧ Fr s A H H' ∧ H' NL = some (.lst (ns.map V.str)) ∧ H' S = some (.lst (vi sp)) ∧ sp.length + i = ns.length ∧ (∀ y ∈ sp, 0 ≤ y ∧ y < n) ∧
        H' R = some (.lst (ps.map fun q => V.ref q.1)) ∧ (ps.map (·.2.1)) = ns.take i ∧ (∀ q ∈ ps, H' q.1 = some (.tup [.str q.2.1, .int q.2.2])) ∧ ∀ q ∈ ps, 0 ≤ q.2.2 ∧ q.2.2 < n)
      ⟨_, spots, [], rfl, hS7, fr6.trans fr7, eN, fr7 _ _ zS.1.symm zS.2.1.symm es6, by omega, p5, fr7 _ _ zR.1.symm zR.2.1.symm eR6, rfl, fun q hq => absurd hq List.not_mem_nil, fun q hq => absurd hq List.not_mem_nil⟩ ?_ ?_ ?_⟩
    · rintro i σ' H' _ ⟨y9, sp, ps, _, _, _, e', _⟩
      exact SqL.of e'
    · rintro i x σ' H8 hx ⟨y9, sp, ps, rfl, hS8, fr8, eN8, es8, l8, p8, eR8, en8, ep8, pr8⟩
      obtain ⟨nm, hnm, rfl⟩ := get_vs hx
      have hi : i < ns.length := (List.getElem?_eq_some_iff.mp hnm).1
      have hps : ps.length = i := by
        have := congrArg List.length en8
        rw [List.length_map, List.length_take] at this
        omega
      refine ⟨_, rfl, .inl ⟨rfl, _, SqL.of eR8⟩, _, rfl, _, rfl, .inl ⟨rfl, _, SqL.of es8⟩, _, rfl, _, rfl, S, _, rfl, .inl (SqL.of es8), s, A, B, c5 + 10 + i, _, rfl, hS8, by omega, ?_, ?_, fun H9 r hS9 fr9 r0 r1 => ?_⟩
      · rw [List.length_map]; omega
      · rw [List.length_map]; omega
      rw [List.length_map] at r1
      have hj : r.toNat < sp.length := by omega
      have ixr : ixN (vi sp).length r = some r.toNat := by
        unfold ixN
        rw [List.length_map, if_pos r0, if_pos r1]
      have gx : (vi sp)[r.toNat]? = some (V.int sp[r.toNat]) := by
        rw [List.getElem?_map, List.getElem?_eq_getElem hj]
        rfl
      have es9 := fr9 _ _ zS.1.symm zS.2.1.symm es8
      refine ⟨S, _, r, r.toNat, _, rfl, rfl, es9, by omega, by omega, (ixN_seq ixr).1, gx, by show 2 ≤ sizeLine; decide, fun t ht => ?_⟩
      have zt := (hS9.put (o := .lst ((vi sp).eraseIdx r.toNat)) zS).ne ht
      have hS10 := (hS9.put (o := .lst ((vi sp).eraseIdx r.toNat)) zS)
      have fr10 := (fr8.trans fr9).put (o := .lst ((vi sp).eraseIdx r.toNat)) fS
      have eR10 : (upd H9 S (.lst ((vi sp).eraseIdx r.toNat))) R = _ := (upd_ne nSR.symm).trans (fr9 _ _ zR.1.symm zR.2.1.symm eR8)
      have eN10 : (upd H9 S (.lst ((vi sp).eraseIdx r.toNat))) NL = _ := (upd_ne nSN.symm).trans (fr9 _ _ zN.1.symm zN.2.1.symm eN8)
      have es10 : (upd H9 S (.lst ((vi sp).eraseIdx r.toNat))) S = some (.lst (vi (sp.eraseIdx r.toNat))) := by rw [upd_same, vi_erase]
      have ep10 : ∀ q ∈ ps, (upd H9 S (.lst ((vi sp).eraseIdx r.toNat))) q.1 = some (.tup [.str q.2.1, .int q.2.2]) := fun q hq => by
        have := fr9.tup hS8 (ep8 q hq)
        rw [upd_ne (ne_of this es9 (by intro z; cases z))]
        exact this
      generalize upd H9 S (.lst ((vi sp).eraseIdx r.toNat)) = H10 at *
      have sm := same_upd (o := .tup [.str nm, .int sp[r.toNat]]) ht
      have eR11 := sm _ _ eR10
      have et : (upd H10 t (.tup [.str nm, .int sp[r.toNat]])) t = some (.tup [.str nm, .int sp[r.toNat]]) := upd_same
      have ep11 : ∀ q ∈ ps, (upd H10 t (.tup [.str nm, .int sp[r.toNat]])) q.1 = some (.tup [.str q.2.1, .int q.2.2]) := fun q hq => sm _ _ (ep10 q hq)
      have hS11 := hS10.same sm
      have fr11 := fr10.trans (Fr.of sm)
      have es11 := sm _ _ es10
      have eN11 := sm _ _ eN10
      generalize upd H10 t (.tup [.str nm, .int sp[r.toNat]]) = H11 at *
      refine ⟨R, _, _, rfl, rfl, eR11, ?_, _, sp.eraseIdx r.toNat, ps ++ [(t, nm, sp[r.toNat])], rfl, (hS11.put zR), fr11.put gR, ?_, ?_, ?_, ?_, ?_, ?_, ?_, ?_⟩
      · rw [List.length_map]
        exact small1000 (by omega)
      · rw [upd_ne nRN.symm]
        exact eN11
      · rw [upd_ne nSR]
        exact es11
      · rw [List.length_eraseIdx, if_pos hj]
        omega
      · intro y hy
        exact p8 y (List.mem_of_mem_eraseIdx hy)
      · rw [upd_same, List.map_append]
        rfl
      · rw [List.map_append, List.take_add_one, hnm, en8]
        rfl
      · intro q hq
        rcases List.mem_append.mp hq with hq | hq
        · rw [upd_ne (ne_of (ep11 q hq) eR11 (by intro z; cases z))]
          exact ep11 q hq
        · rw [List.mem_singleton.mp hq]
          rw [upd_ne (ne_of et eR11 (by intro z; cases z))]
          exact et
      · intro q hq
        rcases List.mem_append.mp hq with hq | hq
        · exact pr8 q hq
        · rw [List.mem_singleton.mp hq]
          exact p8 _ (List.getElem_mem hj)
    · rintro σ' H8 ⟨y9, sp, ps, rfl, hS8, fr8, eN8, es8, l8, p8, eR8, en8, ep8, pr8⟩
      rw [List.length_map, List.take_length] at en8
      rw [List.length_map] at hS8 l8
      refine ⟨_, rfl, R, _, rfl, SqL.of eR8, fun t ob ht od => ?_⟩
      have sm := same_upd (o := .frz ob (.tup (ps.map fun q => V.ref q.1))) ht
      refine q _ t (ps.map (·.2)) ((hS8.same sm).mono (by omega)) (fr8.trans (Fr.of sm)) ⟨ps, ob, od, upd_same, rfl, fun q hq => sm _ _ (ep8 q hq)⟩ ⟨?_, ?_⟩ ?_ ?_
      · rw [List.map_map]
        show Names (ps.map (·.2.1))
        rw [en8]
        exact nN
      · intro x hx
        obtain ⟨q, hq, rfl⟩ := List.mem_map.mp hx
        exact pr8 q hq
      · have := congrArg List.length en8
        rw [List.length_map] at this
        rw [List.length_map]
        omega
      · rw [List.map_map]
        show S' (ps.map (·.2.1))
        rw [en8]
        exact nR
theorem ok_plR {R : Str → Prop} {f : Addr} {fd : FuncData} (F : Fun K "_law_placement" "_law_placement" sPl f fd) (T : Nm mg) (C_law_draw : Cal P w K mg base 1 "_law_draw" pDraw spDraw) (C_law_names : Cal P w K mg base 2 "_law_names" pDraw (spNamesR R)) : FnOk P w K mg base CX0 3 f fd pPl (spPlR R) :=
  (ok_plS F T C_law_draw C_law_names).imp fun vs H Q E ⟨s, A, B, h, c, n, D, m, e, hS, hc, hH, n0, n1, m0, m1, q⟩ => ⟨s, A, B, h, c, n, D, m, e, hS, hc, hH, n0, n1, m0, m1, fun H' p P a b c d e f => q H' p P a b c d e fun x hx => f x.1 (List.mem_map_of_mem (f := (·.1)) hx)⟩
theorem ok_pl {f : Addr} {fd : FuncData} (F : Fun K "_law_placement" "_law_placement" sPl f fd) (T : Nm mg) (C_law_draw : Cal P w K mg base 1 "_law_draw" pDraw spDraw) (C_law_names : Cal P w K mg base 2 "_law_names" pDraw spNames) : FnOk P w K mg base CX0 3 f fd pPl spPl :=
  (ok_plR (R := fun _ => True) F T C_law_draw (names_all C_law_names fun _ => trivial)).imp fun vs H Q E ⟨s, A, B, h, c, n, D, m, e, hS, hc, hH, n0, n1, m0, m1, q⟩ => ⟨s, A, B, h, c, n, D, m, e, hS, hc, hH, n0, n1, m0, m1, fun H' p P a b c d e _ => q H' p P a b c d e⟩
end
end Fw
namespace Fw
open PySem PySem.Spec PyProof.Rows L2
/-! ### what a walk over a placement needs: tuples stay -/
structure Tk (H H' : Hp) : Prop where
  t : ∀ {b : Addr} {xs : List V}, H b = some (.tup xs) → H' b = some (.tup xs)
  f : ∀ {b : Addr} {o : Obj} {xs : List V}, H b = some (.frz o (.tup xs)) → H' b = some (.frz o (.tup xs))
theorem Tk.refl {H : Hp} : Tk H H := ⟨fun e => e, fun e => e⟩
theorem Tk.of {H H' : Hp} (h : Same H H') : Tk H H' := ⟨fun e => h _ _ e, fun e => h _ _ e⟩
theorem Tk.trans {H H1 H2 : Hp} (a : Tk H H1) (b : Tk H1 H2) : Tk H H2 := ⟨fun e => b.t (a.t e), fun e => b.f (a.f e)⟩
theorem Tk.fr {s A B : Addr} {c : Nat} {H H' : Hp} (f : Fr s A H H') (hS : StreamAt H s A B c) : Tk H H' := ⟨fun e => f.tup hS e, fun e => f.frz hS e⟩
theorem Tk.put {H H' : Hp} (a : Tk H H') {L : Addr} {xs : List V} {o : HO} (h : H' L = some (.lst xs)) : Tk H (upd H' L o) := by
  refine ⟨fun e => ?_, fun e => ?_⟩
  · rw [upd_ne (ne_of (a.t e) h (by intro z; cases z))]
    exact a.t e
  · rw [upd_ne (ne_of (a.f e) h (by intro z; cases z))]
    exact a.f e
theorem Tk.new {H H' : Hp} (a : Tk H H') {L : Addr} {o : HO} (h : H' L = none) : Tk H (upd H' L o) := a.trans (Tk.of (same_upd h))
theorem HouseAt.tk {H H' : Hp} {h : Addr} {n : Int} {D : List (Int × Int)} (x : HouseAt H h n D) (e : Tk H H') : HouseAt H' h n D := by
  obtain ⟨q, ps, h1, h2, h3, h4⟩ := x
  exact ⟨q, ps, e.t h1, e.t h2, h3, fun p hp => e.t (h4 p hp)⟩
theorem TpAt.tk {H H' : Hp} {p : Addr} {xs : List V} (x : TpAt H p xs) (e : Tk H H') : TpAt H' p xs := x.elim (fun h => .inl (e.t h)) fun ⟨o, d, h⟩ => .inr ⟨o, d, e.f h⟩
theorem PlAt.tk {H H' : Hp} {p : Addr} {P : List (Str × Int)} (x : PlAt H p P) (e : Tk H H') : PlAt H' p P := by
  obtain ⟨ps, h1, h2, h3⟩ := x
  exact ⟨ps, h1.tk e, h2, fun q hq => e.t (h3 q hq)⟩
theorem PlD.tk {H H' : Hp} {p : Addr} {P : List (Str × Int)} (x : PlD H p P) (e : Tk H H') : PlD H' p P := by
  obtain ⟨ps, o, d, h1, h2, h3⟩ := x
  exact ⟨ps, o, d, e.f h1, h2, fun q hq => e.t (h3 q hq)⟩
theorem get_pl {ps : List (Addr × Str × Int)} {i : Nat} {x : V} (h : (ps.map fun p => V.ref p.1)[i]? = some x) : ∃ p, ps[i]? = some p ∧ x = .ref p.1 := by
  rw [List.getElem?_map] at h
  cases e : ps[i]? with
  | none => rw [e] at h; cases h
  | some v => rw [e] at h; exact ⟨v, rfl, (Option.some.inj h).symm⟩
/-- a comprehension over a placement -/
theorem lc_pl {K : PySem.W.Frag} {p : Addr} {P : List (Str × Int)} {i j : Nat} {tt : TT} {te : TE} {vs : List Nat} {σ : L2.St} {H1 : Hp} {D : Addr} {Qd : Hp → Prop} (x : PlAt H1 p P) (Pv : Nat → Hp → Prop) (h0 : Pv 0 (upd H1 D (.lst []))) (hl : ∀ k H, Pv k H → Tk H1 H)
    (hs : ∀ k nm r H, P[k]? = some (nm, r) → Pv k H → wipe (((wipe σ vs).set i (some (.str nm))).set j (some (.int r))) vs = wipe σ vs ∧ tt (((wipe σ vs).set i (some (.str nm))).set j (some (.int r))) H fun b H3 =>
      if b = true then te (((wipe σ vs).set i (some (.str nm))).set j (some (.int r))) H3 fun y H4 => ∃ acc, H4 D = some (.lst acc) ∧ acc.length < sizeLine ∧ Pv (k + 1) (upd H4 D (.lst (acc ++ [y]))) else Pv (k + 1) H3) (hd : ∀ H, Pv P.length H → Qd H) :
    ∃ W : Nat → Nat → Hp → Prop, (∃ m, W 0 m (upd H1 D (.lst []))) ∧ ∀ k m H, W k m H →
      ((Itt K p).stop k H ∧ Qd H) ∨ ((Itt K p).go k H ∧ ∃ Nx : Hp → Prop, (∀ H', Nx H' → ∃ m', m' < m ∧ W (k + 1) m' H') ∧ ∀ x H', (Itt K p).yld k H x H' → gTup K 2 (gCons (gName i) (gCons (gName j) gNil)) x (wipe σ vs) H' fun σ2 H2 => wipe σ2 vs = wipe σ vs ∧ tt σ2 H2 fun b H3 =>
        if b = true then te σ2 H3 fun y H4 => ∃ acc, H4 D = some (.lst acc) ∧ acc.length < sizeLine ∧ Nx (upd H4 D (.lst (acc ++ [y]))) else Nx H3) := by
  obtain ⟨ps, h1, rfl, h3⟩ := x
  refine lc_tup (K := K) (a := p) (xs := ps.map fun q => V.ref q.1) Pv h0 (fun i H _ hp => (h1.tk (hl i H hp)).sq) (fun k x H hx hp => ?_) (fun H hp => hd H (by rw [List.length_map] at hp ⊢; exact hp))
  obtain ⟨q, hq, rfl⟩ := get_pl hx
  refine ⟨q.1, _, rfl, SqT.of ((hl k H hp).t (h3 q (List.mem_of_getElem? hq))), rfl, _, _, rfl, _, _, rfl, rfl, ?_⟩
  exact hs k q.2.1 q.2.2 H (by rw [List.getElem?_map, hq]; rfl) hp
/-- a loop over a placement -/
theorem for_pl {K : PySem.W.Frag} {p : Addr} {P : List (Str × Int)} {i j : Nat} {tb : TS} {D : Ends} {σ : L2.St} {H0 H : Hp} (x : PlAt H0 p P) (Pv : Nat → L2.St → Hp → Prop) (h0 : Pv 0 σ H) (hl : ∀ k σ H, Pv k σ H → Tk H0 H)
    (hs : ∀ k nm r σ H, P[k]? = some (nm, r) → Pv k σ H → tb { D with nx := Pv (k + 1), ct := Pv (k + 1), bk := D.nx } ((σ.set i (some (.str nm))).set j (some (.int r))) H) (hd : ∀ σ H, Pv P.length σ H → D.nx σ H) :
    ∃ W : Nat → Nat → L2.St → Hp → Prop, (∃ m, W 0 m σ H) ∧ ∀ k m σ H, W k m σ H →
      ((Itt K p).stop k H ∧ D.nx σ H) ∨ ((Itt K p).go k H ∧ ∃ N : L2.St → Hp → Prop, (∀ σ' H', N σ' H' → ∃ m', m' < m ∧ W (k + 1) m' σ' H') ∧ ∀ x H', (Itt K p).yld k H x H' → gTup K 2 (gCons (gName i) (gCons (gName j) gNil)) x σ H' fun σ2 H2 => tb { D with nx := N, ct := N, bk := D.nx } σ2 H2) := by
  obtain ⟨ps, h1, rfl, h3⟩ := x
  refine for_tup (K := K) (a := p) (xs := ps.map fun q => V.ref q.1) Pv h0 (fun i σ H _ hp => (h1.tk (hl i σ H hp)).sq) (fun k x σ H hx hp => ?_) (fun σ H hp => hd σ H (by rw [List.length_map] at hp ⊢; exact hp))
  obtain ⟨q, hq, rfl⟩ := get_pl hx
  refine ⟨q.1, _, rfl, SqT.of ((hl k σ H hp).t (h3 q (List.mem_of_getElem? hq))), rfl, _, _, rfl, _, _, rfl, rfl, ?_⟩
  exact hs k q.2.1 q.2.2 σ H (by rw [List.getElem?_map, hq]; rfl) hp
theorem PlAt.sq {K : PySem.W.Frag} {H : Hp} {p : Addr} {P : List (Str × Int)} (x : PlAt H p P) : ∃ xs, SqT K H p xs := by
  obtain ⟨ps, h1, _⟩ := x
  exact ⟨_, h1.sq⟩
theorem inV_vi (x : Int) (R : List Int) : inV (.int x) (vi R) = decide (x ∈ R) := by
  unfold inV
  rw [Bool.eq_iff_iff, List.any_eq_true, decide_eq_true_eq]
  constructor
  · rintro ⟨y, hy, e⟩
    obtain ⟨z, hz, rfl⟩ := List.mem_map.mp hy
    have : z = x := by simpa [eqV] using e
    exact this ▸ hz
  · intro h
    exact ⟨.int x, List.mem_map_of_mem h, by simp [eqV]⟩
theorem flat_vi (R : List Int) : (vi R).all flatV = true := by
  rw [List.all_eq_true]
  intro x hx
  obtain ⟨z, _, rfl⟩ := List.mem_map.mp hx
  rfl
theorem take_snoc {α : Type} {xs : List α} {k : Nat} {x : α} (h : xs[k]? = some x) : xs.take (k + 1) = xs.take k ++ [x] := by
  rw [List.take_add_one, h]
  rfl
theorem lt_of_get {α : Type} {xs : List α} {k : Nat} {x : α} (h : xs[k]? = some x) : k < xs.length := (List.getElem?_eq_some_iff.mp h).1
theorem sqT_same {K : PySem.W.Frag} {H H' : Hp} {a : Addr} {xs : List V} (e : Same H H') (h : SqT K H a xs) : SqT K H' a xs :=
  h.imp (Or.imp (e a _) fun ⟨o, x⟩ => ⟨o, e a _ x⟩) id
end Fw
namespace Fw
open PySem PySem.Spec PyProof.Rows L2
/-- who is in the rooms R -/
def inside (P : List (Str × Int)) (R : List Int) : List Str := (P.filter fun x => decide (x.2 ∈ R)).map (·.1)
theorem key_uniq {P : List (Str × Int)} (nd : (P.map (·.1)).Nodup) {x y : Str × Int} (hx : x ∈ P) (hy : y ∈ P) (e : x.1 = y.1) : x = y := by
  induction P with
  | nil => cases hx
  | cons z P ih =>
    rw [List.map_cons, List.nodup_cons] at nd
    rcases List.mem_cons.mp hx with h1 | h1 <;> rcases List.mem_cons.mp hy with h2 | h2
    · rw [h1, h2]
    · exact absurd (List.mem_map_of_mem (f := (·.1)) h2) (by rw [← e, h1]; exact nd.1)
    · exact absurd (List.mem_map_of_mem (f := (·.1)) h1) (by rw [e, h2]; exact nd.1)
    · exact ih nd.2 h1 h2
section
variable {P : Program} {w : World} {K : PySem.W.Frag} {mg : Str → Option Value} {base : Heap}
def spRoomOf : Sp := fun vs H Q _ => ∃ (p : Addr) (P : List (Str × Int)) (nm : Str) (r : Int), vs = [.ref p, .str nm] ∧ PlAt H p P ∧ (nm, r) ∈ P ∧ (P.map (·.1)).Nodup ∧ Q (.int r) H
abbrev nRoomOf : List Str := ["placement", "name", "person", "room"]
theorem scRoomOf : FnScope nRoomOf ["placement", "name"] (defScope sRoomOf) := ⟨rfl, rfl, rfl, by decide +kernel, rfl, by decide +kernel, by decide +kernel⟩
theorem ok_roomof {f : Addr} {fd : FuncData} {k : Nat} (F : Fun K "room_of" "room_of" sRoomOf f fd) : FnOk P w K mg base CX0 (k + 1) f fd pRoomOf spRoomOf := by
  refine F.ok scRoomOf (fun vs H Q E h => ?_) (fun cdv A outer s H vs Q E hr h => ?_)
  · obtain ⟨p, P, nm, r, rfl, _⟩ := h
    rfl
  · obtain ⟨p, P, nm, r, rfl, hP, hm, nd, q⟩ := h
    refine ⟨_, (pss_cons (ps_for PassesOwn.never rfl (pi_tup (pv 0)) (pg_tup (by rfl) (pgs_cons (pg_name (i := 2) scRoomOf.nd rfl (.inl rfl)) (pgs_cons (pg_name (i := 3) scRoomOf.nd rfl (.inl rfl)) pgs_nil)))
      (pss_one (ps_if (pt_cmpR op_eq (pv 2) (pv 1) (nomark _))
       (pss_one (ps_ret (pv 3)))
       pss_nil)))
      pss_never), ?_⟩
    refine ⟨_, rfl, p, rfl, hP.sq, for_pl hP (fun i σ' H' => ∃ y2 y3, σ' = [some (.ref p), some (.str nm), y2, y3] ∧ H' = H ∧ ∀ x ∈ P.take i, x.1 ≠ nm) ⟨_, _, rfl, rfl, fun x hx => by cases hx⟩ ?_ ?_ ?_⟩
    · rintro k σ' H' ⟨_, _, _, rfl, _⟩
      exact Tk.refl
    · rintro k n' r' σ' H' hk ⟨y2, y3, rfl, rfl, hn⟩
      refine ⟨_, rfl, _, rfl, rfl, _, rfl, ?_⟩
      refine ite2 (fun c => ?_) (fun c => ?_)
      · have c : n' = nm := V.str.inj (of_decide_eq_true c)
        subst c
        have := key_uniq nd (List.mem_of_getElem? hk) hm rfl
        cases this
        exact ⟨_, rfl, q⟩
      · refine ⟨_, _, rfl, rfl, fun x hx => ?_⟩
        rw [take_snoc hk, List.mem_append] at hx
        rcases hx with hx | hx
        · exact hn x hx
        · rw [List.mem_singleton.mp hx]
          exact fun e => c (decide_eq_true (by rw [show n' = nm from e]))
    · rintro σ' H' ⟨y2, y3, rfl, rfl, hn⟩
      rw [List.take_length] at hn
      exact absurd rfl (hn _ hm)
end
end Fw
namespace Fw
open PySem PySem.Spec PyProof.Rows L2
/-! ### a list of pairs (name, room) -/
def LsAt (H : Hp) (l : Addr) (X : List (Str × Int)) : Prop := ∃ ps : List (Addr × Str × Int), H l = some (.lst (ps.map fun q => V.ref q.1)) ∧ X = ps.map (·.2) ∧ ∀ q ∈ ps, H q.1 = some (.tup [.str q.2.1, .int q.2.2])
theorem LsAt.nil {H : Hp} {l : Addr} (h : H l = some (.lst [])) : LsAt H l [] := ⟨[], h, rfl, fun q hq => absurd hq List.not_mem_nil⟩
theorem LsAt.same {H H' : Hp} {l : Addr} {X : List (Str × Int)} (x : LsAt H l X) (e : Same H H') : LsAt H' l X := by
  obtain ⟨ps, h1, h2, h3⟩ := x
  exact ⟨ps, e _ _ h1, h2, fun q hq => e _ _ (h3 q hq)⟩
theorem LsAt.fr {s A B : Addr} {c : Nat} {H H' : Hp} {l : Addr} {X : List (Str × Int)} (x : LsAt H l X) (hS : StreamAt H s A B c) (e : Fr s A H H') (z : s ≠ l ∧ A ≠ l ∧ B ≠ l) : LsAt H' l X := by
  obtain ⟨ps, h1, h2, h3⟩ := x
  exact ⟨ps, e _ _ z.1.symm z.2.1.symm h1, h2, fun q hq => e.tup hS (h3 q hq)⟩
theorem LsAt.snoc {H : Hp} {l t : Addr} {X : List (Str × Int)} {a : Str} {b : Int} (x : LsAt H l X) (ht : H t = some (.tup [.str a, .int b])) : ∃ acc, H l = some (.lst acc) ∧ acc.length = X.length ∧ LsAt (upd H l (.lst (acc ++ [.ref t]))) l (X ++ [(a, b)]) := by
  obtain ⟨ps, h1, h2, h3⟩ := x
  refine ⟨_, h1, by rw [h2, List.length_map, List.length_map], ps ++ [(t, a, b)], ?_, by rw [h2, List.map_append]; rfl, fun q hq => ?_⟩
  · rw [upd_same, List.map_append]
    rfl
  · have : H q.1 = some (.tup [.str q.2.1, .int q.2.2]) := by
      rcases List.mem_append.mp hq with hq | hq
      · exact h3 q hq
      · rw [List.mem_singleton.mp hq]
        exact ht
    rw [upd_ne (ne_of this h1 (by intro z; cases z))]
    exact this
theorem LsAt.tup {H : Hp} {l : Addr} {X : List (Str × Int)} (x : LsAt H l X) : ∃ xs, H l = some (.lst xs) ∧ ∀ (t : Addr) (ob : Obj), H t = none → ob.dict = none → PlD (upd H t (.frz ob (.tup xs))) t X := by
  obtain ⟨ps, h1, h2, h3⟩ := x
  exact ⟨_, h1, fun t ob ht od => ⟨ps, ob, od, upd_same, h2, fun q hq => same_upd ht _ _ (h3 q hq)⟩⟩
section
variable {P : Program} {w : World} {K : PySem.W.Frag} {mg : Str → Option Value} {base : Heap}
abbrev nIsInt : List Str := ["value"]
theorem scIsInt : FnScope nIsInt ["value"] (defScope sIsInt) := ⟨rfl, rfl, rfl, by decide +kernel, rfl, by decide +kernel, by decide +kernel⟩
abbrev nIsRoom : List Str := ["house", "value"]
theorem scIsRoom : FnScope nIsRoom ["house", "value"] (defScope sIsRoom) := ⟨rfl, rfl, rfl, by decide +kernel, rfl, by decide +kernel, by decide +kernel⟩
end
end Fw
namespace Fw
open PySem PySem.Spec PyProof.Rows L2
theorem LsAt.app {H : Hp} {l m : Addr} {X Y : List (Str × Int)} (x : LsAt H l X) (y : LsAt H m Y) : ∃ xs ys, H l = some (.lst xs) ∧ H m = some (.lst ys) ∧ xs.length = X.length ∧ ys.length = Y.length ∧ LsAt (upd H l (.lst (xs ++ ys))) l (X ++ Y) := by
  obtain ⟨ps, h1, h2, h3⟩ := x
  obtain ⟨qs, g1, g2, g3⟩ := y
  refine ⟨_, _, h1, g1, by rw [h2, List.length_map, List.length_map], by rw [g2, List.length_map, List.length_map], ps ++ qs, ?_, by rw [h2, g2, List.map_append], fun q hq => ?_⟩
  · rw [upd_same, List.map_append]
  · have : H q.1 = some (.tup [.str q.2.1, .int q.2.2]) := by
      rcases List.mem_append.mp hq with hq | hq
      · exact h3 q hq
      · exact g3 q hq
    rw [upd_ne (ne_of this h1 (by intro z; cases z))]
    exact this
theorem LsAt.sq {K : PySem.W.Frag} {H : Hp} {l : Addr} {X : List (Str × Int)} (x : LsAt H l X) : ∃ xs, SqL K H l xs ∧ xs.length = X.length := by
  obtain ⟨ps, h1, h2, _⟩ := x
  exact ⟨_, SqL.of h1, by rw [h2, List.length_map, List.length_map]⟩
theorem LsAt.at {K : PySem.W.Frag} {H : Hp} {l : Addr} {X : List (Str × Int)} (x : LsAt H l X) {r : Int} (h0 : 0 ≤ r) (h1 : r < (X.length : Nat)) : ∃ xs t nm v, SqL K H l xs ∧ atI xs r = some (.ref t) ∧ H t = some (.tup [.str nm, .int v]) ∧ (nm, v) ∈ X := by
  obtain ⟨ps, e1, e2, e3⟩ := x
  have hj : r.toNat < ps.length := by rw [e2, List.length_map] at h1; omega
  have hm := List.getElem_mem hj
  refine ⟨_, ps[r.toNat].1, ps[r.toNat].2.1, ps[r.toNat].2.2, SqL.of e1, ?_, e3 _ hm, by rw [e2]; exact List.mem_map_of_mem (f := (·.2)) hm⟩
  have := atI_nat (xs := ps.map fun q => V.ref q.1) (j := r.toNat) (v := V.ref ps[r.toNat].1) (by rw [List.getElem?_map, List.getElem?_eq_getElem hj]; rfl)
  rw [show ((r.toNat : Nat) : Int) = r by omega] at this
  exact this
end Fw
namespace Fw
open PySem PySem.Spec PyProof.Rows L2
/-- what a dict of rooms holds at a room -/
def lk (kvs : List (Key × V)) (v : Int) : Option V := valV kvs (Sum.inl v)
theorem lk_put (kvs : List (Key × V)) (k j : Int) (y : V) : lk (putK kvs (Sum.inl k) y) j = if j = k then some y else lk kvs j := by
  unfold lk
  rw [valV_put]
  by_cases e : j = k
  · rw [if_pos e, if_pos (by rw [e])]
  · rw [if_neg e, if_neg (fun z => e (Sum.inl.inj z))]
def isK (kvs : List (Key × V)) (v : Int) : Bool := (lk kvs v).isSome
theorem isK_put (kvs : List (Key × V)) (k j : Int) (y : V) : isK (putK kvs (Sum.inl k) y) j = (decide (j = k) || isK kvs j) := by
  unfold isK
  rw [lk_put]
  by_cases e : j = k
  · rw [if_pos e, decide_eq_true e]; rfl
  · rw [if_neg e, decide_eq_false e]; rfl
/-- the way from a room along the steps -/
inductive Ch (D : List (Int × Int)) (L : Int → Option V) (g : Int) : Int → List Int → Prop
  | goal : L g = some .non → Ch D L g g [g]
  | step {v u : Int} {p : List Int} : L v = some (.int u) → adj D v u → Ch D L g u p → v ∉ p → Ch D L g v (v :: p)
theorem Ch.mono {D : List (Int × Int)} {L L' : Int → Option V} {g v : Int} {p : List Int} (h : Ch D L g v p) (m : ∀ y x, L y = some x → L' y = some x) : Ch D L' g v p := by
  induction h with
  | goal e => exact .goal (m _ _ e)
  | step e a _ n ih => exact .step (m _ _ e) a ih n
theorem Ch.keys {D : List (Int × Int)} {L : Int → Option V} {g v : Int} {p : List Int} (h : Ch D L g v p) : ∀ y ∈ p, (L y).isSome = true := by
  induction h with
  | goal e =>
    intro y hy
    rw [List.mem_singleton.mp hy, e]
    rfl
  | step e _ _ _ ih =>
    intro y hy
    rcases List.mem_cons.mp hy with rfl | hy
    · rw [e]; rfl
    · exact ih y hy
theorem Ch.sp {D : List (Int × Int)} {L : Int → Option V} {g v : Int} {p : List Int} (h : Ch D L g v p) : SP (adj D) v g p := by
  induction h with
  | goal _ => exact .one _
  | step _ a _ n ih => exact .cons a ih n
/-- the dict of steps, at any time -/
structure SInv (n : Int) (D : List (Int × Int)) (R : List Int) (g : Int) (kvs : List (Key × V)) : Prop where
  goal : lk kvs g = some .non
  way : ∀ v x, lk kvs v = some x → ∃ p, Ch D (lk kvs) g v p
  rng : ∀ v, isK kvs v = true → v = g ∨ v ∈ R
  keys : ∃ ks : List Int, kvs.map (·.1) = ks.map Sum.inl ∧ ks.Nodup ∧ ∀ v, v ∈ ks ↔ isK kvs v = true
  len : kvs.length + left n.toNat (isK kvs) ≤ n.toNat + 1
theorem SInv.start {n g : Int} {D : List (Int × Int)} {R : List Int} : SInv n D R g [(Sum.inl g, V.non)] := by
  have e0 : ∀ v, lk [(Sum.inl g, V.non)] v = if v = g then some .non else none := fun v => by
    unfold lk
    by_cases e : v = g
    · rw [if_pos e, e]; exact valV_pos rfl
    · rw [if_neg e, valV_neg (fun z => e (Sum.inl.inj z).symm)]; rfl
  have e1 : lk [(Sum.inl g, V.non)] g = some .non := by rw [e0, if_pos rfl]
  have e2 : ∀ v, isK [(Sum.inl g, V.non)] v = true → v = g := fun v h => by
    unfold isK at h
    rw [e0] at h
    by_cases e : v = g
    · exact e
    · rw [if_neg e] at h; cases h
  refine ⟨e1, fun v x h => ?_, fun v h => .inl (e2 v h), ⟨[g], rfl, by simp, fun v => ⟨fun h => ?_, fun h => ?_⟩⟩, ?_⟩
  · have : isK [(Sum.inl g, V.non)] v = true := by unfold isK; rw [h]; rfl
    rw [e2 v this]
    exact ⟨[g], .goal e1⟩
  · rw [List.mem_singleton.mp h]; unfold isK; rw [e1]; rfl
  · rw [e2 v h]; simp
  · have := left_le n.toNat (isK [(Sum.inl g, V.non)])
    simp only [List.length_cons, List.length_nil]
    omega
theorem SInv.put {n g o v : Int} {D : List (Int × Int)} {R : List Int} {kvs : List (Key × V)} (S : SInv n D R g kvs) (hv : isK kvs v = true) (ho : isK kvs o = false) (a : adj D v o) (hR : o ∈ R) (h0 : 0 ≤ o) (h1 : o < n) :
    SInv n D R g (putK kvs (Sum.inl o) (.int v)) ∧ left n.toNat (isK (putK kvs (Sum.inl o) (.int v))) < left n.toNat (isK kvs) := by
  have eo : lk kvs o = none := by
    unfold isK at ho
    cases e : lk kvs o with
    | none => rfl
    | some x => rw [e] at ho; cases ho
  have m : ∀ y x, lk kvs y = some x → lk (putK kvs (Sum.inl o) (.int v)) y = some x := fun y x h => by
    rw [lk_put, if_neg (fun e => ?_)]
    · exact h
    · rw [e, eo] at h; cases h
  have hl : left n.toNat (isK (putK kvs (Sum.inl o) (.int v))) < left n.toNat (isK kvs) := by
    refine left_lt (o := o) (fun x hx => ?_) h0 (by omega) ho ?_
    · rw [isK_put, hx, Bool.or_true]
    · rw [isK_put, decide_eq_true rfl, Bool.true_or]
  refine ⟨⟨m _ _ S.goal, fun y x h => ?_, fun y h => ?_, ?_, ?_⟩, hl⟩
  · rw [lk_put] at h
    by_cases e : y = o
    · subst e
      cases hx : lk kvs v with
      | none => unfold isK at hv; rw [hx] at hv; cases hv
      | some z =>
        obtain ⟨p, hp⟩ := S.way v z hx
        refine ⟨y :: p, .step (by rw [lk_put, if_pos rfl]) (adj_symm a) (hp.mono m) fun hm => ?_⟩
        have := hp.keys y hm
        rw [eo] at this
        cases this
    · rw [if_neg e] at h
      obtain ⟨p, hp⟩ := S.way y x h
      exact ⟨p, hp.mono m⟩
  · rw [isK_put, Bool.or_eq_true, decide_eq_true_eq] at h
    rcases h with h | h
    · exact .inr (h ▸ hR)
    · exact S.rng y h
  · obtain ⟨ks, e1, e2, e3⟩ := S.keys
    refine ⟨ks ++ [o], ?_, ?_, fun y => ?_⟩
    · rw [putK_new _ eo, List.map_append, e1, List.map_append]; rfl
    · rw [List.nodup_append]
      refine ⟨e2, by simp, fun x hx y hy e => ?_⟩
      rw [List.mem_singleton.mp hy] at e
      rw [e, e3, ho] at hx
      cases hx
    · rw [List.mem_append, List.mem_singleton, e3, isK_put, Bool.or_eq_true, decide_eq_true_eq]
      exact or_comm
  · have := length_putK kvs (Sum.inl o) (V.int v)
    have := S.len
    omega
theorem inV_ints (x : Int) (R : List Int) : inV (.int x) (vi R) = decide (x ∈ R) := by
  unfold inV
  rw [Bool.eq_iff_iff, List.any_eq_true, decide_eq_true_eq]
  constructor
  · rintro ⟨y, hy, e⟩
    obtain ⟨z, hz, rfl⟩ := List.mem_map.mp hy
    have e : (z == x) = true := e
    rw [beq_iff_eq] at e
    exact e ▸ hz
  · intro h
    exact ⟨.int x, List.mem_map_of_mem h, by show (x == x) = true; simp⟩
theorem flat_ints (R : List Int) : (vi R).all flatV = true := by
  rw [List.all_eq_true]
  intro y hy
  obtain ⟨z, hz, rfl⟩ := List.mem_map.mp hy
  rfl
theorem vi_snoc_last {xs : List Int} {x : Int} : (vi (xs ++ [x]))[(vi (xs ++ [x])).length - 1]? = some (.int x) := by
  rw [vi_app, List.length_append]
  show (vi xs ++ [V.int x])[(vi xs).length + 1 - 1]? = _
  rw [Nat.add_sub_cancel, List.getElem?_append_right (Nat.le_refl _), Nat.sub_self]
  rfl
theorem vi_dropLast {xs : List Int} {x : Int} : (vi (xs ++ [x])).dropLast = vi xs := by
  rw [vi_app]
  show (vi xs ++ [V.int x]).dropLast = _
  rw [List.dropLast_concat]
theorem snoc_cases : ∀ (xs : List Int), xs = [] ∨ ∃ ys y, xs = ys ++ [y]
  | [] => .inl rfl
  | x :: xs => by
    rcases snoc_cases xs with rfl | ⟨ys, y, rfl⟩
    · exact .inr ⟨[], x, rfl⟩
    · exact .inr ⟨x :: ys, y, rfl⟩
section
variable {P : Program} {w : World} {K : PySem.W.Frag} {mg : Str → Option Value} {base : Heap}
/-- what the finished steps are -/
structure SDone (n : Int) (D : List (Int × Int)) (R : List Int) (g : Int) (kvs : List (Key × V)) : Prop where
  inv : SInv n D R g kvs
  closed : ∀ v o, isK kvs v = true → adj D v o → o ∈ R → isK kvs o = true
theorem Same.sqT {K : PySem.W.Frag} {H H' : Hp} {a : Addr} {xs : List V} (e : Same H H') (h : SqT K H a xs) : SqT K H' a xs :=
  h.imp (Or.imp (e a _) fun ⟨o, x⟩ => ⟨o, e a _ x⟩) id
structure SAt (H : Hp) (d wl : Addr) (n : Int) (D : List (Int × Int)) (R : List Int) (g : Int) (kvs : List (Key × V)) (wt : List Int) (H' : Hp) : Prop where
  sm : Same H H'
  ed : H' d = some (.dK kvs)
  ew : H' wl = some (.lst (vi wt))
  inv : SInv n D R g kvs
  wk : ∀ v ∈ wt, isK kvs v = true
  wlen : wt.length + left n.toNat (isK kvs) ≤ n.toNat + 1
theorem SAt.same {H : Hp} {d wl : Addr} {n : Int} {D : List (Int × Int)} {R : List Int} {g : Int} {kvs : List (Key × V)} {wt : List Int} {H1 H2 : Hp} (S : SAt H d wl n D R g kvs wt H1) (e : Same H1 H2) : SAt H d wl n D R g kvs wt H2 :=
  ⟨S.sm.trans e, e _ _ S.ed, e _ _ S.ew, S.inv, S.wk, S.wlen⟩
abbrev nSteps : List Str := ["house", "goal", "rooms", "steps", "waiting", "room", "other"]
theorem scSteps : FnScope nSteps ["house", "goal", "rooms"] (defScope sSteps) := ⟨rfl, rfl, rfl, by decide +kernel, rfl, by decide +kernel, by decide +kernel⟩
end
end Fw
namespace Fw
open PySem PySem.Spec PyProof.Rows L2
theorem HouseAt.top {H : Hp} {h : Addr} {n : Int} {D : List (Int × Int)} (x : HouseAt H h n D) : ∃ q, H h = some (.tup [.int n, .ref q]) := by
  obtain ⟨q, ps, h1, _⟩ := x
  exact ⟨q, h1⟩
/-- a nodup list of rooms below n is no longer than n -/
theorem short {n : Nat} : ∀ {p : List Int}, p.Nodup → (∀ x ∈ p, 0 ≤ x ∧ x < n) → p.length ≤ n := by
  induction n with
  | zero =>
    intro p _ h
    cases p with
    | nil => exact Nat.le_refl _
    | cons x r => have := h x (List.mem_cons_self ..); omega
  | succ n ih =>
    intro p nd h
    have h2 : (p.erase (n : Int)).length ≤ n := by
      refine ih (nd.erase _) fun x hx => ?_
      have hm := List.mem_of_mem_erase hx
      have hne : x ≠ (n : Int) := fun e => by
        subst e
        exact (List.Nodup.not_mem_erase nd) hx
      have := h x hm
      omega
    have h3 : p.length - 1 ≤ (p.erase (n : Int)).length := List.le_length_erase
    omega
theorem SP.all {R : Int → Int → Prop} {S : Int → Prop} (hs : ∀ x y, R x y → S y) {a b : Int} {p : List Int} (h : SP R a b p) (e : S a) : ∀ x ∈ p, S x := by
  induction h with
  | one a =>
    intro x hx
    rw [List.mem_singleton.mp hx]
    exact e
  | cons r _ _ ih =>
    intro x hx
    rcases List.mem_cons.mp hx with rfl | hx
    · exact e
    · exact ih (hs _ _ r) x hx
theorem Forest.short {n a b : Int} {D : List (Int × Int)} (f : Forest n D) (h8 : n ≤ 8) (h0 : 0 ≤ a) (h1 : a < n) {p : List Int} (h : SP (Fw.adj D) a b p) : p.length ≤ 8 := by
  have h2 : p.length ≤ n.toNat := Fw.short h.nodup fun x hx => by
    have := h.all (S := fun x => 0 ≤ x ∧ x < n) (fun x y r => ⟨(f.adj r).2.2.1, (f.adj r).2.2.2⟩) ⟨h0, h1⟩ x hx
    omega
  omega
end Fw
namespace Fw
open PySem PySem.Spec PyProof.Rows L2
section
variable {P : Program} {w : World} {K : PySem.W.Frag} {mg : Str → Option Value} {base : Heap}
abbrev nPath : List Str := ["house", "a", "b", "steps", "path"]
theorem scPath : FnScope nPath ["house", "a", "b"] (defScope sPath) := ⟨rfl, rfl, rfl, by decide +kernel, rfl, by decide +kernel, by decide +kernel⟩
end
end Fw
namespace Fw
open PySem PySem.Spec PyProof.Rows L2 SrtO
/-! ### lists of ints in the order of tuples -/
def lexI : List Int → List Int → Bool
  | [], [] => false
  | [], _ :: _ => true
  | _ :: _, [] => false
  | x :: xs, y :: ys => if x = y then lexI xs ys else decide (x < y)
theorem lexI_asym : ∀ {xs ys : List Int}, lexI xs ys = true → lexI ys xs = false
  | [], [], h => by cases h
  | [], _ :: _, _ => rfl
  | _ :: _, [], h => by cases h
  | x :: xs, y :: ys, h => by
    unfold lexI at h ⊢
    by_cases e : x = y
    · rw [if_pos e] at h
      rw [if_pos e.symm]
      exact lexI_asym h
    · rw [if_neg e, decide_eq_true_eq] at h
      rw [if_neg (fun z => e z.symm)]
      exact decide_eq_false (by omega)
/-! ### the machine's comparison of two tuples of ints -/
end Fw
namespace Fw
open PySem PySem.Spec PyProof.Rows L2
/-- what can be reached from g over rooms of R -/
inductive Wk (D : List (Int × Int)) (R : List Int) (g : Int) : Int → Prop
  | base : Wk D R g g
  | step {v o : Int} : Wk D R g v → adj D v o → o ∈ R → Wk D R g o
section
variable {D : List (Int × Int)} {R : List Int} {g : Int}
theorem Wk.mem {v : Int} (h : Wk D R g v) : v = g ∨ v ∈ R := by
  cases h with
  | base => exact .inl rfl
  | step _ _ m => exact .inr m
theorem Wk.trans {a b c : Int} (h : Wk D R a b) (k : Wk D R b c) : Wk D R a c := by
  induction k with
  | base => exact h
  | step _ r m ih => exact .step ih r m
theorem Wk.symm {v : Int} (hg : g ∈ R) (h : Wk D R g v) : Wk D R v g := by
  induction h with
  | base => exact .base
  | @step v o k r m ih =>
    have mv : v ∈ R := by
      rcases k.mem with e | e
      · rw [e]; exact hg
      · exact e
    exact (Wk.step .base (adj_symm r) mv).trans ih
theorem SDone.wk {n : Int} {kvs : List (Key × V)} (S : SDone n D R g kvs) (v : Int) : isK kvs v = true ↔ Wk D R g v := by
  constructor
  · intro h
    unfold isK at h
    cases e : lk kvs v with
    | none => rw [e] at h; cases h
    | some x =>
      obtain ⟨p, c⟩ := S.inv.way v x e
      clear e h
      induction c with
      | goal _ => exact .base
      | @step v u p e a _ _ ih =>
        rcases S.inv.rng v (by unfold isK; rw [e]; rfl) with e2 | m
        · rw [e2]; exact .base
        · exact .step ih (adj_symm a) m
  · intro h
    induction h with
    | base => unfold isK; rw [S.inv.goal]; rfl
    | step _ r m ih => exact S.closed _ _ ih r m
/-- the component of g, ascending -/
structure IsC (D : List (Int × Int)) (R : List Int) (g : Int) (l : List Int) : Prop where
  up : l.Pairwise (· < ·)
  mem : ∀ v, v ∈ l ↔ Wk D R g v
theorem IsC.one {l l' : List Int} (a : IsC D R g l) (b : IsC D R g l') : l = l' := up_ext a.up b.up fun v => (a.mem v).trans (b.mem v).symm
theorem IsC.of {l ks : List Int} (p : l.Perm ks) (s : l.Pairwise (· ≤ ·)) (n : ks.Nodup) (m : ∀ v, v ∈ ks ↔ Wk D R g v) : IsC D R g l := ⟨up_of s (p.nodup_iff.mpr n), fun v => by rw [p.mem_iff]; exact m v⟩
end
end Fw
namespace Fw
open PySem PySem.Spec PyProof.Rows L2
section
variable {D : List (Int × Int)} {R : List Int}
theorem IsC.has {g : Int} {l : List Int} (h : IsC D R g l) : g ∈ l := (h.mem g).mpr .base
end
section
variable {P : Program} {w : World} {K : PySem.W.Frag} {mg : Str → Option Value} {base : Heap}
def refs (Cs : List (Addr × List Int)) : List V := Cs.map fun c => V.ref c.1
def TupsAt (H : Hp) (Cs : List (Addr × List Int)) : Prop := ∀ c ∈ Cs, H c.1 = some (.tup (vi c.2)) ∧ c.2.length ≤ 20
theorem TupsAt.same {H H' : Hp} {Cs : List (Addr × List Int)} (h : TupsAt H Cs) (e : Same H H') : TupsAt H' Cs := fun c hc => ⟨e _ _ (h c hc).1, (h c hc).2⟩
end
end Fw
namespace Fw
open PySem PySem.Spec PyProof.Rows L2
/-- the rooms with people; the rooms without -/
def occ (n : Int) (P : List (Str × Int)) : List Int := (rg n).filter fun r => decide (r ∈ P.map (·.2))
theorem mem_occ {n : Int} {P : List (Str × Int)} {r : Int} : r ∈ occ n P ↔ (0 ≤ r ∧ r < n) ∧ r ∈ P.map (·.2) := by
  unfold occ
  rw [List.mem_filter, mem_rg, decide_eq_true_eq]
/-- the regions of the rooms R -/
structure Regs (D : List (Int × Int)) (R : List Int) (Ls : List (List Int)) : Prop where
  up : Ls.Pairwise (fun x y => lexI x y = true)
  mem : ∀ l, l ∈ Ls ↔ ∃ r ∈ R, IsC D R r l
def RegsAt (H : Hp) (t : Addr) (D : List (Int × Int)) (R : List Int) (Cs : List (Addr × List Int)) : Prop := H t = some (.tup (refs Cs)) ∧ TupsAt H Cs ∧ Cs.length ≤ 8 ∧ Regs D R (Cs.map (·.2))
theorem RegsAt.same {H H' : Hp} {t : Addr} {D : List (Int × Int)} {R : List Int} {Cs : List (Addr × List Int)} (x : RegsAt H t D R Cs) (e : Same H H') : RegsAt H' t D R Cs := ⟨e _ _ x.1, x.2.1.same e, x.2.2⟩
theorem RegsAt.tk {H H' : Hp} {t : Addr} {D : List (Int × Int)} {R : List Int} {Cs : List (Addr × List Int)} (x : RegsAt H t D R Cs) (e : Tk H H') : RegsAt H' t D R Cs := ⟨e.t x.1, fun c hc => ⟨e.t (x.2.1 c hc).1, (x.2.1 c hc).2⟩, x.2.2⟩
theorem Wk.mono {D : List (Int × Int)} {R R' : List Int} {g v : Int} (h : Wk D R g v) (m : ∀ x ∈ R, x ∈ R') : Wk D R' g v := by
  induction h with
  | base => exact .base
  | step _ a o ih => exact .step ih a (m _ o)
theorem IsC.re {D : List (Int × Int)} {R : List Int} {g r : Int} {l : List Int} (h : IsC D R g l) (hg : g ∈ R) (hr : r ∈ l) : IsC D R r l := by
  refine ⟨h.up, fun v => ?_⟩
  have w := (h.mem r).mp hr
  rw [h.mem]
  exact ⟨fun k => (w.symm hg).trans k, fun k => w.trans k⟩
theorem IsC.sub {D : List (Int × Int)} {R : List Int} {g : Int} {l : List Int} (h : IsC D R g l) (hg : g ∈ R) : ∀ x ∈ l, x ∈ R := fun x hx => by
  rcases ((h.mem x).mp hx).mem with e | e
  · rw [e]; exact hg
  · exact e
section
variable {D : List (Int × Int)} {R : List Int} {Ls : List (List Int)}
theorem Regs.has (h : Regs D R Ls) {l : List Int} (hl : l ∈ Ls) {r : Int} (hr : r ∈ l) : r ∈ R ∧ IsC D R r l := by
  obtain ⟨g, hg, hc⟩ := (h.mem l).mp hl
  exact ⟨hc.sub hg r hr, hc.re hg hr⟩
theorem Regs.one (h : Regs D R Ls) {l m : List Int} (hl : l ∈ Ls) (hm : m ∈ Ls) {r : Int} (h1 : r ∈ l) (h2 : r ∈ m) : l = m := (h.has hl h1).2.one (h.has hm h2).2
/-- the list of the component of a room: by what can be reached -/
theorem isC_ex (D : List (Int × Int)) {R : List Int} (upR : R.Pairwise (· < ·)) {r : Int} (hr : r ∈ R) : ∃ l, IsC D R r l := by
  classical
  refine ⟨R.filter fun v => decide (Wk D R r v), upR.filter _, fun v => ?_⟩
  rw [List.mem_filter, decide_eq_true_eq]
  refine ⟨fun h => h.2, fun h => ⟨?_, h⟩⟩
  rcases h.mem with e | e
  · rw [e]; exact hr
  · exact e
theorem Regs.ex (h : Regs D R Ls) (upR : R.Pairwise (· < ·)) {r : Int} (hr : r ∈ R) : ∃ l ∈ Ls, r ∈ l := by
  obtain ⟨l, hl⟩ := isC_ex D upR hr
  exact ⟨l, (h.mem l).mpr ⟨r, hr, hl⟩, hl.has⟩
end
theorem IsC.len {D : List (Int × Int)} {n : Int} {P : List (Str × Int)} {r : Int} {l : List Int} (h : IsC D (occ n P) r l) (hr : r ∈ occ n P) (n1 : n ≤ 8) : l.length ≤ 8 := by
  have h1 : l.length ≤ n.toNat := short (h.up.imp fun {a b} z => by omega) fun x hx => by
    have := (Fw.mem_occ.mp (h.sub hr x hx)).1
    omega
  omega
end Fw
namespace Fw
open PySem PySem.Spec PyProof.Rows L2
section
variable {D : List (Int × Int)} {R : List Int} {Ls : List (List Int)}
theorem up_nodup {l : List Int} (h : l.Pairwise (· < ·)) : l.Nodup := List.nodup_iff_pairwise_ne.mpr (h.imp fun {a b} z => by omega)
theorem lex_irr : ∀ l : List Int, lexI l l = false
  | [] => rfl
  | x :: l => by
    rw [lexI, if_pos rfl]
    exact lex_irr l
theorem lex_ext : ∀ {xs ys : List (List Int)}, xs.Pairwise (fun a b => lexI a b = true) → ys.Pairwise (fun a b => lexI a b = true) → (∀ x, x ∈ xs ↔ x ∈ ys) → xs = ys
  | [], [], _, _, _ => rfl
  | [], y :: ys, _, _, h => absurd ((h y).mpr (List.mem_cons_self ..)) List.not_mem_nil
  | x :: xs, [], _, _, h => absurd ((h x).mp (List.mem_cons_self ..)) List.not_mem_nil
  | x :: xs, y :: ys, hx, hy, h => by
    obtain ⟨hx1, hx2⟩ := List.pairwise_cons.mp hx
    obtain ⟨hy1, hy2⟩ := List.pairwise_cons.mp hy
    have e : x = y := by
      rcases List.mem_cons.mp ((h x).mp (List.mem_cons_self ..)) with e | m
      · exact e
      · rcases List.mem_cons.mp ((h y).mpr (List.mem_cons_self ..)) with e | m'
        · exact e.symm
        · have a := lexI_asym (hy1 x m)
          rw [hx1 y m'] at a
          cases a
    subst e
    rw [lex_ext hx2 hy2 fun z => ?_]
    constructor
    · intro m
      rcases List.mem_cons.mp ((h z).mp (List.mem_cons_of_mem _ m)) with e | m'
      · rw [e] at m
        have a := hx1 x m
        rw [lex_irr] at a
        cases a
      · exact m'
    · intro m
      rcases List.mem_cons.mp ((h z).mpr (List.mem_cons_of_mem _ m)) with e | m'
      · rw [e] at m
        have a := hy1 x m
        rw [lex_irr] at a
        cases a
      · exact m'
theorem Regs.uniq {Ls' : List (List Int)} (h : Regs D R Ls) (k : Regs D R Ls') : Ls = Ls' := lex_ext h.up k.up fun l => (h.mem l).trans (k.mem l).symm
end
end Fw
namespace Fw
open PySem PySem.Spec PyProof.Rows L2
open RZ
/-- the same value, to a depth -/
inductive Eqs (H : Hp) : Nat → V → V → Prop
  | non (k : Nat) : Eqs H k .non .non
  | int (k : Nat) (i : Int) : Eqs H k (.int i) (.int i)
  | bl (k : Nat) (b : Bool) : Eqs H k (.bl b) (.bl b)
  | str (k : Nat) (z : Str) : Eqs H k (.str z) (.str z)
  | tup {k : Nat} {a b : Addr} {xs ys : List V} : TpAt H a xs → TpAt H b ys → xs.length = ys.length → xs.length ≤ 500 → (∀ (i : Nat) x y, xs[i]? = some x → ys[i]? = some y → Eqs H k x y) → Eqs H (k + 1) (.ref a) (.ref b)
theorem Eqs.same {H H' : Hp} {k : Nat} {x y : V} (h : Eqs H k x y) (e : Same H H') : Eqs H' k x y := by
  induction h with
  | non k => exact .non k
  | int k i => exact .int k i
  | bl k i => exact .bl k i
  | str k i => exact .str k i
  | tup h1 h2 h3 h4 _ ih => exact .tup (h1.same e) (h2.same e) h3 h4 ih
theorem Eqs.pl {H : Hp} {k : Nat} {a b : Addr} {P : List (Str × Int)} (h1 : PlAt H a P) (h2 : PlAt H b P) (hl : P.length ≤ 500) : Eqs H (k + 2) (.ref a) (.ref b) := by
  obtain ⟨ps, e1, e2, e3⟩ := h1
  obtain ⟨qs, f1, f2, f3⟩ := h2
  have el : ps.length = qs.length := by
    have := congrArg List.length (e2.symm.trans f2)
    rw [List.length_map, List.length_map] at this
    exact this
  refine .tup e1 f1 (by rw [List.length_map, List.length_map, el]) (by rw [List.length_map]; rw [e2, List.length_map] at hl; exact hl) fun i x y hx hy => ?_
  rw [List.getElem?_map] at hx hy
  cases u : ps[i]? with
  | none => rw [u] at hx; cases hx
  | some p =>
    cases v : qs[i]? with
    | none => rw [v] at hy; cases hy
    | some q =>
      rw [u] at hx
      rw [v] at hy
      cases hx
      cases hy
      have e : p.2 = q.2 := by
        have h1 : P[i]? = some p.2 := by rw [e2, List.getElem?_map, u]; rfl
        have h2 : P[i]? = some q.2 := by rw [f2, List.getElem?_map, v]; rfl
        rw [h1] at h2
        exact Option.some.inj h2
      have g1 := e3 p (List.mem_of_getElem? u)
      have g2 := f3 q (List.mem_of_getElem? v)
      rw [← e] at g2
      refine .tup (.inl g1) (.inl g2) rfl (by show 2 ≤ 500; decide) fun j x y hx hy => ?_
      rw [hx] at hy
      cases hy
      match j, hx with
      | 0, hx => cases hx; exact .str _ _
      | 1, hx => cases hx; exact .int _ _
/-- how a zip of two tuples of one length walks -/
theorem both_walk {K : PySem.W.Frag} {a b : Addr} {xs ys : List V} (same : ys.length = xs.length) : Walk (ItzT K a b) xs.length (fun H => SqT K H a xs ∧ SqT K H b ys) (YPair (fun i => xs[i]?) fun i => ys[i]?) where
  goes i H lt q := ⟨_, _, _, _, q.1, q.2, List.getElem?_eq_getElem lt, List.getElem?_eq_getElem (same ▸ lt)⟩
  stops H q := ⟨_, _, q.1, q.2, .inl (Nat.le_refl _)⟩
  yields i H v H' _ q y := by
    obtain ⟨t, x, z, e1, e2, e3, e4, e5⟩ := y
    exact ⟨t, x, z, e1, e2, e3, e4 _ q.1, e5 _ q.2⟩
section
variable {P : Program} {w : World} {K : PySem.W.Frag} {mg : Str → Option Value} {base : Heap}
abbrev nSame : List Str := ["_law_found", "_law_expected", "_law_one", "_law_other"]
theorem scSame : FnScope nSame ["_law_found", "_law_expected"] (defScope sSame) := ⟨rfl, rfl, rfl, by decide +kernel, rfl, by decide +kernel, by decide +kernel⟩
theorem k_it : kitB "int" "tuple" = some false := by decide +kernel
theorem k_ib : kitB "int" "bool" = some false := by decide +kernel
theorem k_ii : kitB "int" "int" = some true := by decide +kernel
theorem k_nt : kitB "NoneType" "tuple" = some false := by decide +kernel
theorem k_tt : kitB "tuple" "tuple" = some true := by decide +kernel
theorem k_bt : kitB "bool" "tuple" = some false := by decide +kernel
theorem k_bb : kitB "bool" "bool" = some true := by decide +kernel
theorem k_st : kitB "str" "tuple" = some false := by decide +kernel
theorem k_sb : kitB "str" "bool" = some false := by decide +kernel
theorem k_si : kitB "str" "int" = some false := by decide +kernel
theorem k_ss2 : kitB "str" "str" = some true := by decide +kernel
end
end Fw
namespace Fw
open PySem PySem.Spec PyProof.Rows L2
/-- data that can be shown -/
structure Sw (b : Nat) (d : PyData) : Prop where
  s : d.showable = true
  n : d.hasDict = false
  p : d.depth ≤ 10
  l : d.leavesShort 13 = true
  k : d.bulk ≤ b
def pp (x : Str × Int) : PyData := .tuple [.str x.1, .int x.2]
def pld (P : List (Str × Int)) : PyData := .tuple (P.map pp)
theorem sw2 {b c : Nat} {d e : PyData} (x : Sw b d) (y : Sw c e) (h1 : d.depth ≤ 8) (h2 : e.depth ≤ 8) : Sw (b + c + 2) (.list [d, e]) := by
  refine ⟨?_, ?_, ?_, ?_, ?_⟩
  · simp only [PyData.showable, PyData.showableAll, x.s, y.s, Bool.and_true]
  · simp only [PyData.hasDict, PyData.hasDictAll, x.n, y.n, Bool.or_false]
  · simp only [PyData.depth, PyData.depthAll]
    omega
  · simp only [PyData.leavesShort, PyData.leavesShortAll, x.l, y.l, Bool.and_true]
  · simp only [PyData.bulk, PyData.bulkAll]
    have := x.k
    have := y.k
    omega
theorem pps_deep (P : List (Str × Int)) : PyData.depthAll (P.map pp) ≤ 1 := by
  induction P with
  | nil => simp [PyData.depthAll]
  | cons x P ih =>
    rw [List.map_cons]
    simp only [pp, PyData.depthAll, PyData.depth]
    omega
theorem dp_pps {K : PySem.W.Frag} {H : Hp} : ∀ {ps : List (Addr × Str × Int)}, (∀ p ∈ ps, H p.1 = some (.tup [.str p.2.1, .int p.2.2])) → DpAll K H (ps.map fun p => V.ref p.1) ((ps.map (·.2)).map pp)
  | [], _ => .nil
  | p :: ps, h => .cons (.tup (SqT.of (h p (List.mem_cons_self ..))) (.cons (.str _) (.cons (.int _) .nil))) (dp_pps fun q hq => h q (List.mem_cons_of_mem _ hq))
theorem PlAt.dp {K : PySem.W.Frag} {H : Hp} {p : Addr} {P : List (Str × Int)} (x : PlAt H p P) : Dp K H (.ref p) (pld P) := by
  obtain ⟨ps, h1, h2, h3⟩ := x
  rw [h2]
  exact .tup h1.sq (dp_pps h3)
theorem pps_lay : ∀ {X : List (Str × Int)}, (∀ x ∈ X, Nam x.1) → PyData.canLayAll0 (X.map pp) = true
  | [], _ => by simp [PyData.canLayAll0]
  | x :: X, h => by
    rw [List.map_cons, PyData.canLayAll0, pps_lay fun y hy => h y (List.mem_cons_of_mem _ hy)]
    simp [pp, PyData.canLay0, PyData.canLayAll0, nam_ok (h x (List.mem_cons_self ..))]
theorem Pl.nams {n : Int} {P : List (Str × Int)} (h : Pl n P) : ∀ x ∈ P, Nam x.1 := fun x hx => h.nm.nam _ (List.mem_map_of_mem (f := (·.1)) hx)
end Fw
namespace Fw
open PySem PySem.Spec PyProof.Rows L2
/-! ### dicts by names -/
theorem PlAt.at {K : PySem.W.Frag} {H : Hp} {l : Addr} {X : List (Str × Int)} (x : PlAt H l X) {r : Int} (h0 : 0 ≤ r) (h1 : r < (X.length : Nat)) : ∃ xs t nm v, SqT K H l xs ∧ atI xs r = some (.ref t) ∧ H t = some (.tup [.str nm, .int v]) ∧ (nm, v) ∈ X := by
  obtain ⟨ps, e1, e2, e3⟩ := x
  have hj : r.toNat < ps.length := by rw [e2, List.length_map] at h1; omega
  have hm := List.getElem_mem hj
  refine ⟨_, ps[r.toNat].1, ps[r.toNat].2.1, ps[r.toNat].2.2, e1.sq, ?_, e3 _ hm, by rw [e2]; exact List.mem_map_of_mem (f := (·.2)) hm⟩
  have := atI_nat (xs := ps.map fun q => V.ref q.1) (j := r.toNat) (v := V.ref ps[r.toNat].1) (by rw [List.getElem?_map, List.getElem?_eq_getElem hj]; rfl)
  rw [show ((r.toNat : Nat) : Int) = r by omega] at this
  exact this
/-! ### dict(placement) -/
end Fw
set_option maxHeartbeats 2000000
namespace Fw
open PySem PySem.Spec PyProof.Rows L2
/-! moves that can be made one after another (math) -/
theorem SP.upto {R : Int → Int → Prop} {a b c : Int} {p : List Int} (h : SP R a b p) : c ∈ p → ∃ q, SP R a c q ∧ ∀ x ∈ q, x ∈ p := by
  induction h with
  | one a =>
    intro m
    rw [List.mem_singleton.mp m]
    exact ⟨_, .one a, fun x hx => hx⟩
  | @cons a c' b p r q n ih =>
    intro m
    rcases List.mem_cons.mp m with e | m
    · rw [e]
      exact ⟨_, .one a, fun x hx => by rw [List.mem_singleton.mp hx]; exact List.mem_cons_self⟩
    · obtain ⟨q', hq, sub⟩ := ih m
      refine ⟨_, .cons r hq fun z => n (sub _ z), fun x hx => ?_⟩
      rcases List.mem_cons.mp hx with e | hx
      · rw [e]; exact List.mem_cons_self
      · exact List.mem_cons_of_mem _ (sub x hx)
/-- a way within -/
theorem Wk.within {D : List (Int × Int)} {U : List Int} {g v : Int} (h : Wk D U g v) : ∃ p, SP (adj D) g v p ∧ ∀ x ∈ p, x = g ∨ x ∈ U := by
  induction h with
  | base => exact ⟨_, .one g, fun x hx => .inl (List.mem_singleton.mp hx)⟩
  | @step v o _ r mo ih =>
    obtain ⟨p, hp, hs⟩ := ih
    by_cases m : o ∈ p
    · obtain ⟨q, hq, sub⟩ := hp.upto m
      exact ⟨q, hq, fun x hx => hs x (sub x hx)⟩
    · refine ⟨_, hp.snoc r m, fun x hx => ?_⟩
      rcases List.mem_append.mp hx with hx | hx
      · exact hs x hx
      · rw [List.mem_singleton.mp hx]
        exact .inr mo
end Fw
set_option maxHeartbeats 2000000
namespace Fw
open PySem PySem.Spec PyProof.Rows L2
/-! a door more between rooms that are not connected (cut out of Dj) -/
theorem Wk.doorsG {D D' : List (Int × Int)} {R : List Int} {a b : Int} (h : Wk D R a b) (m : ∀ x y, adj D x y → adj D' x y) : Wk D' R a b := by
  induction h with
  | base => exact .base
  | step _ r k ih => exact .step ih (m _ _ r) k
def dr (u v : Int) : Int × Int := (min u v, max u v)
theorem dr_comm (u v : Int) : dr u v = dr v u := by unfold dr; rw [Int.min_comm, Int.max_comm]
theorem dr_eq {u w x y : Int} (h : dr u w = dr x y) : (x = u ∧ y = w) ∨ (x = w ∧ y = u) := by
  unfold dr at h
  have h1 := congrArg Prod.fst h
  have h2 := congrArg Prod.snd h
  dsimp only at h1 h2
  omega
theorem dr_of {u w x y : Int} (e : x = min u w ∧ y = max u w) : (x, y) = dr u w := by rw [e.1, e.2]; rfl
theorem adj_dr {E : List (Int × Int)} {u w : Int} (h : dr u w ∈ E) : adj E u w := by
  by_cases e : u ≤ w
  · rw [dr, Int.min_eq_left e, Int.max_eq_right e] at h
    exact .inl h
  · rw [dr, Int.min_eq_right (by omega), Int.max_eq_left (by omega)] at h
    exact .inr h
theorem adj_cons {E : List (Int × Int)} {d : Int × Int} : ∀ a b, adj E a b → adj (d :: E) a b := fun a b h => h.imp (List.mem_cons_of_mem _) (List.mem_cons_of_mem _)
/-- a door is parted by a new room -/
theorem Grown.split {U : List Int} {E : List (Int × Int)} (g : Grown U E) : ∀ {x y v : Int} {E0 : List (Int × Int)}, E.Perm (dr x y :: E0) → v ∉ U → ∃ U' E', Grown U' E' ∧ U'.Perm (v :: U) ∧ E'.Perm (dr x v :: dr v y :: E0) := by
  induction g with
  | nil => exact fun h _ => by have := h.length_eq; simp at this
  | @room U E w g no ih =>
    intro x y v E0 h nv
    obtain ⟨n1, n2⟩ : v ≠ w ∧ v ∉ U := ⟨fun e => nv (by rw [e]; exact List.mem_cons_self), fun m => nv (List.mem_cons_of_mem _ m)⟩
    obtain ⟨U', E', g', pu, pe⟩ := ih h n2
    refine ⟨w :: U', E', .room w g' fun m => ?_, (pu.cons w).trans (List.Perm.swap v w U), pe⟩
    rcases List.mem_cons.mp (pu.mem_iff.mp m) with m | m
    · exact n1 m.symm
    · exact no m
  | @door U E w u a b g no mu e ih =>
    intro x y v E0 h nv
    obtain ⟨n1, n2⟩ : v ≠ w ∧ v ∉ U := ⟨fun e => nv (by rw [e]; exact List.mem_cons_self), fun m => nv (List.mem_cons_of_mem _ m)⟩
    have eab := dr_of e
    by_cases hd : (a, b) = dr x y
    · rw [hd] at h
      have h0 := h.cons_inv
      have g1 : Grown (v :: U) (dr u v :: E) := .door v u _ _ g n2 mu ⟨rfl, rfl⟩
      have g2 : Grown (w :: v :: U) (dr v w :: dr u v :: E) := .door w v _ _ g1 (fun m => (List.mem_cons.mp m).elim (fun z => n1 z.symm) no) List.mem_cons_self ⟨rfl, rfl⟩
      refine ⟨_, _, g2, List.Perm.swap v w U, ?_⟩
      rcases dr_eq (eab.symm.trans hd) with ⟨rfl, rfl⟩ | ⟨rfl, rfl⟩
      · exact (List.Perm.swap _ _ _).trans ((h0.cons _).cons _)
      · rw [dr_comm v x, dr_comm y v]
        exact (h0.cons _).cons _
    · have m : (a, b) ∈ E0 := (List.mem_cons.mp (h.mem_iff.mp List.mem_cons_self)).resolve_left hd
      have p0 := List.perm_cons_erase m
      have h1 : E.Perm (dr x y :: E0.erase (a, b)) := (h.trans ((p0.cons _).trans (List.Perm.swap _ _ _))).cons_inv
      obtain ⟨U', E', g', pu, pe⟩ := ih h1 n2
      refine ⟨w :: U', (a, b) :: E', .door w u a b g' (fun m => ?_) (pu.mem_iff.mpr (List.mem_cons_of_mem _ mu)) e, (pu.cons w).trans (List.Perm.swap v w U), ?_⟩
      · rcases List.mem_cons.mp (pu.mem_iff.mp m) with m | m
        · exact n1 m.symm
        · exact no m
      · refine (pe.cons _).trans ((List.Perm.swap _ _ _).trans (((List.Perm.swap _ _ _).trans (p0.symm.cons _)).cons _))
/-- rooms that are not connected are joined -/
theorem Grown.join {U : List Int} {E : List (Int × Int)} (g : Grown U E) : ∀ {a b : Int}, a ∈ U → b ∈ U → ¬ Wk E U a b → ∃ U' E', Grown U' E' ∧ U'.Perm U ∧ E'.Perm (dr a b :: E) := by
  induction g with
  | nil => exact fun h _ _ => by cases h
  | @room U E w g no ih =>
    intro a b ha hb nw
    rcases List.mem_cons.mp ha with rfl | ha'
    · rcases List.mem_cons.mp hb with rfl | hb'
      · exact absurd .base nw
      · exact ⟨_, _, .door a b _ _ g no hb' ⟨rfl, rfl⟩, .refl _, by rw [dr_comm a b]; exact .refl _⟩
    · rcases List.mem_cons.mp hb with rfl | hb'
      · exact ⟨_, _, .door b a _ _ g no ha' ⟨rfl, rfl⟩, .refl _, .refl _⟩
      · obtain ⟨U', E', g', pu, pe⟩ := ih ha' hb' fun z => nw (z.mono fun x => List.mem_cons_of_mem _)
        exact ⟨w :: U', E', .room w g' fun m => no (pu.mem_iff.mp m), pu.cons w, pe⟩
  | @door U E w u x y g no mu e ih =>
    intro a b ha hb nw
    have exy := dr_of e
    have up : ∀ {s t : Int}, Wk E U s t → Wk ((x, y) :: E) (w :: U) s t := fun z => (z.doorsG adj_cons).mono fun x => List.mem_cons_of_mem _
    have uw : adj ((x, y) :: E) u w := adj_dr (by rw [exy]; exact List.mem_cons_self)
    rcases List.mem_cons.mp ha with rfl | ha'
    · rcases List.mem_cons.mp hb with rfl | hb'
      · exact absurd .base nw
      · have nw' : ¬ Wk E U u b := fun z => nw ((Wk.step .base (adj_symm uw) (List.mem_cons_of_mem _ mu)).trans (up z))
        obtain ⟨U', E', g', pu, pe⟩ := ih mu hb' nw'
        obtain ⟨U2, E2, g2, pu2, pe2⟩ := g'.split (v := a) pe fun m => no (pu.mem_iff.mp m)
        refine ⟨U2, E2, g2, pu2.trans (pu.cons _), pe2.trans ?_⟩
        rw [exy]
        exact List.Perm.swap _ _ _
    · rcases List.mem_cons.mp hb with rfl | hb'
      · have nw' : ¬ Wk E U a u := fun z => nw ((up z).step uw List.mem_cons_self)
        obtain ⟨U', E', g', pu, pe⟩ := ih ha' mu nw'
        obtain ⟨U2, E2, g2, pu2, pe2⟩ := g'.split (v := b) pe fun m => no (pu.mem_iff.mp m)
        refine ⟨U2, E2, g2, pu2.trans (pu.cons _), pe2.trans ?_⟩
        rw [exy, dr_comm b u]
      · obtain ⟨U', E', g', pu, pe⟩ := ih ha' hb' fun z => nw (up z)
        refine ⟨w :: U', (x, y) :: E', .door w u x y g' (fun m => no (pu.mem_iff.mp m)) (pu.mem_iff.mpr mu) e, pu.cons w, (pe.cons _).trans (List.Perm.swap _ _ _)⟩
theorem Forest.more {n : Int} {D D' : List (Int × Int)} {a b : Int} (f : Forest n D) (a0 : 0 ≤ a) (ab : a < b) (bn : b < n) (no : ∀ p, ¬ SP (Fw.adj D) a b p) (pm : D'.Perm (D ++ [(a, b)])) (so : D'.Pairwise fun x y => x ≠ y → Dlt x y) : Forest n D' := by
  obtain ⟨U, E, g, hU, p, l, up⟩ := f
  have nw : ¬ Wk E U a b := fun z => by
    obtain ⟨q, sp, _⟩ := z.within
    rw [← adj_perm p] at sp
    exact no q sp
  obtain ⟨U', E', g', pu, pe⟩ := g.join ((hU a).mpr ⟨a0, by omega⟩) ((hU b).mpr ⟨by omega, bn⟩) nw
  have ed : dr a b = (a, b) := by rw [dr, Int.min_eq_left (by omega), Int.max_eq_right (by omega)]
  rw [ed] at pe
  have pD : D'.Perm E' := pm.trans ((List.perm_append_singleton _ _).trans ((p.cons _).trans pe.symm))
  refine ⟨U', E', g', fun x => by rw [pu.mem_iff, hU], pD, by rw [pu.length_eq]; exact l, ?_⟩
  have nd := pD.nodup_iff.mpr g'.nodup
  rw [List.nodup_iff_pairwise_ne] at nd
  exact (so.and nd).imp fun z => z.1 z.2
/-- rooms without doors -/
theorem grown_rooms : ∀ {U : List Int}, U.Nodup → Grown U []
  | [], _ => .nil
  | v :: U, h => by
    have := List.nodup_cons.mp h
    exact .room v (grown_rooms this.2) this.1
theorem forest_nil {n : Int} (n8 : n ≤ 8) : Forest n [] := by
  refine ⟨rg n, [], grown_rooms (up_nodup (range_up n.toNat)), fun x => mem_rg, List.Perm.refl _, by rw [rg_len]; omega, List.Pairwise.nil⟩
theorem Dlt.trans' {a b c : Int × Int} (h : Dlt a b) (k : Dlt b c) : Dlt a c := by
  unfold Dlt at *
  omega
/-- one door after another -/
theorem forest_step {n : Int} {D : List (Int × Int)} {i : Nat} {a b : Int} (up : D.Pairwise Dlt) (hi : D[i]? = some (a, b)) (f : Forest n (D.take i)) (a0 : 0 ≤ a) (ab : a < b) (bn : b < n) (no : ∀ p, ¬ SP (Fw.adj (D.take i)) a b p) : Forest n (D.take (i + 1)) := by
  have e : D.take (i + 1) = D.take i ++ [(a, b)] := by rw [List.take_add_one, hi]; rfl
  exact f.more a0 ab bn no (by rw [e]) ((up.sublist (List.take_sublist _ _)).imp fun {x y} (h : Dlt x y) (_ : x ≠ y) => h)
theorem forest_way {n : Int} {D : List (Int × Int)} {i : Nat} {a b : Int} {p : List Int} (hi : D[i]? = some (a, b)) (sp : SP (Fw.adj (D.take i)) a b p) : ¬ Forest n D := fun f => by
  have m := List.mem_of_getElem? hi
  have ab := (f.ends m).2.1
  have s1 : SP (Fw.adj D) a b p := sp.map fun x y _ _ h => h.imp List.mem_of_mem_take List.mem_of_mem_take
  have s2 : SP (Fw.adj D) a b [a, b] := .cons (.inl m) (.one b) (by simp; omega)
  have e := f.uniq a b p [a, b] s1 s2
  subst e
  cases sp with
  | cons r q _ =>
    have hc := q.head
    rw [List.mem_singleton] at hc
    subst hc
    rcases r with r | r
    · obtain ⟨j, hj, ej⟩ := List.mem_iff_getElem.mp r
      rw [List.length_take] at hj
      rw [List.getElem_take] at ej
      have il : i < D.length := (List.getElem?_eq_some_iff.mp hi).1
      have ei := (List.getElem?_eq_some_iff.mp hi).2
      have := (List.getElem_inj (h₀ := (by omega : j < D.length)) (h₁ := il) f.nodup).mp (ej.trans ei.symm)
      omega
    · have := (f.ends (List.mem_of_mem_take r)).2.1
      omega
end Fw
namespace Fw
open PySem PySem.Spec PyProof.Rows L2
/-! a house whose tuples stand in memory in any manner (out of C, D, E, Y) -/
def HouseQ (K : PySem.W.Frag) (H : Hp) (h : Addr) (n : Int) (D : List (Int × Int)) : Prop := ∃ (q : Addr) (ps : List (Addr × Int × Int)),
  SqT K H h [.int n, .ref q] ∧ SqT K H q (ps.map fun p => V.ref p.1) ∧ D = ps.map (·.2) ∧ ∀ p ∈ ps, SqT K H p.1 [.int p.2.1, .int p.2.2]
theorem HouseAt.q {K : PySem.W.Frag} {H : Hp} {h : Addr} {n : Int} {D : List (Int × Int)} (x : HouseAt H h n D) : HouseQ K H h n D := by
  obtain ⟨q, ps, h1, h2, h3, h4⟩ := x
  exact ⟨q, ps, SqT.of h1, SqT.of h2, h3, fun p hp => SqT.of (h4 p hp)⟩
theorem HouseQ.same {K : PySem.W.Frag} {H H' : Hp} {h : Addr} {n : Int} {D : List (Int × Int)} (x : HouseQ K H h n D) (e : Same H H') : HouseQ K H' h n D := by
  obtain ⟨q, ps, h1, h2, h3, h4⟩ := x
  exact ⟨q, ps, sqT_same e h1, sqT_same e h2, h3, fun p hp => sqT_same e (h4 p hp)⟩
theorem HouseQ.top {K : PySem.W.Frag} {H : Hp} {h : Addr} {n : Int} {D : List (Int × Int)} (x : HouseQ K H h n D) : ∃ q, SqT K H h [.int n, .ref q] := by
  obtain ⟨q, ps, h1, _⟩ := x
  exact ⟨q, h1⟩
section
variable {P : Program} {w : World} {K : PySem.W.Frag} {mg : Str → Option Value} {base : Heap}
def spNbQ (K : PySem.W.Frag) : Sp := fun vs H Q _ => ∃ (h : Addr) (n : Int) (D : List (Int × Int)) (r : Int), vs = [.ref h, .int r] ∧ HouseQ K H h n D ∧ Forest n D ∧
  ∀ H' t, Same H H' → H' t = some (.tup (vi (nb n D r))) → Q (.ref t) H'
theorem ok_nbQ {f : Addr} {fd : FuncData} {k : Nat} (F : Fun K "neighbors" "neighbors" sNb f fd) (T : Nm mg) : FnOk P w K mg base CX0 (k + 1) f fd ["house", "room"] (spNbQ K) := by
  refine F.ok scNb (fun vs H Q E h => ?_) (fun cdv A outer s H vs Q E hr h => ?_)
  · obtain ⟨h, n, D, r, rfl, _⟩ := h
    rfl
  · obtain ⟨h, n, D, r, rfl, ⟨q0, ps, h1, h2, h3, h4⟩, hF, q⟩ := h
    refine ⟨_, pss_cons (ps_set (i := 2) scNb.nd rfl (.inl rfl) (pe_ix ix_tup (pv 0) pe_int (fun _ _ => rfl)))
      (pss_one (ps_ret (pe_callTy call_tuple_of (by rfl) T.tuple (by decide +kernel) (pa_cons (pe_op op_cat
        (pe_lc (own := [("a", 3), ("b", 4)]) (g := gAB K) (by rfl) scNb.nd (pi_tup (pv 2))
          (blkOk_by (own := [("a", 3), ("b", 4)]) (N := nNb) (sc := defScope sNb) (by decide +kernel))
          (fun _ _ _ _ _ => pg_tup (by rfl) (pgs_cons (pg_name (i := 3) scNb.nd rfl (Or.inl rfl)) (pgs_cons (pg_name (i := 4) scNb.nd rfl (Or.inl rfl)) pgs_nil)))
          (fun _ _ _ _ _ => pts_one (pt_cmpR op_eq (pv 4) (pv 1) (nomark _)))
          (fun _ _ _ _ _ => pv 3))
        (pe_lc (own := [("a", 3), ("b", 4)]) (g := gAB K) (by rfl) scNb.nd (pi_tup (pv 2))
          (blkOk_by (own := [("a", 3), ("b", 4)]) (N := nNb) (sc := defScope sNb) (by decide +kernel))
          (fun _ _ _ _ _ => pg_tup (by rfl) (pgs_cons (pg_name (i := 3) scNb.nd rfl (Or.inl rfl)) (pgs_cons (pg_name (i := 4) scNb.nd rfl (Or.inl rfl)) pgs_nil)))
          (fun _ _ _ _ _ => pts_one (pt_cmpR op_eq (pv 3) (pv 1) (nomark _)))
          (fun _ _ _ _ _ => pv 4))) pa_nil)))), ?_⟩
    have el := hF.len
    have eD : D.take (ps.map fun p => V.ref p.1).length = D := by
      rw [h3, List.length_map, ← List.length_map (f := fun x : Addr × Int × Int => x.2), List.take_length]
    refine ⟨_, rfl, h, _, _, _, rfl, rfl, h1, atI1, ?_⟩
    refine ⟨_, rfl, q0, rfl, ⟨_, h2⟩, fun L hL => lc_tup (K := K) (a := q0) (xs := ps.map fun p => V.ref p.1) (fun i H1 => Same H H1 ∧ H1 L = some (.lst (vi (ins (D.take i) r))))
      ⟨same_upd hL, upd_same⟩ (fun i H1 _ hh => (sqT_same hh.1 h2)) ?_ ?_⟩
    · rintro i x H1 hx ⟨s1, e1⟩
      obtain ⟨p, hp, rfl⟩ := get_ref hx
      have ed : D[i]? = some p.2 := by rw [h3, List.getElem?_map, hp]; rfl
      refine ⟨p.1, _, rfl, sqT_same s1 (h4 p (List.mem_of_getElem? hp)), rfl, _, _, rfl, _, _, rfl, rfl, rfl, _, rfl, _, rfl, rfl, _, rfl, ?_⟩
      refine ite2 (fun c => ?_) (fun c => ?_)
      · have c : p.2.2 = r := V.int.inj (of_decide_eq_true c)
        refine ⟨_, rfl, _, e1, ?_, same_put s1 hL, ?_⟩
        · rw [List.length_map]
          exact small1000 (Nat.le_trans (ins_len _ _) (by rw [List.length_take]; omega))
        · rw [upd_same, ins_succ ed, if_pos c, vi_app]
          rfl
      · have c : ¬ p.2.2 = r := fun e => c (decide_eq_true (by rw [e]))
        refine ⟨s1, ?_⟩
        rw [ins_succ ed, if_neg c, List.append_nil]
        exact e1
    · rintro H1 ⟨s1, e1⟩
      rw [eD] at e1
      refine ⟨_, rfl, q0, rfl, ⟨_, (sqT_same s1 h2)⟩, fun M hM => lc_tup (K := K) (a := q0) (xs := ps.map fun p => V.ref p.1) (fun i H2 => Same H1 H2 ∧ H2 M = some (.lst (vi (outs (D.take i) r))))
        ⟨same_upd hM, upd_same⟩ (fun i H2 _ hh => sqT_same hh.1 (sqT_same s1 h2)) ?_ ?_⟩
      · rintro i x H2 hx ⟨s2, e2⟩
        obtain ⟨p, hp, rfl⟩ := get_ref hx
        have ed : D[i]? = some p.2 := by rw [h3, List.getElem?_map, hp]; rfl
        refine ⟨p.1, _, rfl, sqT_same s2 (sqT_same s1 (h4 p (List.mem_of_getElem? hp))), rfl, _, _, rfl, _, _, rfl, rfl, rfl, _, rfl, _, rfl, rfl, _, rfl, ?_⟩
        refine ite2 (fun c => ?_) (fun c => ?_)
        · have c : p.2.1 = r := V.int.inj (of_decide_eq_true c)
          refine ⟨_, rfl, _, e2, ?_, same_put s2 hM, ?_⟩
          · rw [List.length_map]
            exact small1000 (Nat.le_trans (outs_len _ _) (by rw [List.length_take]; omega))
          · rw [upd_same, outs_succ ed, if_pos c, vi_app]
            rfl
        · have c : ¬ p.2.1 = r := fun e => c (decide_eq_true (by rw [e]))
          refine ⟨s2, ?_⟩
          rw [outs_succ ed, if_neg c, List.append_nil]
          exact e2
      · rintro H2 ⟨s2, e2⟩
        rw [eD] at e2
        refine ⟨L, M, _, _, rfl, rfl, s2 _ _ e1, e2, ?_, fun N hN => ?_⟩
        · rw [List.length_map, List.length_map]
          have h1 := outs_len D r
          have h2 := ins_len D r
          exact Nat.le_of_lt (small1000 (by omega))
        rw [← vi_app, hF.nb_eq r]
        refine ⟨N, _, rfl, .inl ⟨SqL.of upd_same, fun t ht => q _ t ?_ upd_same⟩⟩
        exact ((s1.trans s2).trans (same_upd hN)).trans (same_upd ht)
def spStepsQ (K : PySem.W.Frag) : Sp := fun vs H Q _ => ∃ (h rl : Addr) (n : Int) (D : List (Int × Int)) (g : Int) (R : List Int), vs = [.ref h, .int g, .ref rl] ∧ HouseQ K H h n D ∧ Forest n D ∧ 0 ≤ n ∧ n ≤ 8 ∧
  (SqL K H rl (vi R) ∨ SqT K H rl (vi R)) ∧ ∀ H' d kvs, Same H H' → H d = none → H' d = some (.dK kvs) → SDone n D R g kvs → Q (.ref d) H'
theorem ok_stepsQ {f fN : Addr} {fd fdN : FuncData} (F : Fun K "steps_toward" "steps_toward" sSteps f fd) (T : Nm mg) (DN : Def K mg "neighbors" sNb fN fdN ["house", "room"]) : FnOk P w K mg base CX0 2 f fd ["house", "goal", "rooms"] (spStepsQ K) := by
  have GN : FnOk P w K mg base CX0 1 fN fdN ["house", "room"] (spNbQ K) := ok_nbQ DN.F T
  refine F.ok scSteps (fun vs H Q E h => ?_) (fun cdv A outer s H vs Q E hr h => ?_)
  · obtain ⟨h, rl, n, D, g, R, rfl, _⟩ := h
    rfl
  · obtain ⟨h, rl, n, D, g, R, rfl, hH, hF, hn0, hn1, hR, q⟩ := h
    have hu := hu_of hr
    refine ⟨_, pss_cons (ps_set (i := 3) scSteps.nd rfl (.inl rfl) (pe_disp (pps_cons (pv 1) pe_non pps_nil) (by rfl) (by rfl) (fun z => by cases z) (by decide)))
      (pss_cons (ps_set (i := 4) scSteps.nd rfl (.inl rfl) (pe_lst (pa_cons (pv 1) pa_nil)))
      (pss_cons (ps_while PassesOwn.never (pt_truth (pv 4) (by intro _; rfl))
        (pss_cons (ps_set (i := 5) scSteps.nd rfl (.inl rfl) (pe_bm0 PySem.F.plainAttrs_list PySem.F.slot_list_pop PySem.F.type_list_pop mt_pop (pv 4)))
        (pss_one (ps_for PassesOwn.never rfl (pi_tup (pe_call GN hr (by rfl) DN.g DN.F.kp DN.b .nil pass0 (pa_cons (pv 0) (pa_cons (pv 5) pa_nil)))) (pg_name (i := 6) scSteps.nd rfl (Or.inl rfl))
          (pss_one (ps_if (PW.pt (pw_and (pt_cmpR op_in_seq (pv 6) (pv 2) (by rfl)) (pw_and1 (pt_cmp (pc_dnotin hu (pv 6) (pv 3))))))
            (pss_cons (ps_dput hu (pv 3) (pv 6) (pv 5) rfl)
            (pss_one (ps_expr (pe_bm PySem.F.plainAttrs_list PySem.F.slot_list_append PySem.F.type_list_append mt_append (pv 4) (pa_cons (pv 6) pa_nil)))))
            pss_nil))))))
      (pss_one (ps_ret (pv 3))))), ?_⟩
    refine fun d hd => ⟨_, rfl, upd_same, [(Sum.inl g, .non)], rfl, by show 1 ≤ 15; decide, ?_⟩
    rw [upd_upd]
    refine ⟨_, rfl, by show 1 ≤ sizeLine; decide, fun wl hw => ?_⟩
    have ed0 : (upd H d (.dK (mergeK [] [(Sum.inl g, V.non)]))) d = some (.dK [(Sum.inl g, V.non)]) := upd_same
    have nwd : d ≠ wl := ne_of_none ed0 hw
    have gw : H wl = none := (same_upd hd).free hw
    have clos0 : ∀ v o, isK [(Sum.inl g, V.non)] v = true → v ∉ [g] → adj D v o → o ∈ R → isK [(Sum.inl g, V.non)] o = true := fun v o hv hn _ _ => by
      obtain ⟨ks, e1, _, e3⟩ := (SInv.start (n := n) (D := D) (R := R) (g := g)).keys
      have e4 : ks = [g] := by
        cases ks with
        | nil => cases e1
        | cons k r =>
          cases r with
          | nil =>
            injection e1 with e1 _
            rw [← Sum.inl.inj e1]
          | cons k2 r =>
            injection e1 with _ e1
            cases e1
      rw [e4] at e3
      exact absurd ((e3 v).mpr hv) hn
    refine ⟨fun m σ H' => ∃ (kvs : List (Key × V)) (wt : List Int) (y5 y6 : Option V), σ = [some (.ref h), some (.int g), some (.ref rl), some (.ref d), some (.ref wl), y5, y6] ∧ SAt H d wl n D R g kvs wt H' ∧
        (∀ v o, isK kvs v = true → v ∉ wt → adj D v o → o ∈ R → isK kvs o = true) ∧ m = 2 * left n.toNat (isK kvs) + wt.length, ⟨_, [(Sum.inl g, V.non)], [g], none, none, rfl, ⟨?_, ?_, upd_same, SInv.start, ?_, ?_⟩, clos0, rfl⟩, ?_⟩
    · exact (same_upd hd).trans (same_upd hw)
    · rw [upd_ne nwd]
      exact ed0
    · intro v hv
      rw [List.mem_singleton.mp hv]
      unfold isK
      rw [SInv.start (n := n) (D := D) (R := R) |>.goal]
      rfl
    · have := left_le n.toNat (isK [(Sum.inl g, V.non)])
      simp only [List.length_cons, List.length_nil]
      omega
    clear clos0 ed0
    rintro m σ H1 ⟨kvs, wt, y5, y6, rfl, S1, clos, rfl⟩
    refine ⟨_, rfl, _, .inl ⟨_, SqL.of S1.ew, rfl⟩, ?_⟩
    rcases snoc_cases wt with rfl | ⟨ys, v, rfl⟩
    · refine iteF ?_
      exact ⟨_, rfl, q _ d kvs S1.sm hd S1.ed ⟨S1.inv, fun v o h1 h2 h3 => clos v o h1 (by simp) h2 h3⟩⟩
    · have ne : (!(vi (ys ++ [v])).isEmpty) = true := by
        cases ys <;> rfl
      rw [ne]
      refine iteT ⟨_, fun _ _ hh => hh, ?_⟩
      have hv : isK kvs v = true := S1.wk v (by simp)
      refine ⟨_, rfl, .inl ⟨rfl, _, SqL.of S1.ew⟩, wl, _, _, rfl, rfl, S1.ew, vi_snoc_last, ?_⟩
      rw [vi_dropLast]
      have l1 := S1.wlen
      rw [List.length_append, List.length_singleton] at l1
      have S2 : SAt H d wl n D R g kvs ys (upd H1 wl (.lst (vi ys))) := ⟨same_put S1.sm gw, (upd_ne nwd).trans S1.ed, upd_same, S1.inv, fun x hx => S1.wk x (List.mem_append_left _ hx), by omega⟩
      refine ⟨_, rfl, _, rfl, h, n, D, v, rfl, hH.same S2.sm, hF, fun H3 t s3 et => ?_⟩
      have S3 := S2.same s3
      refine ⟨t, rfl, ⟨_, SqT.of et⟩, for_tup (K := K) (a := t) (xs := vi (nb n D v)) (fun i σ H' => ∃ (kvs' : List (Key × V)) (wt : List Int) (y6 : Option V), σ = [some (.ref h), some (.int g), some (.ref rl), some (.ref d), some (.ref wl), some (.int v), y6] ∧
          SAt H d wl n D R g kvs' wt H' ∧ H' t = some (.tup (vi (nb n D v))) ∧ isK kvs' v = true ∧ (∀ x o, isK kvs' x = true → x ∉ wt → x ≠ v → adj D x o → o ∈ R → isK kvs' o = true) ∧
          (∀ o ∈ (nb n D v).take i, o ∈ R → isK kvs' o = true) ∧ 2 * left n.toNat (isK kvs') + wt.length < 2 * left n.toNat (isK kvs) + (ys ++ [v]).length) ⟨kvs, ys, y6, rfl, S3, et, hv, ?_, ?_, ?_⟩ ?_ ?_ ?_⟩
      · intro x o h1 h2 h3 h4 h5
        exact clos x o h1 (by simp [h2, h3]) h4 h5
      · intro o ho
        simp at ho
      · rw [List.length_append, List.length_singleton]
        omega
      · rintro i σ H' _ ⟨kvs', wt, y6, rfl, _, et', _⟩
        exact SqT.of et'
      · rintro i x σ H4 hx ⟨kvs', wt, y6, rfl, S4, et4, hv4, cl4, pre4, lt4⟩
        obtain ⟨o, eo, rfl⟩ := get_vi hx
        have mo := List.mem_of_getElem? eo
        have ao : adj D v o := hF.mem_nb.mp mo
        have ro := hF.adj ao
        have pre5 : ∀ kvs2 : List (Key × V), (∀ y, isK kvs' y = true → isK kvs2 y = true) → (o ∈ R → isK kvs2 o = true) → ∀ z ∈ (nb n D v).take (i + 1), z ∈ R → isK kvs2 z = true := fun kvs2 hm ho z hz hzR => by
          rw [List.take_add_one, eo, List.mem_append] at hz
          rcases hz with hz | hz
          · exact hm _ (pre4 z hz hzR)
          · have : z = o := by simpa using hz
            rw [this] at hzR ⊢
            exact ho hzR
        dsimp only [gName]
        refine if_by (fun b H5 => H5 = H4 ∧ (b = true → o ∈ R ∧ isK kvs' o = false) ∧ (b = false → o ∈ R → isK kvs' o = true)) ?_ ?_ ?_
        · rintro H5 ⟨rfl, hb, _⟩
          obtain ⟨oR, ok⟩ := hb rfl
          obtain ⟨I5, lt5⟩ := S4.inv.put hv4 ok ao oR ro.2.2.1 ro.2.2.2
          have lk4 := S4.inv.len
          have lw4 := S4.wlen
          refine ⟨_, rfl, _, rfl, _, rfl, d, _, rfl, DPut.k (k := Sum.inl o) S4.ed (small1000 (by omega)), ?_⟩
          have ew5 : (upd H5 d (.dK (putK kvs' (Sum.inl o) (V.int v)))) wl = some (.lst (vi wt)) := (upd_ne nwd.symm).trans S4.ew
          refine ⟨_, rfl, .inl ⟨rfl, _, SqL.of ew5⟩, _, rfl, wl, _, _, rfl, rfl, ew5, by rw [List.length_map]; exact small1000 (by omega), ?_⟩
          refine ⟨putK kvs' (Sum.inl o) (V.int v), wt ++ [o], _, rfl, ⟨same_put (same_put S4.sm hd) gw, (upd_ne nwd).trans upd_same, ?_, I5, ?_, ?_⟩, ?_, ?_, ?_, ?_, ?_⟩
          · rw [upd_same, vi_app]
            rfl
          · intro y hy
            rw [isK_put]
            rcases List.mem_append.mp hy with hy | hy
            · rw [S4.wk y hy, Bool.or_true]
            · rw [List.mem_singleton.mp hy, decide_eq_true rfl, Bool.true_or]
          · rw [List.length_append, List.length_singleton]
            omega
          · rw [upd_ne (ne_of et4 S4.ew (by intro z; cases z)), upd_ne (ne_of et4 S4.ed (by intro z; cases z))]
            exact et4
          · rw [isK_put, hv4, Bool.or_true]
          · intro y z h1 h2 h3 h4 h5
            rw [isK_put, Bool.or_eq_true, decide_eq_true_eq] at h1
            rw [List.mem_append, not_or, List.mem_singleton] at h2
            rcases h1 with h1 | h1
            · exact absurd h1 h2.2
            · rw [isK_put, cl4 y z h1 h2.1 h3 h4 h5, Bool.or_true]
          · refine pre5 _ (fun y hy => by rw [isK_put, hy, Bool.or_true]) fun _ => ?_
            rw [isK_put, decide_eq_true rfl, Bool.true_or]
          · rw [List.length_append, List.length_singleton]
            omega
        · rintro H5 ⟨rfl, _, hb⟩
          exact ⟨kvs', wt, _, rfl, S4, et4, hv4, cl4, pre5 kvs' (fun _ hh => hh) (hb rfl), lt4⟩
        · intro QQ hQ
          have hR4 : SqL K H4 rl (vi R) ∨ SqT K H4 rl (vi R) := hR.imp (fun z => S4.sm.seq z) (fun z => Same.sqT S4.sm z)
          refine ⟨_, rfl, _, rfl, rl, _, rfl, hR4, rfl, flat_ints R, _, rfl, ?_⟩
          show if (inV (.int o) (vi R)) = true then _ else _
          rw [inV_ints]
          refine ite2 (fun c => ?_) (fun c => ?_)
          · have c : o ∈ R := of_decide_eq_true c
            refine ⟨_, rfl, _, rfl, d, _, rfl, DGet.k (k := Sum.inl o) S4.ed, _, rfl, ?_⟩
            refine hQ _ _ ⟨rfl, fun e => ⟨c, ?_⟩, fun e _ => ?_⟩
            · show isK kvs' o = false
              unfold isK lk
              simpa using e
            · show isK kvs' o = true
              unfold isK lk
              simpa using e
          · exact hQ _ _ ⟨rfl, fun e => (by cases e), fun _ e => absurd (decide_eq_true e) c⟩
      · rintro σ H4 ⟨kvs', wt, y6, rfl, S4, et4, hv4, cl4, pre4, lt4⟩
        rw [List.length_map, List.take_length] at pre4
        refine ⟨_, lt4, kvs', wt, _, _, rfl, S4, fun x o h1 h2 h3 h4 => ?_, rfl⟩
        by_cases e : x = v
        · subst e
          exact pre4 o (hF.mem_nb.mpr h3) h4
        · exact cl4 x o h1 h2 e h3 h4
def spPathQ (K : PySem.W.Frag) : Sp := fun vs H Q _ => ∃ (h : Addr) (n : Int) (D : List (Int × Int)) (a b : Int), vs = [.ref h, .int a, .int b] ∧ HouseQ K H h n D ∧ Forest n D ∧ n ≤ 8 ∧ 0 ≤ a ∧ a < n ∧ 0 ≤ b ∧ b < n ∧
  (∀ H', Same H H' → (∀ p, ¬ SP (adj D) a b p) → Q .non H') ∧ (∀ H' t p, Same H H' → SP (adj D) a b p → p.length ≤ 8 → H' t = some (.tup (vi p)) → Q (.ref t) H')
theorem ok_pathQ {f fN fS : Addr} {fd fdN fdS : FuncData} (F : Fun K "path_between" "path_between" sPath f fd) (T : Nm mg) (DN : Def K mg "neighbors" sNb fN fdN ["house", "room"]) (DS : Def K mg "steps_toward" sSteps fS fdS ["house", "goal", "rooms"]) : FnOk P w K mg base CX0 3 f fd ["house", "a", "b"] (spPathQ K) := by
  have GS : FnOk P w K mg base CX0 2 fS fdS ["house", "goal", "rooms"] (spStepsQ K) := ok_stepsQ DS.F T DN
  refine F.ok scPath (fun vs H Q E h => ?_) (fun cdv A outer s H vs Q E hr h => ?_)
  · obtain ⟨h, n, D, a, b, rfl, _⟩ := h
    rfl
  · obtain ⟨h, n, D, a, b, rfl, hH, hF, hn, a0, a1, b0, b1, q1, q2⟩ := h
    have hu := hu_of hr
    obtain ⟨hq, eh⟩ := hH.top
    refine ⟨_, pss_cons (ps_set (i := 3) scPath.nd rfl (.inl rfl) (pe_call GS hr (by rfl) DS.g DS.F.kp DS.b .nil pass0 (pa_cons (pv 0) (pa_cons (pv 2) (pa_cons (pe_listRg (by rfl) (by rfl) T.list (prg_1 (by rfl) T.range (pe_ix ix_tup (pv 0) pe_int (fun _ _ => rfl)))) pa_nil)))))
      (pss_cons (ps_if (pt_cmp (pc_dnotin hu (pv 1) (pv 3))) (pss_one (ps_ret pe_non)) pss_nil)
      (pss_cons (ps_set (i := 4) scPath.nd rfl (.inl rfl) (pe_lst (pa_cons (pv 1) pa_nil)))
      (pss_cons (ps_while PassesOwn.never (pt_cmpR op_ne (pe_ix ix_list (pv 4) (pe_un un_neg pe_int) (fun _ _ => rfl)) (pv 2) (nomark _))
        (pss_one (ps_expr (pe_bm PySem.F.plainAttrs_list PySem.F.slot_list_append PySem.F.type_list_append mt_append (pv 4) (pa_cons (pe_dget hu (pv 3) (pe_ix ix_list (pv 4) (pe_un un_neg pe_int) (fun _ _ => rfl)) (fun _ _ => rfl)) pa_nil)))))
      (pss_one (ps_ret (pe_callTy call_tuple_of (by rfl) T.tuple (by decide +kernel) (pa_cons (pv 4) pa_nil))))))), ?_⟩
    refine ⟨_, rfl, _, rfl, _, rfl, h, _, _, _, rfl, rfl, eh, atI0, n, rfl, RgOk.of_le (by omega) (by omega) (by omega) (by omega), fun rl hrl => ?_⟩
    rw [rg_vi, show ((List.range n.toNat).map fun (i : Nat) => (i : Int)) = rg n from rfl]
    have s1 : Same H (upd H rl (.lst (vi (rg n)))) := same_upd hrl
    refine ⟨h, rl, n, D, b, rg n, rfl, hH.same s1, hF, by omega, hn, .inl (SqL.of upd_same), fun H1 d kvs s2 hd ed S => ?_⟩
    have s2' := s1.trans s2
    have cl : ∀ v o, isK kvs v = true → adj D v o → isK kvs o = true := fun v o h1 h2 => S.closed v o h1 h2 (mem_rg.mpr ⟨(hF.adj h2).2.2.1, (hF.adj h2).2.2.2⟩)
    refine ⟨_, rfl, _, rfl, d, _, rfl, DGet.k (k := Sum.inl a) ed, _, rfl, ?_⟩
    cases ea : valV kvs (Sum.inl a) with
    | none =>
      refine iteT ?_
      refine q1 _ s2' fun p hp => ?_
      have hb : isK kvs b = true := by
        unfold isK
        rw [S.inv.goal]
        rfl
      have ha : isK kvs a = true := hp.back (S := fun x => isK kvs x = true) (fun x y r hy => cl y x hy (adj_symm r)) hb
      unfold isK lk at ha
      rw [ea] at ha
      cases ha
    | some x =>
      refine iteF ?_
      obtain ⟨p, hp⟩ := S.inv.way a x ea
      have hlen := hF.short hn a0 a1 hp.sp
      refine ⟨_, rfl, by show 1 ≤ sizeLine; decide, fun pl hpl => ?_⟩
      have gpl : H pl = none := s2'.free hpl
      have npd : d ≠ pl := ne_of_none ed hpl
      have p0 : ∃ r0, p = a :: r0 := by
        cases hp with
        | goal _ => exact ⟨[], rfl⟩
        | step _ _ _ _ => exact ⟨_, rfl⟩
      obtain ⟨r0, rfl⟩ := p0
      refine ⟨fun m σ H' => ∃ (don : List Int) (v : Int) (rest : List Int), σ = [some (.ref h), some (.int a), some (.int b), some (.ref d), some (.ref pl)] ∧ Same H H' ∧ H' d = some (.dK kvs) ∧ H' pl = some (.lst (vi (don ++ [v]))) ∧
          Ch D (lk kvs) b v (v :: rest) ∧ don ++ v :: rest = a :: r0 ∧ m = rest.length, ⟨_, [], a, r0, rfl, same_put s2' gpl, (upd_ne npd).trans ed, upd_same, hp, rfl, rfl⟩, ?_⟩
      rintro m σ H2 ⟨don, v, rest, rfl, s3, ed3, ep3, hv, eq3, rfl⟩
      have hat : atI (vi (don ++ [v])) (-1) = some (.int v) := by
        rw [vi_app]
        exact atI_last _ _
      refine ⟨_, rfl, _, rfl, pl, _, _, _, rfl, rfl, SqL.of ep3, hat, _, rfl, rfl, _, rfl, ?_⟩
      by_cases e : v = b
      · subst e
        have er : rest = [] := by
          have := hv.sp.loop
          injection this
        subst er
        refine iteNS rfl ?_
        refine ⟨_, rfl, pl, _, rfl, .inl ⟨SqL.of ep3, fun t ht => ?_⟩⟩
        refine q2 _ t (a :: r0) (s3.trans (same_upd ht)) hp.sp hlen ?_
        rw [upd_same, ← eq3]
      · have ne : (!decide (V.int v = V.int b)) = true := by
          rw [decide_eq_false (fun z => e (V.int.inj z))]
          rfl
        rw [ne]
        refine iteT ⟨_, fun _ _ hh => hh, ?_⟩
        cases hv with
        | goal _ => exact absurd rfl e
        | step ev _ hu2 _ =>
          rename_i u _ _
          have r0' : ∃ r1, rest = u :: r1 := by
            cases hu2 with
            | goal _ => exact ⟨[], rfl⟩
            | step _ _ _ _ => exact ⟨_, rfl⟩
          obtain ⟨r1, rfl⟩ := r0'
          have len3 : (don ++ v :: u :: r1).length ≤ 8 := by rw [eq3]; exact hlen
          have len4 : (vi (don ++ [v])).length < sizeLine := by
            rw [List.length_map, List.length_append, List.length_singleton]
            rw [List.length_append, List.length_cons] at len3
            exact small1000 (by omega)
          have hdg : DGet H2 d (V.int v) (some (V.int u)) := by
            have := DGet.k (k := Sum.inl v) ed3
            unfold lk at ev
            rw [ev] at this
            exact this
          refine ⟨_, rfl, .inl ⟨rfl, _, SqL.of ep3⟩, _, rfl, _, rfl, _, rfl, pl, _, _, _, rfl, rfl, SqL.of ep3, hat, d, V.int u, rfl, hdg, pl, _, _, rfl, rfl, ep3, len4, ?_⟩
          · refine ⟨r1.length, by simp, don ++ [v], u, r1, rfl, same_put s3 gpl, (upd_ne npd).trans ed3, ?_, hu2, by rw [List.append_assoc]; exact eq3, rfl⟩
            rw [upd_same, vi_app (don ++ [v])]
            rfl
end
end Fw
namespace Fw
open PySem PySem.Spec PyProof.Rows L2
theorem rd_sm {H H1 : Hp} (s : Same H H1) {a : Addr} {o : HO} (h : Rd H a o) : Rd H1 a o := by
  rcases h with e | ⟨ob, e⟩
  · exact .inl (s _ _ e)
  · exact .inr ⟨ob, s _ _ e⟩
theorem sqL_sm {K : PySem.W.Frag} {H H1 : Hp} (s : Same H H1) {a : Addr} {xs : List V} (h : SqL K H a xs) : SqL K H1 a xs := by
  rcases h with e | e
  · exact .inl (rd_sm s e)
  · exact .inr e
theorem sqT_sm {K : PySem.W.Frag} {H H1 : Hp} (s : Same H H1) {a : Addr} {xs : List V} (h : SqT K H a xs) : SqT K H1 a xs := by
  rcases h with e | e
  · exact .inl (rd_sm s e)
  · exact .inr e
end Fw
set_option maxHeartbeats 2000000
namespace Fw
open PySem PySem.Spec PyProof.Rows L2
/-! any value of the laws: data, with {} as a leaf; no list of it is sys.modules or among av -/
mutual
inductive Dx (K : PySem.W.Frag) (av : List Addr) (H : Hp) : V → PyData → Prop
  | non : Dx K av H .non .none
  | bl (b : Bool) : Dx K av H (.bl b) (.bool b)
  | int (i : Int) : Dx K av H (.int i) (.int i)
  | str (x : Str) : Dx K av H (.str x) (.str x)
  | lst {a : Addr} {xs : List V} {ds : List PyData} : SqL K H a xs → a ∉ sysModules :: av → DxAll K av H xs ds → Dx K av H (.ref a) (.list ds)
  | tup {a : Addr} {xs : List V} {ds : List PyData} : SqT K H a xs → DxAll K av H xs ds → Dx K av H (.ref a) (.tuple ds)
  | dct {a : Addr} : H a = some (.dK []) → Dx K av H (.ref a) (.dict [])
inductive DxAll (K : PySem.W.Frag) (av : List Addr) (H : Hp) : List V → List PyData → Prop
  | nil : DxAll K av H [] []
  | cons {v : V} {vs : List V} {d : PyData} {ds : List PyData} : Dx K av H v d → DxAll K av H vs ds → DxAll K av H (v :: vs) (d :: ds)
end
mutual
theorem dx_sm {K : PySem.W.Frag} {av : List Addr} {H H1 : Hp} (s : Same H H1) : ∀ {v : V} {d : PyData}, Dx K av H v d → Dx K av H1 v d
  | _, _, .non => .non
  | _, _, .bl b => .bl b
  | _, _, .int i => .int i
  | _, _, .str x => .str x
  | _, _, .lst h n a => .lst (sqL_sm s h) n (dxA_sm s a)
  | _, _, .tup h a => .tup (sqT_sm s h) (dxA_sm s a)
  | _, _, .dct e => .dct (s _ _ e)
theorem dxA_sm {K : PySem.W.Frag} {av : List Addr} {H H1 : Hp} (s : Same H H1) : ∀ {v : List V} {d : List PyData}, DxAll K av H v d → DxAll K av H1 v d
  | _, _, .nil => .nil
  | _, _, .cons h a => .cons (dx_sm s h) (dxA_sm s a)
end
section
variable {X : Cx} {av : List Addr} {pins : List (Addr × Obj)} {σ : L2.St} {H : Hp} {s : Shared}
mutual
theorem dx_reads (I : Inv X pins σ H s) : ∀ {v : V} {d : PyData} {u : Value}, Dx X.K av H v d → RelV v u → ∃ as, Reads s.heap u d as ∧ sysModules ∉ as
  | _, _, _, .non, r => by
    cases r
    exact ⟨_, .none, fun z => nomatch z⟩
  | _, _, _, .bl b, r => by
    cases r
    exact ⟨_, .bool b, fun z => nomatch z⟩
  | _, _, _, .int i, r => by
    obtain ⟨t, rfl⟩ := r
    exact ⟨_, .int i t, fun z => nomatch z⟩
  | _, _, _, .str x, r => by
    obtain ⟨t, rfl⟩ := r
    exact ⟨_, .str x t, fun z => nomatch z⟩
  | _, _, _, .lst h n a, r => by
    cases r
    obtain ⟨its, rv, ⟨ob, k, ho, hc, _, hd⟩, _⟩ := I.list h
    obtain ⟨as, ra, na⟩ := dxA_reads I a rv
    refine ⟨_, .list ho hc hd ra, fun z => ?_⟩
    rcases List.mem_cons.mp z with e | e
    · exact n (e ▸ List.mem_cons_self)
    · exact na e
  | _, _, _, .tup h a, r => by
    cases r
    obtain ⟨its, rv, ⟨ob, ho, hc, k, hd⟩, _⟩ := I.tuple h
    obtain ⟨as, ra, na⟩ := dxA_reads I a rv
    exact ⟨_, .tuple ho hc hd ra, na⟩
  | _, _, _, .dct (a := a) e, r => by
    cases r
    obtain ⟨_, y, vs, kv, o, es, ep, ho, hx, hd, _, hp, _⟩ := (show ObjOk X.prog X.w H s.heap a (.dK []) from I.hok a _ e)
    cases kv
    have e0 : es.toList = [] := by
      generalize es.toList = l at hp
      cases hp
      rfl
    refine ⟨_, Reads.dict (kvs := []) ho hx.1 hd (by rw [e0]; exact .nil) (by rw [e0]; exact .nil), fun z => ?_⟩
    have z' : sysModules ∈ [a] := z
    rw [List.mem_singleton.mp z'] at y
    simp at y
theorem dxA_reads (I : Inv X pins σ H s) : ∀ {vs : List V} {ds : List PyData} {us : List Value}, DxAll X.K av H vs ds → Vals vs us → ∃ as, ReadsAll s.heap us ds as ∧ sysModules ∉ as
  | _, _, _, .nil, r => by
    cases r
    exact ⟨_, .nil, fun z => nomatch z⟩
  | _, _, _, .cons h t, r => by
    cases r with
    | cons r1 r2 =>
      obtain ⟨as, q1, n1⟩ := dx_reads I h r1
      obtain ⟨bs, q2, n2⟩ := dxA_reads I t r2
      exact ⟨_, .cons q1 q2, fun z => (List.mem_append.mp z).elim n1 n2⟩
end
/-- repr of such a value that lies in memory -/
def rReprD (K : PySem.W.Frag) (av : List Addr) : List V → Hp → VK → Prop := fun vs H Q => ∃ (a : Addr) (d : PyData), vs = [.ref a] ∧ Dx K av H (.ref a) d ∧ d.showable = true ∧ d.depth ≤ 60 ∧ d.shown.length ≤ sizeLine ∧ Q (.str d.shown) H
theorem call_reprD {X : Cx} (hg : X.A.guards = some []) (hu : X.A.units + 65 < cLine) : CallR X (.builtin "repr") (rReprD X.K av) := by
  intro pn sh σ H vs us Q J rr hh
  obtain ⟨a, d, rfl, hd, hs, hp, hz, q⟩ := hh
  obtain ⟨ua, rfl, ra⟩ := vals1 rr
  cases (show ua = Value.ref a from ra)
  obtain ⟨as, rd, nn⟩ := dx_reads J hd rfl
  exact repr_of_reads' rd hs (fun _ => nn) hg (by omega) (fun _ _ e => e) (fun h' t tk hk => ⟨.str _, H, J.kept hk, ⟨_, rfl⟩, q⟩) hz
end
end Fw
set_option maxHeartbeats 2000000
set_option maxHeartbeats 2000000
set_option maxHeartbeats 2000000
namespace Fw
open PySem PySem.Spec PyProof.Rows L2
/-- the type's name of a value -/
def kindD : PyData → String
  | .none => "NoneType"
  | .bool _ => "bool"
  | .int _ => "int"
  | .str _ => "str"
  | .list _ => "list"
  | .tuple _ => "tuple"
  | .dict _ => "dict"
theorem dx_ty {K : PySem.W.Frag} {av : List Addr} {H : Hp} {v : V} {d : PyData} (h : Dx K av H v d) : TyX K H v (.type (kindD d)) := by
  cases h with
  | non => exact .base .non
  | bl b => exact .base (.bl b)
  | int i => exact .base (.int i)
  | str x => exact .base (.str x)
  | lst h n a =>
    rcases h with (e | ⟨ob, e⟩) | ⟨o, its, n, e, c, _⟩
    · exact .base (.lst e)
    · exact .base (.frz e)
    · exact .kList e c
  | tup h a =>
    rcases h with (e | ⟨ob, e⟩) | ⟨o, its, n, e, c, _⟩
    · exact .base (.tup e)
    · exact .fTuple e
    · exact .kTuple e c
  | dct e => exact .base (.dK e)
/-- the answer of isinstance(v, T) for T among tuple, int, bool, str -/
def isD (T : String) (d : PyData) : Bool := kindD d == T || (T == "int" && kindD d == "bool")
theorem kitD {K : PySem.W.Frag} {T : String} (hT : T ∈ ["tuple", "int", "bool", "str"]) (d : PyData) : PySem.W.kitOne K (.type (kindD d)) (.type T) = some (isD T d) := by
  have key : ∀ k ∈ ["NoneType", "bool", "int", "str", "list", "tuple", "dict"], ∀ T ∈ ["tuple", "int", "bool", "str"], (if (Value.type k == Value.type T) = true then some true else if PySem.W.kitMeta T = true then (fastBuiltinMro k).map (·.contains (Value.type T)) else none) = some (k == T || (T == "int" && k == "bool")) := by
    decide +kernel
  have hk : kindD d ∈ ["NoneType", "bool", "int", "str", "list", "tuple", "dict"] := by cases d <;> simp [kindD]
  exact key _ hk T hT
/-- isinstance(v, T) -/
def rIsD (K : PySem.W.Frag) (av : List Addr) : List V → Hp → VK → Prop := fun xs H Q => ∃ (x : V) (T : String) (d : PyData), xs = [x, .ty T] ∧ T ∈ ["tuple", "int", "bool", "str"] ∧ Dx K av H x d ∧ Q (.bl (isD T d)) H
theorem call_isD {X : Cx} {av : List Addr} : CallR X (.builtin "isinstance") (rIsD X.K av) := by
  intro pn sh σ H xs us Q J rr hh
  obtain ⟨x, T, d, rfl, hT, hd, q⟩ := hh
  exact call_isi pn sh σ H _ us Q J rr ⟨x, .ty T, _, .type T, _, rfl, .ty T, dx_ty hd, kitD hT d, q⟩
end Fw
set_option maxHeartbeats 2000000
namespace Fw
open PySem PySem.Spec PyProof.Rows L2
/-! values of any kind with a bound: the numbers' size, the depth, the bulk -/
mutual
def okI (b : Nat) : PyData → Bool
  | .int i => decide (i.natAbs ≤ 10 ^ 59 + b)
  | .str z => z.cps.toList.all fun c => decide (c < 1114112)
  | .list ds => okIA b ds
  | .tuple ds => okIA b ds
  | .dict kvs => kvs.isEmpty
  | .none => true
  | .bool _ => true
def okIA (b : Nat) : List PyData → Bool
  | [] => true
  | d :: ds => okI b d && okIA b ds
end
mutual
theorem okI_up {a b : Nat} (h : a ≤ b) : ∀ d : PyData, okI a d = true → okI b d = true
  | .int i, z => decide_eq_true (Nat.le_trans (of_decide_eq_true (show decide (i.natAbs ≤ 10 ^ 59 + a) = true from z)) (by omega))
  | .str _, z => z
  | .list ds, z => okIA_up h ds z
  | .tuple ds, z => okIA_up h ds z
  | .dict _, z => z
  | .none, _ => rfl
  | .bool _, _ => rfl
theorem okIA_up {a b : Nat} (h : a ≤ b) : ∀ ds : List PyData, okIA a ds = true → okIA b ds = true
  | [], _ => rfl
  | d :: ds, z => by
    have z : (okI a d && okIA a ds) = true := z
    rw [Bool.and_eq_true] at z
    show (okI b d && okIA b ds) = true
    rw [Bool.and_eq_true]
    exact ⟨okI_up h d z.1, okIA_up h ds z.2⟩
end
structure Gd (b k n : Nat) (d : PyData) : Prop where
  i : okI b d = true
  p : d.depth ≤ k
  w : d.bulk ≤ n
structure GdA (b k n : Nat) (ds : List PyData) : Prop where
  i : okIA b ds = true
  p : PyData.depthAll ds ≤ k
  w : PyData.bulkAll ds ≤ n
theorem Gd.up {a b j k m n : Nat} {d : PyData} (h : Gd a j m d) (h1 : a ≤ b) (h2 : j ≤ k) (h3 : m ≤ n) : Gd b k n d := ⟨okI_up h1 d h.i, Nat.le_trans h.p h2, Nat.le_trans h.w h3⟩
theorem GdA.up {a b j k m n : Nat} {d : List PyData} (h : GdA a j m d) (h1 : a ≤ b) (h2 : j ≤ k) (h3 : m ≤ n) : GdA b k n d := ⟨okIA_up h1 d h.i, Nat.le_trans h.p h2, Nat.le_trans h.w h3⟩
theorem GdA.nil {b k n : Nat} : GdA b k n [] := ⟨rfl, Nat.zero_le _, Nat.zero_le _⟩
theorem GdA.cons {b k m n : Nat} {d : PyData} {ds : List PyData} (h : Gd b k m d) (t : GdA b k n ds) : GdA b k (m + 1 + n) (d :: ds) := by
  refine ⟨?_, ?_, ?_⟩
  · show (okI b d && okIA b ds) = true
    rw [h.i, t.i]; rfl
  · simp only [PyData.depthAll]
    have := h.p; have := t.p; omega
  · simp only [PyData.bulkAll]
    have := h.w; have := t.w; omega
theorem GdA.un {b k n : Nat} {d : PyData} {ds : List PyData} (h : GdA b k n (d :: ds)) : ∃ m l, m + 1 + l ≤ n ∧ Gd b k m d ∧ GdA b k l ds := by
  obtain ⟨h1, h2, h3⟩ := h
  have h1 : (okI b d && okIA b ds) = true := h1
  rw [Bool.and_eq_true] at h1
  simp only [PyData.depthAll] at h2
  simp only [PyData.bulkAll] at h3
  exact ⟨_, _, h3, ⟨h1.1, by omega, Nat.le_refl _⟩, ⟨h1.2, by omega, Nat.le_refl _⟩⟩
theorem GdA.app {b k n : Nat} {ys : List PyData} (t : GdA b k n ys) : ∀ {m : Nat} {xs : List PyData}, GdA b k m xs → GdA b k (m + n) (xs ++ ys)
  | m, [], _ => t.up (Nat.le_refl _) (Nat.le_refl _) (by omega)
  | m, x :: xs, h => by
    obtain ⟨a, l, e, h1, h2⟩ := h.un
    exact (GdA.cons h1 (GdA.app t h2)).up (Nat.le_refl _) (Nat.le_refl _) (by omega)
theorem GdA.split {b k n : Nat} : ∀ {xs ys : List PyData}, GdA b k n (xs ++ ys) → ∃ m l, m + l ≤ n ∧ GdA b k m xs ∧ GdA b k l ys
  | [], ys, h => ⟨0, n, by omega, .nil, h⟩
  | x :: xs, ys, h => by
    obtain ⟨a, l, e, h1, h2⟩ := GdA.un (d := x) (ds := xs ++ ys) h
    obtain ⟨m, r, e2, h3, h4⟩ := h2.split
    exact ⟨a + 1 + m, r, by omega, .cons h1 h3, h4⟩
theorem GdA.at {b k n : Nat} {ds : List PyData} (h : GdA b k n ds) (i : Nat) : ∃ m l, m + l ≤ n ∧ GdA b k m (ds.take i) ∧ GdA b k l (ds.drop i) := by
  have := h
  rw [← List.take_append_drop i ds] at this
  exact this.split
theorem GdA.get {b k : Nat} : ∀ {ds : List PyData} {n : Nat}, GdA b k n ds → ∀ {d : PyData}, d ∈ ds → Gd b k n d
  | x :: xs, n, h, d, m => by
    obtain ⟨a, l, e, h1, h2⟩ := h.un
    rcases List.mem_cons.mp m with rfl | m
    · exact h1.up (Nat.le_refl _) (Nat.le_refl _) (by omega)
    · exact (h2.get m).up (Nat.le_refl _) (Nat.le_refl _) (by omega)
theorem GdA.len {b k : Nat} : ∀ {ds : List PyData} {n : Nat}, GdA b k n ds → ds.length ≤ n
  | [], _, _ => Nat.zero_le _
  | x :: xs, n, h => by
    obtain ⟨a, l, e, h1, h2⟩ := h.un
    have := h2.len
    rw [List.length_cons]
    omega
theorem Gd.tup {b k n : Nat} {ds : List PyData} (h : GdA b k n ds) : Gd b (k + 1) n (.tuple ds) := ⟨h.i, by simp only [PyData.depth]; have := h.p; omega, by simp only [PyData.bulk]; exact h.w⟩
theorem Gd.lst {b k n : Nat} {ds : List PyData} (h : GdA b k n ds) : Gd b (k + 1) n (.list ds) := ⟨h.i, by simp only [PyData.depth]; have := h.p; omega, by simp only [PyData.bulk]; exact h.w⟩
theorem Gd.un {b k n : Nat} {ds : List PyData} (h : Gd b (k + 1) n (.tuple ds)) : GdA b k n ds := ⟨h.i, by have := h.p; simp only [PyData.depth] at this; omega, by have := h.w; simp only [PyData.bulk] at this; exact this⟩
theorem Gd.flat {b n : Nat} {ds : List PyData} (h : Gd b 0 n (.tuple ds)) : False := by
  have := h.p
  simp only [PyData.depth] at this
  omega
/-! slices and sums of tuples whose items are told -/
theorem DxAll.app {K : PySem.W.Frag} {av : List Addr} {H : Hp} : ∀ {xs ys : List V} {ds es : List PyData}, DxAll K av H xs ds → DxAll K av H ys es → DxAll K av H (xs ++ ys) (ds ++ es)
  | _, _, _, _, .nil, t => t
  | _, _, _, _, .cons h r, t => .cons h (r.app t)
theorem DxAll.take {K : PySem.W.Frag} {av : List Addr} {H : Hp} : ∀ {xs : List V} {ds : List PyData} (i : Nat), DxAll K av H xs ds → DxAll K av H (xs.take i) (ds.take i)
  | _, _, 0, _ => by rw [List.take_zero, List.take_zero]; exact .nil
  | _, _, i + 1, .nil => .nil
  | _, _, i + 1, .cons h r => .cons h (r.take i)
theorem DxAll.drop {K : PySem.W.Frag} {av : List Addr} {H : Hp} : ∀ {xs : List V} {ds : List PyData} (i : Nat), DxAll K av H xs ds → DxAll K av H (xs.drop i) (ds.drop i)
  | _, _, 0, h => h
  | _, _, i + 1, .nil => .nil
  | _, _, i + 1, .cons h r => r.drop i
theorem DxAll.len {K : PySem.W.Frag} {av : List Addr} {H : Hp} : ∀ {xs : List V} {ds : List PyData}, DxAll K av H xs ds → xs.length = ds.length
  | _, _, .nil => rfl
  | _, _, .cons _ r => congrArg (· + 1) r.len
theorem DxAll.at {K : PySem.W.Frag} {av : List Addr} {H : Hp} : ∀ {xs : List V} {ds : List PyData}, DxAll K av H xs ds → ∀ {i : Nat} {x : V}, xs[i]? = some x → ∃ d, ds[i]? = some d ∧ Dx K av H x d
  | _, _, .cons h r, 0, x, e => by cases e; exact ⟨_, rfl, h⟩
  | _, _, .cons h r, i + 1, x, e => r.at e
section
variable {X : Cx}
/-- t[lo:hi]: some tuple with those items -/
def rSlS (K : PySem.W.Frag) : V → Option Int → Option Int → Hp → VK → Prop := fun x lo hi H Q => ∃ a xs, x = .ref a ∧ SqT K H a xs ∧ ∀ H' p, Same H H' → SqT K H' p (cutV xs lo hi) → Q (.ref p) H'
theorem cut_whole {xs : List V} {lo hi : Option Int} (h1 : HT.sIx xs.length 0 lo = 0) (h2 : HT.sIx xs.length xs.length hi = xs.length) : cutV xs lo hi = xs := by
  unfold cutV
  rw [h1, h2, List.drop_zero, Nat.sub_zero, List.take_length]
theorem sl_tupS : SlR X (rSlS X.K) := by
  intro pins s σ H x v vl vu lo hi sl Q I rx hs pl pu h
  obtain ⟨a, xs, rfl, hx, q⟩ := h
  refine sl_tupA pins s σ H _ v vl vu lo hi sl Q I rx hs pl pu ⟨a, xs, rfl, hx, fun w => q H a (Same.refl _) ?_, fun _ p hp => q _ p (same_upd hp) (SqT.of upd_same)⟩
  rw [cut_whole w.1 w.2]
  exact hx
end
end Fw
set_option maxHeartbeats 2000000
namespace Fw
open PySem PySem.Spec PyProof.Rows L2
/-- what the written part says of one of the error classes -/
structure EC (K : PySem.W.Frag) (C : Addr) : Prop where
  o : OexC K C
  x : XfC K C
  cl : (PySem.W.clsIn K C).isSome = true
  ofc : PySem.W.findIn K (.ref C) "__class__" = some (some (.builtin "object.__class__"))
  sp : PySem.W.specialIn K (.builtin "object.__class__") "__get__" = some (some (.builtin "getset_descriptor.__get__"))
  tk : PySem.W.takesIn K (.builtin "object.__class__") = some true
  mo : PySem.W.mroIn K C (.type "object") = some true
section
variable {X : Cx} {e : Expr} {es : List Expr} {ta : TA} {p pos : Pos}
/-- l.count(True), l a list of bools -/
def rCntB (K : PySem.W.Frag) : V → List V → Hp → VK → Prop := fun x xs H Q => ∃ (p : Addr) (bs : List Bool), x = .ref p ∧ xs = [.bl true] ∧ SqL K H p (bs.map V.bl) ∧ Q (.int ((bs.count true : Nat) : Int)) H
def isT : Value → Bool
  | .bool b => b
  | _ => false
theorem mt_countB : MtR X "list.count" (rCntB X.K) := by
  intro pn s σ H x xs v us Q I rx rys hx
  obtain ⟨p, bs, rfl, rfl, hs, q⟩ := hx
  cases rx
  obtain ⟨ut, rfl, rt⟩ := rys.one
  cases (show ut = Value.bool true from rt)
  obtain ⟨its, rv, ⟨⟨oc, dd, od, sl⟩, n, ho, hc, _, hd⟩, _⟩ := I.list hs
  simp only at hc hd
  subst hc hd
  have all : ∀ {bs : List Bool} {us : List Value}, Vals (bs.map V.bl) us → (∀ y ∈ us, ∃ b, y = Value.bool b) ∧ us.countP isT = bs.count true := by
    intro bs
    induction bs with
    | nil => intro us r; cases r; exact ⟨fun y hy => (by cases hy), rfl⟩
    | cons b bs ih =>
      intro us r
      cases r with
      | cons r rr =>
        obtain ⟨h1, h2⟩ := ih rr
        have e := (show _ = Value.bool b from r)
        subst e
        refine ⟨fun y hy => ?_, ?_⟩
        · rcases List.mem_cons.mp hy with e | e
          · exact ⟨b, e⟩
          · exact h1 y e
        · rw [List.countP_cons, List.count_cons, h2]
          cases b <;> rfl
  obtain ⟨h1, h2⟩ := all rv
  refine call_meets PySem.F.slot_list_count ⟨_, ho, rfl⟩ PySem.F.entry_list_count (PySem.F.args_list_count_2 _ _) (SeqAt.list_countAt p its.toArray n dd sl (.bool true) isT) ⟨ho, fun y hy => ?_, ?_⟩
  · obtain ⟨b, rfl⟩ := h1 y (by simpa using hy)
    have := SeqAt.EqAt.bool_bool (A := X.A.in1) (s := s) b true
    rw [show (b == true) = isT (.bool b) by cases b <;> rfl] at this
    exact this
  · refine ⟨.int ((bs.count true : Nat) : Int), H, I.tok _, ⟨s.toks, ?_⟩, q⟩
    show Value.int ((its.toArray.toList.countP isT : Nat) : Int) s.toks = _
    rw [← h2]
end
end Fw
set_option maxHeartbeats 2000000
namespace Fw
open PySem PySem.Spec PyProof.Rows L2
/-- the classes above an error class, without itself -/
abbrev above (E : Addr) : List Value := [.ref E, .type "ValueError", .type "Exception", .type "BaseException", .type "object"]
/-- an error class by its place, with its __init__ -/
structure CF (K : PySem.W.Frag) (mg : Str → Option Value) (x : Str) (q : Str) (st : Stmt) (ps : List Str) (E C : Addr) (f : Addr) (fd : FuncData) : Prop where
  e : EC K C
  g : mg x = some (.ref C)
  mro : ∃ cd, PySem.W.clsIn K C = some cd ∧ cd.mro = .ref C :: above E
  i : PySem.W.findIn K (.ref C) "__init__" = some (some (.ref f))
  t : PySem.W.typeIn K (.ref f) = some (.type "function")
  F : Fun K "__init__" q st f fd
  b : Binds K fd ps []
theorem cf_mk {K : PySem.W.Frag} {h : Heap} {mg : Str → Option Value} {x q : Str} {st : Stmt} {ps : List Str} {E C f : Addr}
    {nm qn : Str} {N : Addr} {bs : List Value} {sn : List Str} {sub : List Value} {ab : Bool} {col : Option Bool} {dd : Option Addr} {m0 m1 m2 m3 m5 : Option Value}
    {od an : Option Addr} {sl : Array (Option Value)} {oc kV dc pm cd ct : Value} (X : K.In h) (G : h.Ns mainGlobals mg)
    (hb : ∀ fd, Fun K "__init__" q st f fd → Binds K fd ps [])
    (aC : PySem.W.nsIn K mainGlobals x = some (some (.ref C)))
    (xL : K.lookup C = some (excClassObj nm qn C N bs (above E) true sn sub ab col dd m0 m1 m2 m3 m5 "ValueError.__new__"))
    (sa : PySem.W.findIn K (.ref C) "__setattr__" = some (some (.builtin "object.__setattr__"))) (ga : PySem.W.findIn K (.ref C) "__getattribute__" = some (some (.builtin "BaseException.__getattribute__"))) (gg : PySem.W.findIn K (.ref C) "__getattr__" = some none)
    (a1 : PySem.W.findIn K (.ref C) "__init__" = some (some (.ref f))) (t1 : PySem.W.typeIn K (.ref f) = some (.type "function"))
    (l1 : K.lookup f = some ⟨oc, od, .func (PySem.W.fnOf "__init__" q (defArgs st) (defBody st) (defScope st) .none kV dc pm an cd ct), sl⟩) (c1 : PySem.W.codeIn K cd q = true) (k1 : PySem.W.keepIn K (.ref f) = true)
    (kC : PySem.W.keepIn K (.ref C) = true) (tC : PySem.W.typeIn K (.ref C) = some (.type "type")) (hC : PySem.W.hasDictIn K C = true)
    (ca : PySem.W.findIn K (.ref C) "__class__" = some (some (.builtin "object.__class__")))
    (sp : PySem.W.specialIn K (.builtin "object.__class__") "__get__" = some (some (.builtin "getset_descriptor.__get__"))) (tk : PySem.W.takesIn K (.builtin "object.__class__") = some true) :
    ∃ fd, CF K mg x q st ps E C f fd := by
  have cl : PySem.W.clsIn K C = some { name := nm, bases := bs, mro := .ref C :: above E, ns := N, qualname := qn, hasDict := true, slotNames := sn, subclasses := sub, abstract := ab, collection := col, hasDel := false } := by
    unfold PySem.W.clsIn
    rw [xL]
  have mr : ∀ v, PySem.W.mroIn K C v = some ((Value.ref C :: above E).contains v) := fun v => by
    unfold PySem.W.mroIn
    rw [cl]
    rfl
  have exC : PySem.W.subIn K (.ref C) (.type "BaseException") = some true := (mr _).trans rfl
  have F1 := fun_mk (st := st) l1 c1 k1
  refine ⟨_, ⟨⟨⟨nm, qn, N, bs, _, sn, sub, ab, col, dd, m0, m1, m2, m3, m5, xL, rfl⟩, sa, exC, tC, kC⟩, ⟨ga, gg, exC, hC⟩, by rw [cl]; rfl, ca, sp, tk, (mr _).trans rfl⟩, PySem.W.mg_of X G aC, ⟨_, cl, rfl⟩, a1, t1, F1, hb _ F1⟩
end Fw
set_option maxHeartbeats 2000000
namespace Fw
open PySem PySem.Spec PyProof.Rows L2
/-- what the __init__ of an error with a field does -/
def spIniF (f : Str) (C : Addr) : Sp := fun vs H Q _ => ∃ (a : Addr) (v : V), vs = [.ref a, v] ∧ H a = some (exo a C none) ∧ ∀ dx, H dx = none → dx ≠ a → Q .non (upd (upd H dx (exd dx [(f, v)])) a (exo a C (some dx)))
/-- an error class that can be raised, by its name -/
structure ErR (P : Program) (w : World) (K : PySem.W.Frag) (mg : Str → Option Value) (base : Heap) (x fld : Str) (E C : Addr) : Prop where
  e : EC K C
  g : mg x = some (.ref C)
  mro : ∃ cd, PySem.W.clsIn K C = some cd ∧ cd.mro = .ref C :: above E
  no : PySem.W.findIn K (.ref C) fld = some none
  i : ∃ f fd, PySem.W.findIn K (.ref C) "__init__" = some (some (.ref f)) ∧ PySem.W.typeIn K (.ref f) = some (.type "function") ∧ Binds K fd ["self", fld] [] ∧ FnOk P w K mg base CX0 1 f fd ["self", fld] (spIniF fld C)
/-! ### except among the errors -/
theorem exm_ref {K : PySem.W.Frag} {D E C : Addr} (hm : ∃ cd, PySem.W.clsIn K D = some cd ∧ cd.mro = .ref D :: above E) (e : EC K C) : PySem.W.exmOne K (.ref D) (.ref C) = some (decide (C = D ∨ C = E)) := by
  obtain ⟨cd, h1, h2⟩ := hm
  unfold PySem.W.exmOne
  rw [if_pos (by rw [e.o.exC]; rfl)]
  unfold PySem.W.kitCls
  simp only [e.cl, e.o.tyC]
  rw [if_pos (by rfl)]
  show PySem.W.mroIn K D (.ref C) = _
  unfold PySem.W.mroIn
  rw [h1]
  show (if cd.mro.isEmpty then none else some (cd.mro.contains (.ref C))) = _
  rw [h2]
  show some ((Value.ref D :: above E).contains (.ref C)) = _
  by_cases e1 : C = D <;> by_cases e2 : C = E <;> simp [e1, e2]
/-! ### raise -/
theorem raise_end {fld : Str} {C : Addr} {v : V} {H1 : Hp} {Q : XK} (q : ∀ d H', Same H1 H' → H' d = some (.xd [(fld, v)]) → Q (.ref C) (some d) H') : ([v] : List V).length ≤ 1000 ∧ ∀ a, H1 a = none → spIniF fld C (.ref a :: ([v] ++ [])) (upd H1 a (exo a C none))
    (fun v H2 => v = .non ∧ ∃ (d : Addr) (fs : List (Str × V)), H2 a = some (exo a C (some d)) ∧ H2 d = some (exd d fs) ∧ H1 d = none ∧ Q (.ref C) (some d) (upd (del H2 a) d (.xd fs))) (fun _ _ _ => False) := by
  refine ⟨by show 1 ≤ 1000; decide, fun a ha => ⟨a, v, rfl, upd_same, fun dx h1 h2 => ?_⟩⟩
  have hd : H1 dx = none := by rw [← h1, upd_ne h2]
  refine ⟨rfl, dx, _, upd_same, (upd_ne h2).trans upd_same, hd, q _ _ (fun b o e => ?_) upd_same⟩
  have n1 : b ≠ a := ne_of_none e ha
  have n2 : b ≠ dx := ne_of_none e hd
  rw [upd_ne n2, del_ne n1, upd_ne n1, upd_ne n2, upd_ne n1]
  exact e
theorem pmk_er {X : Cx} {x fld : Str} {E C : Addr} {k : Nat} {p pos : Pos} {e : Expr} {te : TE} (R : ErR X.prog X.w X.K X.mg X.base x fld E C) (hr : Room (k + 2) X.A) (hg : Gl X x) (he : PE X e te) (hdb : (x == ("__debug__" : Str)) = false := by decide)
    (h1 : starEach [e] X.env = (false, eval e X.env) :: starEach [] X.env := by rfl) (h2 : (backTo pos (starEach [] X.env)).any (·.1) = false := by rfl) : PMk X (.Call (.Name x p) [e] [] pos) (tMkO C (spIniF fld C) [] (tCons te tNil)) := by
  obtain ⟨f, fd, a, b, c, d⟩ := R.i
  exact pmk_oex R.e.o a b (d.mono (Nat.le_add_left 1 k)) hr c .nil pass0 hg R.g (pa_cons he pa_nil (hs := h1)) hdb h1 h2
/-! ### a def that may raise, by its name -/
def CalX (P : Program) (w : World) (K : PySem.W.Frag) (mg : Str → Option Value) (base : Heap) (k : Nat) (x : Str) (ps : List Str) (sp : Sp) : Prop :=
  ∃ f fd, mg x = some (.ref f) ∧ PySem.W.keepIn K (.ref f) = true ∧ Binds K fd ps [] ∧ FnOk P w K mg base (L2.CX P w) k f fd ps sp
theorem DefE.calX {P : Program} {w : World} {K : PySem.W.Frag} {mg : Str → Option Value} {base : Heap} {x : Str} {st : Stmt} {ps : List Str} {k : Nat} {sp : Sp} (D : DefE K mg x st ps) (h : ∀ f fd, Def K mg x st f fd ps → FnOk P w K mg base (L2.CX P w) k f fd ps sp) : CalX P w K mg base k x ps sp := by
  obtain ⟨f, fd, d⟩ := D
  exact ⟨f, fd, d.g, d.F.kp, d.b, h f fd d⟩
theorem pe_calX {X : Cx} {W : WX} {k : Nat} {ps : List Str} {sp : Sp} {x : Str} {p pos : Pos} {e : Expr} {es : List Expr} {t : TA} (C : CalX X.prog X.w X.K X.mg X.base k x ps sp) (tk : Takes X W) (hr : Room k X.A) (hg : Gl X x) (ha : PA X (e :: es) t) (hdb : (x == ("__debug__" : Str)) = false := by decide)
    (h1 : starEach (e :: es) X.env = (false, eval e X.env) :: starEach es X.env := by rfl) (h2 : (backTo pos (starEach es X.env)).any (·.1) = false := by rfl) : PE X (.Call (.Name x p) (e :: es) [] pos) (tCallS sp (WE W) t) := by
  obtain ⟨f, fd, a, b, c, d⟩ := C
  exact pe_callS d hr hg a b c (fun σ => passAt tk σ) ha hdb h1 h2
/-! ### an exception that has landed, and the state around it -/
structure Air (X : Cx) (pins : List (Addr × Obj)) (B : Heap) (a : Addr) (cls : Value) (d : Option Addr) (σ : L2.St) (H : Hp) (z : Shared) : Prop where
  ex : ∃ g : Shared, Inv X pins σ H g ∧ (∀ b o, g.heap.get? b = some o → b ∉ frs X.stack → B.get? b = some o) ∧ g.heap.UpToSlots z.heap ∧ z.os = g.os
  fly : HandSPX.FlyingZ B (X.env :: X.outer) a (Zc cls d) z.heap
  free : H a = none
  bare : AllBare z.gens
section
variable {X : Cx} {pins : List (Addr × Obj)} {B : Heap} {a : Addr} {cls : Value} {d : Option Addr} {σ : L2.St} {H : Hp} {z : Shared}
theorem Air.inv (x : Air X pins B a cls d σ H z) : Inv X pins σ H z := by
  obtain ⟨g, i, k, u, o⟩ := x.ex
  exact i.landed k x.fly.1 u o x.bare
theorem Air.step {h' : Heap} (x : Air X pins B a cls d σ H z) (f : HandSPX.FlyingZ B (X.env :: X.outer) a (Zc cls d) h') (u : z.heap.UpToSlots h') : Air X pins B a cls d σ H { z with heap := h' } := by
  obtain ⟨g, i, k, u0, o⟩ := x.ex
  exact ⟨⟨g, i, k, u0.trans u, o⟩, f, x.free, x.bare⟩
theorem Air.push (x : Air X pins B a cls d σ H z) (o : Obj) : Air X pins B a cls d σ H { z with heap := z.heap.push o } := by
  have up : ∀ b q, z.heap.get? b = some q → (z.heap.push o).get? b = some q := fun b q e => Heap.get?_push_of_some _ e
  obtain ⟨c1, c2, c3, ob, fs, tb, ot, us, g1, g2, g3, g4, g5, g6, g7, g8, g9⟩ := x.fly
  exact x.step ⟨fun b q e => up b q (c1 b q e), c2, c3.of_keeps fun b q e _ => ⟨q, up b q e, rfl⟩, ob, fs, tb, ot, us, up _ _ g1, g2, g3, g4, g5, g6, up _ _ g7, g8, g9⟩ (Heap.UpToSlots.of_keeps up)
theorem Air.hold (x : Air X pins B a cls d σ H z) (fr : X.env.frame = some X.env.locals) : ∃ oe, z.heap.get? a = some oe ∧ Zc cls d oe ∧ (∃ vs, oe.data = .fields vs) ∧ Inv (X.suite a ((a, oe) :: (X.pn ++ pins))) [] σ H z := by
  obtain ⟨oe, fs, at0, zc, fd⟩ := x.fly.there
  have off : ∀ v : Env, v ∈ X.env :: X.outer → v.frame ≠ some a := by
    intro v mv ev
    obtain ⟨_, ob, at1, plain⟩ := x.fly.2.2.1.mem (List.mem_filterMap.2 ⟨v, mv, ev⟩)
    cases Option.some.inj (at0.symm.trans at1)
    exact plain fs fd
  refine ⟨oe, at0, zc, ⟨fs, fd⟩, x.inv.suite at0 fd x.free ?_ ?_⟩
  · intro same
    exact off X.env (.head _) (by rw [fr, same])
  · intro inFs
    obtain ⟨v, mv, ev⟩ := List.mem_filterMap.1 inFs
    exact off v (.tail _ mv) ev
/-- a class of the text, or a builtin one, by its name in a clause -/
theorem Air.name {x : Str} {c : Value} {p : Pos} {Q : Value → Shared → Prop} {E : Value → Shared → Prop} (y : Air X pins B a cls d σ H z) (fr : X.env.frame = some X.env.locals) (nm : L2.Names X x c) (h : Q c z) : wpAny (model X.prog X.w) (X.A.mark (some (.ref a))) (eval (.Name x p) X.env) Q E z := by
  obtain ⟨oe, _, _, _, J⟩ := y.hold fr
  obtain ⟨gl, nd, own | ⟨out, blt, nn⟩⟩ := nm
  · exact ld_glob J gl own h nd
  · exact ld_blt J gl out blt h nn nd
end
/-! ### try: .. except (A, B): .. , where it surely is one of the two -/
end Fw
namespace Fw
open PySem PySem.Spec PyProof.Rows L2
/-! a def that may raise, where it does not -/
section
variable {P : Program} {w : World} {K : PySem.W.Frag} {mg : Str → Option Value} {base : Heap}
theorem CalX.up {x : Str} {ps : List Str} {j k : Nat} {sp : Sp} (C : CalX P w K mg base j x ps sp) (h : j ≤ k) : CalX P w K mg base k x ps sp := by
  obtain ⟨f, fd, a, b, c, F⟩ := C
  exact ⟨f, fd, a, b, c, F.mono h⟩
end
end Fw
set_option maxHeartbeats 2000000
namespace Fw
open PySem PySem.Spec PyProof.Rows L2
/-- the class above all errors -/
structure HE (K : PySem.W.Frag) (mg : Str → Option Value) (E : Addr) : Prop where
  g : mg "HouseError" = some (.ref E)
  ex : PySem.W.subIn K (.ref E) (.type "BaseException") = some true
  cl : (PySem.W.clsIn K E).isSome = true
  ty : PySem.W.typeIn K (.ref E) = some (.type "type")
  m : (PySem.W.clsIn K E).map (·.mro) = some (above E)
/-- an error class of the text with one field, below E -/
def CEE (K : PySem.W.Frag) (mg : Str → Option Value) (E : Addr) (x q fld : Str) (st : Stmt) : Prop := ∃ C f fd, CF K mg x q st ["self", fld] E C f fd ∧ PySem.W.findIn K (.ref C) fld = some none
abbrev Mro (K : PySem.W.Frag) (E D : Addr) : Prop := ∃ cd, PySem.W.clsIn K D = some cd ∧ cd.mro = .ref D :: above E
theorem he_mk {K : PySem.W.Frag} {h : Heap} {mg : Str → Option Value} {E : Addr} {nm qn : Str} {N : Addr} {bs : List Value} {sn : List Str} {sub : List Value} {ab : Bool} {col : Option Bool} {dd : Option Addr} {m0 m1 m2 m3 m5 : Option Value} (X : K.In h) (G : h.Ns mainGlobals mg)
    (aE : PySem.W.nsIn K mainGlobals "HouseError" = some (some (.ref E))) (ex : PySem.W.subIn K (.ref E) (.type "BaseException") = some true)
    (xL : K.lookup E = some (excClassObj nm qn E N bs [.type "ValueError", .type "Exception", .type "BaseException", .type "object"] true sn sub ab col dd m0 m1 m2 m3 m5 "ValueError.__new__")) (ty : PySem.W.typeIn K (.ref E) = some (.type "type")) : HE K mg E := by
  have cl : ∃ cd, PySem.W.clsIn K E = some cd ∧ cd.mro = above E := by
    unfold PySem.W.clsIn
    rw [xL]
    exact ⟨_, rfl, rfl⟩
  obtain ⟨cd, h1, h2⟩ := cl
  exact ⟨PySem.W.mg_of X G aE, ex, by rw [h1]; rfl, ty, by rw [h1, ← h2]; rfl⟩
theorem HE.ne {K : PySem.W.Frag} {mg : Str → Option Value} {E C : Addr} (h : HE K mg E) (c : Mro K E C) : C ≠ E := fun e => by
  obtain ⟨cd, h1, h2⟩ := c
  have := h.m
  rw [← e, h1] at this
  simp only [Option.map_some, Option.some.injEq] at this
  rw [h2] at this
  have := congrArg List.length this
  cases this
theorem kitR {K : PySem.W.Frag} {D E C : Addr} (hm : Mro K E D) (hC : (PySem.W.clsIn K C).isSome = true) (tC : PySem.W.typeIn K (.ref C) = some (.type "type")) : PySem.W.kitOne K (.ref D) (.ref C) = some (decide (C = D ∨ C = E)) := by
  obtain ⟨cd, h1, h2⟩ := hm
  unfold PySem.W.kitOne
  by_cases e : D = C
  · rw [if_pos (by rw [e]; exact beq_self_eq_true _)]
    simp [e]
  · rw [if_neg (by simpa using e)]
    unfold PySem.W.kitCls
    simp only [hC, tC]
    rw [if_pos (by rfl)]
    show PySem.W.mroIn K D (.ref C) = _
    unfold PySem.W.mroIn
    rw [h1]
    show (if cd.mro.isEmpty then none else some (cd.mro.contains (.ref C))) = _
    rw [h2]
    show some ((Value.ref D :: above E).contains (.ref C)) = _
    have e' : C ≠ D := fun z => e z.symm
    by_cases e2 : C = E <;> simp [e', e2]
theorem kitVE {K : PySem.W.Frag} {D E : Addr} (hm : Mro K E D) : PySem.W.kitOne K (.ref D) (.type "ValueError") = some true := by
  obtain ⟨cd, h1, h2⟩ := hm
  unfold PySem.W.kitOne
  rw [if_neg (by simp)]
  unfold PySem.W.kitCls
  simp only []
  rw [if_pos (by decide +kernel)]
  show PySem.W.mroIn K D (.type "ValueError") = _
  unfold PySem.W.mroIn
  rw [h1]
  show (if cd.mro.isEmpty then none else some (cd.mro.contains _)) = _
  rw [h2]
  show some ((Value.ref D :: above E).contains _) = _
  simp
/-- none of them -/
theorem kit_none {K : PySem.W.Frag} {t : Value} : ∀ {cs : List Value}, (∀ c ∈ cs, PySem.W.kitOne K t c = some false) → PySem.W.kitAny K t cs = some false
  | [], _ => rfl
  | c :: cs, h => by
    unfold PySem.W.kitAny
    rw [h c (List.mem_cons_self ..)]
    exact kit_none fun x hx => h x (List.mem_cons_of_mem _ hx)
/-- isinstance of the exception that a suite holds -/
structure HeldX (K : PySem.W.Frag) (cls : Value) (d : Option Addr) (D : Addr) (H : Hp) : Prop where
  c : cls = .ref D
  e : EC K D
  x : ∀ dx, d = some dx → ∃ fs, H dx = some (.xd fs)
def rIsC (K : PySem.W.Frag) (a : Addr) (cls : Value) (d : Option Addr) : List V → Hp → VK → Prop := fun xs H Q => ∃ (D : Addr) (c : V) (cv : Value) (b : Bool), xs = [.ref a, c] ∧ HeldX K cls d D H ∧ ClsV c cv ∧ PySem.W.kitOne K (.ref D) cv = some b ∧ Q (.bl b) H
def rIsT (K : PySem.W.Frag) (a : Addr) (cls : Value) (d : Option Addr) : List V → Hp → VK → Prop := fun xs H Q => ∃ (D t : Addr) (cs : List V) (cvs : List Value) (b : Bool), xs = [.ref a, .ref t] ∧ HeldX K cls d D H ∧ SqT K H t cs ∧ (∀ us, Vals cs us → us = cvs) ∧ PySem.W.kitAny K (.ref D) cvs = some b ∧ Q (.bl b) H
/-- two classes of unlike names are not one -/
theorem CF.ne {K : PySem.W.Frag} {mg : Str → Option Value} {x y q1 q2 : Str} {s1 s2 : Stmt} {p1 p2 : List Str} {E C1 C2 f1 f2 : Addr} {d1 d2 : FuncData} (a : CF K mg x q1 s1 p1 E C1 f1 d1) (b : CF K mg y q2 s2 p2 E C2 f2 d2) (n : q1 ≠ q2) : C1 ≠ C2 := fun e => by
  subst e
  have ef : f1 = f2 := by
    have := a.i.symm.trans b.i
    cases this
    rfl
  subst ef
  obtain ⟨oc, od, kV, doc, pm, an, c, ct, osl, rfl, l1, _⟩ := a.F.ex
  obtain ⟨oc', od', kV', doc', pm', an', c', ct', osl', rfl, l2, _⟩ := b.F.ex
  rw [l1] at l2
  simp only [Option.some.injEq, Obj.mk.injEq, Data.func.injEq] at l2
  exact n (by have := congrArg (·.qualname) l2.2.2.1; exact this)
end Fw
set_option maxHeartbeats 2000000
namespace Fw
open PySem PySem.Spec PyProof.Rows L2
/-- an error class that can be raised, with all that is told of it -/
structure Er1 (P : Program) (w : World) (K : PySem.W.Frag) (mg : Str → Option Value) (base : Heap) (x q fld : Str) (E C : Addr) : Prop where
  r : ErR P w K mg base x fld E C
  c : ∃ st f fd, CF K mg x q st ["self", fld] E C f fd
theorem Er1.ne {P : Program} {w : World} {K : PySem.W.Frag} {mg : Str → Option Value} {base : Heap} {x y q1 q2 f1 f2 : Str} {E C1 C2 : Addr} (a : Er1 P w K mg base x q1 f1 E C1) (b : Er1 P w K mg base y q2 f2 E C2) (n : q1 ≠ q2) : C1 ≠ C2 := by
  obtain ⟨_, _, _, a⟩ := a.c
  obtain ⟨_, _, _, b⟩ := b.c
  exact a.ne b n
/-- e of class C is no D -/
theorem Er1.isnt {P : Program} {w : World} {K : PySem.W.Frag} {mg : Str → Option Value} {base : Heap} {x y q1 q2 f1 f2 : Str} {E C1 C2 : Addr} (a : Er1 P w K mg base x q1 f1 E C1) (b : Er1 P w K mg base y q2 f2 E C2) (h : HE K mg E) (n : q1 ≠ q2) : PySem.W.kitOne K (.ref C1) (.ref C2) = some false := by
  rw [kitR a.r.mro b.r.e.cl b.r.e.o.tyC, decide_eq_false]
  rintro (e | e)
  · exact a.ne b n e.symm
  · exact h.ne b.r.mro e
theorem Er1.is {P : Program} {w : World} {K : PySem.W.Frag} {mg : Str → Option Value} {base : Heap} {x q1 f1 : Str} {E C1 : Addr} (a : Er1 P w K mg base x q1 f1 E C1) : PySem.W.kitOne K (.ref C1) (.ref C1) = some true := by
  rw [kitR a.r.mro a.r.e.cl a.r.e.o.tyC, decide_eq_true (.inl rfl)]
section
variable {P : Program} {w : World} {K : PySem.W.Frag} {mg : Str → Option Value} {base : Heap} {E : Addr}
theorem HE.names {X : Cx} {E : Addr} (h : HE X.K X.mg E) (g : Gl X "HouseError") : L2.Names X "HouseError" (.ref E) := ⟨g, by decide, .inl h.g⟩
theorem er1_UnknownPerson (c : CEE K mg E "UnknownPerson" "UnknownPerson.__init__" "name" iUnknownPerson) : ∃ C, Er1 P w K mg base "UnknownPerson" "UnknownPerson.__init__" "name" E C := by
  obtain ⟨C, f, fd, c, no⟩ := c
  refine ⟨C, ⟨c.e, c.g, c.mro, no, f, fd, c.i, c.t, c.b, ?_⟩, _, _, _, c⟩
  refine Fun.ok c.F (N := ["self", "name"]) ⟨rfl, rfl, rfl, by decide +kernel, rfl, by decide +kernel, by decide +kernel⟩ (fun vs H Q E h => ?_) (fun cdv A outer s H vs Q E hr h => ?_)
  · obtain ⟨a, v, rfl, _⟩ := h
    rfl
  · obtain ⟨a, v, rfl, ea, q⟩ := h
    exact ⟨_, pss_one (ps_ost (pv 0) (pv 1)), _, rfl, _, rfl, a, C, rfl, c.e.o, no, .inl ⟨ea, q⟩⟩
theorem er1_InvalidRoom (c : CEE K mg E "InvalidRoom" "InvalidRoom.__init__" "room" iInvalidRoom) : ∃ C, Er1 P w K mg base "InvalidRoom" "InvalidRoom.__init__" "room" E C := by
  obtain ⟨C, f, fd, c, no⟩ := c
  refine ⟨C, ⟨c.e, c.g, c.mro, no, f, fd, c.i, c.t, c.b, ?_⟩, _, _, _, c⟩
  refine Fun.ok c.F (N := ["self", "room"]) ⟨rfl, rfl, rfl, by decide +kernel, rfl, by decide +kernel, by decide +kernel⟩ (fun vs H Q E h => ?_) (fun cdv A outer s H vs Q E hr h => ?_)
  · obtain ⟨a, v, rfl, _⟩ := h
    rfl
  · obtain ⟨a, v, rfl, ea, q⟩ := h
    exact ⟨_, pss_one (ps_ost (pv 0) (pv 1)), _, rfl, _, rfl, a, C, rfl, c.e.o, no, .inl ⟨ea, q⟩⟩
theorem er1_NotAdjacent (c : CEE K mg E "NotAdjacent" "NotAdjacent.__init__" "room" iNotAdjacent) : ∃ C, Er1 P w K mg base "NotAdjacent" "NotAdjacent.__init__" "room" E C := by
  obtain ⟨C, f, fd, c, no⟩ := c
  refine ⟨C, ⟨c.e, c.g, c.mro, no, f, fd, c.i, c.t, c.b, ?_⟩, _, _, _, c⟩
  refine Fun.ok c.F (N := ["self", "room"]) ⟨rfl, rfl, rfl, by decide +kernel, rfl, by decide +kernel, by decide +kernel⟩ (fun vs H Q E h => ?_) (fun cdv A outer s H vs Q E hr h => ?_)
  · obtain ⟨a, v, rfl, _⟩ := h
    rfl
  · obtain ⟨a, v, rfl, ea, q⟩ := h
    exact ⟨_, pss_one (ps_ost (pv 0) (pv 1)), _, rfl, _, rfl, a, C, rfl, c.e.o, no, .inl ⟨ea, q⟩⟩
theorem er1_EmptyRoom (c : CEE K mg E "EmptyRoom" "EmptyRoom.__init__" "room" iEmptyRoom) : ∃ C, Er1 P w K mg base "EmptyRoom" "EmptyRoom.__init__" "room" E C := by
  obtain ⟨C, f, fd, c, no⟩ := c
  refine ⟨C, ⟨c.e, c.g, c.mro, no, f, fd, c.i, c.t, c.b, ?_⟩, _, _, _, c⟩
  refine Fun.ok c.F (N := ["self", "room"]) ⟨rfl, rfl, rfl, by decide +kernel, rfl, by decide +kernel, by decide +kernel⟩ (fun vs H Q E h => ?_) (fun cdv A outer s H vs Q E hr h => ?_)
  · obtain ⟨a, v, rfl, _⟩ := h
    rfl
  · obtain ⟨a, v, rfl, ea, q⟩ := h
    exact ⟨_, pss_one (ps_ost (pv 0) (pv 1)), _, rfl, _, rfl, a, C, rfl, c.e.o, no, .inl ⟨ea, q⟩⟩
theorem er1_InvalidMoves (c : CEE K mg E "InvalidMoves" "InvalidMoves.__init__" "position" iInvalidMoves) : ∃ C, Er1 P w K mg base "InvalidMoves" "InvalidMoves.__init__" "position" E C := by
  obtain ⟨C, f, fd, c, no⟩ := c
  refine ⟨C, ⟨c.e, c.g, c.mro, no, f, fd, c.i, c.t, c.b, ?_⟩, _, _, _, c⟩
  refine Fun.ok c.F (N := ["self", "position"]) ⟨rfl, rfl, rfl, by decide +kernel, rfl, by decide +kernel, by decide +kernel⟩ (fun vs H Q E h => ?_) (fun cdv A outer s H vs Q E hr h => ?_)
  · obtain ⟨a, v, rfl, _⟩ := h
    rfl
  · obtain ⟨a, v, rfl, ea, q⟩ := h
    exact ⟨_, pss_one (ps_ost (pv 0) (pv 1)), _, rfl, _, rfl, a, C, rfl, c.e.o, no, .inl ⟨ea, q⟩⟩
theorem er1_OtherRegion (c : CEE K mg E "OtherRegion" "OtherRegion.__init__" "room" iOtherRegion) : ∃ C, Er1 P w K mg base "OtherRegion" "OtherRegion.__init__" "room" E C := by
  obtain ⟨C, f, fd, c, no⟩ := c
  refine ⟨C, ⟨c.e, c.g, c.mro, no, f, fd, c.i, c.t, c.b, ?_⟩, _, _, _, c⟩
  refine Fun.ok c.F (N := ["self", "room"]) ⟨rfl, rfl, rfl, by decide +kernel, rfl, by decide +kernel, by decide +kernel⟩ (fun vs H Q E h => ?_) (fun cdv A outer s H vs Q E hr h => ?_)
  · obtain ⟨a, v, rfl, _⟩ := h
    rfl
  · obtain ⟨a, v, rfl, ea, q⟩ := h
    exact ⟨_, pss_one (ps_ost (pv 0) (pv 1)), _, rfl, _, rfl, a, C, rfl, c.e.o, no, .inl ⟨ea, q⟩⟩
theorem er1_TightRegion (c : CEE K mg E "TightRegion" "TightRegion.__init__" "room" iTightRegion) : ∃ C, Er1 P w K mg base "TightRegion" "TightRegion.__init__" "room" E C := by
  obtain ⟨C, f, fd, c, no⟩ := c
  refine ⟨C, ⟨c.e, c.g, c.mro, no, f, fd, c.i, c.t, c.b, ?_⟩, _, _, _, c⟩
  refine Fun.ok c.F (N := ["self", "room"]) ⟨rfl, rfl, rfl, by decide +kernel, rfl, by decide +kernel, by decide +kernel⟩ (fun vs H Q E h => ?_) (fun cdv A outer s H vs Q E hr h => ?_)
  · obtain ⟨a, v, rfl, _⟩ := h
    rfl
  · obtain ⟨a, v, rfl, ea, q⟩ := h
    exact ⟨_, pss_one (ps_ost (pv 0) (pv 1)), _, rfl, _, rfl, a, C, rfl, c.e.o, no, .inl ⟨ea, q⟩⟩
theorem er1_Blocked (c : CEE K mg E "Blocked" "Blocked.__init__" "block" iBlocked) : ∃ C, Er1 P w K mg base "Blocked" "Blocked.__init__" "block" E C := by
  obtain ⟨C, f, fd, c, no⟩ := c
  refine ⟨C, ⟨c.e, c.g, c.mro, no, f, fd, c.i, c.t, c.b, ?_⟩, _, _, _, c⟩
  refine Fun.ok c.F (N := ["self", "block"]) ⟨rfl, rfl, rfl, by decide +kernel, rfl, by decide +kernel, by decide +kernel⟩ (fun vs H Q E h => ?_) (fun cdv A outer s H vs Q E hr h => ?_)
  · obtain ⟨a, v, rfl, _⟩ := h
    rfl
  · obtain ⟨a, v, rfl, ea, q⟩ := h
    exact ⟨_, pss_one (ps_ost (pv 0) (pv 1)), _, rfl, _, rfl, a, C, rfl, c.e.o, no, .inl ⟨ea, q⟩⟩
theorem er1_InvalidName (c : CEE K mg E "InvalidName" "InvalidName.__init__" "name" iInvalidName) : ∃ C, Er1 P w K mg base "InvalidName" "InvalidName.__init__" "name" E C := by
  obtain ⟨C, f, fd, c, no⟩ := c
  refine ⟨C, ⟨c.e, c.g, c.mro, no, f, fd, c.i, c.t, c.b, ?_⟩, _, _, _, c⟩
  refine Fun.ok c.F (N := ["self", "name"]) ⟨rfl, rfl, rfl, by decide +kernel, rfl, by decide +kernel, by decide +kernel⟩ (fun vs H Q E h => ?_) (fun cdv A outer s H vs Q E hr h => ?_)
  · obtain ⟨a, v, rfl, _⟩ := h
    rfl
  · obtain ⟨a, v, rfl, ea, q⟩ := h
    exact ⟨_, pss_one (ps_ost (pv 0) (pv 1)), _, rfl, _, rfl, a, C, rfl, c.e.o, no, .inl ⟨ea, q⟩⟩
theorem er1_DuplicateName (c : CEE K mg E "DuplicateName" "DuplicateName.__init__" "name" iDuplicateName) : ∃ C, Er1 P w K mg base "DuplicateName" "DuplicateName.__init__" "name" E C := by
  obtain ⟨C, f, fd, c, no⟩ := c
  refine ⟨C, ⟨c.e, c.g, c.mro, no, f, fd, c.i, c.t, c.b, ?_⟩, _, _, _, c⟩
  refine Fun.ok c.F (N := ["self", "name"]) ⟨rfl, rfl, rfl, by decide +kernel, rfl, by decide +kernel, by decide +kernel⟩ (fun vs H Q E h => ?_) (fun cdv A outer s H vs Q E hr h => ?_)
  · obtain ⟨a, v, rfl, _⟩ := h
    rfl
  · obtain ⟨a, v, rfl, ea, q⟩ := h
    exact ⟨_, pss_one (ps_ost (pv 0) (pv 1)), _, rfl, _, rfl, a, C, rfl, c.e.o, no, .inl ⟨ea, q⟩⟩
theorem er1_LimitReached (c : CEE K mg E "LimitReached" "LimitReached.__init__" "limit" iLimitReached) : ∃ C, Er1 P w K mg base "LimitReached" "LimitReached.__init__" "limit" E C := by
  obtain ⟨C, f, fd, c, no⟩ := c
  refine ⟨C, ⟨c.e, c.g, c.mro, no, f, fd, c.i, c.t, c.b, ?_⟩, _, _, _, c⟩
  refine Fun.ok c.F (N := ["self", "limit"]) ⟨rfl, rfl, rfl, by decide +kernel, rfl, by decide +kernel, by decide +kernel⟩ (fun vs H Q E h => ?_) (fun cdv A outer s H vs Q E hr h => ?_)
  · obtain ⟨a, v, rfl, _⟩ := h
    rfl
  · obtain ⟨a, v, rfl, ea, q⟩ := h
    exact ⟨_, pss_one (ps_ost (pv 0) (pv 1)), _, rfl, _, rfl, a, C, rfl, c.e.o, no, .inl ⟨ea, q⟩⟩
theorem er1_AlreadyAdjacent (c : CEE K mg E "AlreadyAdjacent" "AlreadyAdjacent.__init__" "room" iAlreadyAdjacent) : ∃ C, Er1 P w K mg base "AlreadyAdjacent" "AlreadyAdjacent.__init__" "room" E C := by
  obtain ⟨C, f, fd, c, no⟩ := c
  refine ⟨C, ⟨c.e, c.g, c.mro, no, f, fd, c.i, c.t, c.b, ?_⟩, _, _, _, c⟩
  refine Fun.ok c.F (N := ["self", "room"]) ⟨rfl, rfl, rfl, by decide +kernel, rfl, by decide +kernel, by decide +kernel⟩ (fun vs H Q E h => ?_) (fun cdv A outer s H vs Q E hr h => ?_)
  · obtain ⟨a, v, rfl, _⟩ := h
    rfl
  · obtain ⟨a, v, rfl, ea, q⟩ := h
    exact ⟨_, pss_one (ps_ost (pv 0) (pv 1)), _, rfl, _, rfl, a, C, rfl, c.e.o, no, .inl ⟨ea, q⟩⟩
theorem er1_WouldFormCycle (c : CEE K mg E "WouldFormCycle" "WouldFormCycle.__init__" "room" iWouldFormCycle) : ∃ C, Er1 P w K mg base "WouldFormCycle" "WouldFormCycle.__init__" "room" E C := by
  obtain ⟨C, f, fd, c, no⟩ := c
  refine ⟨C, ⟨c.e, c.g, c.mro, no, f, fd, c.i, c.t, c.b, ?_⟩, _, _, _, c⟩
  refine Fun.ok c.F (N := ["self", "room"]) ⟨rfl, rfl, rfl, by decide +kernel, rfl, by decide +kernel, by decide +kernel⟩ (fun vs H Q E h => ?_) (fun cdv A outer s H vs Q E hr h => ?_)
  · obtain ⟨a, v, rfl, _⟩ := h
    rfl
  · obtain ⟨a, v, rfl, ea, q⟩ := h
    exact ⟨_, pss_one (ps_ost (pv 0) (pv 1)), _, rfl, _, rfl, a, C, rfl, c.e.o, no, .inl ⟨ea, q⟩⟩
theorem er1_BatchFailed (c : CEE K mg E "BatchFailed" "BatchFailed.__init__" "position" iBatchFailed) : ∃ C, Er1 P w K mg base "BatchFailed" "BatchFailed.__init__" "position" E C := by
  obtain ⟨C, f, fd, c, no⟩ := c
  refine ⟨C, ⟨c.e, c.g, c.mro, no, f, fd, c.i, c.t, c.b, ?_⟩, _, _, _, c⟩
  refine Fun.ok c.F (N := ["self", "position"]) ⟨rfl, rfl, rfl, by decide +kernel, rfl, by decide +kernel, by decide +kernel⟩ (fun vs H Q E h => ?_) (fun cdv A outer s H vs Q E hr h => ?_)
  · obtain ⟨a, v, rfl, _⟩ := h
    rfl
  · obtain ⟨a, v, rfl, ea, q⟩ := h
    exact ⟨_, pss_one (ps_ost (pv 0) (pv 1)), _, rfl, _, rfl, a, C, rfl, c.e.o, no, .inl ⟨ea, q⟩⟩
theorem er1_InvalidMoment (c : CEE K mg E "InvalidMoment" "InvalidMoment.__init__" "position" iInvalidMoment) : ∃ C, Er1 P w K mg base "InvalidMoment" "InvalidMoment.__init__" "position" E C := by
  obtain ⟨C, f, fd, c, no⟩ := c
  refine ⟨C, ⟨c.e, c.g, c.mro, no, f, fd, c.i, c.t, c.b, ?_⟩, _, _, _, c⟩
  refine Fun.ok c.F (N := ["self", "position"]) ⟨rfl, rfl, rfl, by decide +kernel, rfl, by decide +kernel, by decide +kernel⟩ (fun vs H Q E h => ?_) (fun cdv A outer s H vs Q E hr h => ?_)
  · obtain ⟨a, v, rfl, _⟩ := h
    rfl
  · obtain ⟨a, v, rfl, ea, q⟩ := h
    exact ⟨_, pss_one (ps_ost (pv 0) (pv 1)), _, rfl, _, rfl, a, C, rfl, c.e.o, no, .inl ⟨ea, q⟩⟩
theorem er1_InvalidText (c : CEE K mg E "InvalidText" "InvalidText.__init__" "position" iInvalidText) : ∃ C, Er1 P w K mg base "InvalidText" "InvalidText.__init__" "position" E C := by
  obtain ⟨C, f, fd, c, no⟩ := c
  refine ⟨C, ⟨c.e, c.g, c.mro, no, f, fd, c.i, c.t, c.b, ?_⟩, _, _, _, c⟩
  refine Fun.ok c.F (N := ["self", "position"]) ⟨rfl, rfl, rfl, by decide +kernel, rfl, by decide +kernel, by decide +kernel⟩ (fun vs H Q E h => ?_) (fun cdv A outer s H vs Q E hr h => ?_)
  · obtain ⟨a, v, rfl, _⟩ := h
    rfl
  · obtain ⟨a, v, rfl, ea, q⟩ := h
    exact ⟨_, pss_one (ps_ost (pv 0) (pv 1)), _, rfl, _, rfl, a, C, rfl, c.e.o, no, .inl ⟨ea, q⟩⟩
end
end Fw
set_option maxHeartbeats 2000000
namespace Fw
open PySem PySem.Spec PyProof.Rows L2
/-! a def that is given the error which is being handled -/
/-- a promise by the error's address, its class, its dict -/
abbrev SpE := Addr → Value → Option Addr → Sp
structure FnE (P : Program) (w : World) (K : PySem.W.Frag) (mg : Str → Option Value) (base : Heap) (k : Nat) (f : Addr) (fd : FuncData) (ps : List Str) (sp : SpE) : Prop where
  len : ∀ a c d vs H Q, sp a c d vs H Q E0 → vs.length = ps.length
  run : ∀ (A : Around) (outer : List Env) (s : Shared) (H : Hp) (args : Args) (us : List Value) (vs : List V) (Q : VK) (p : Addr × Obj) (c : Value) (d : Option Addr), L2H.RoomH k A → Zc c d p.2 → (∃ l, p.2.data = .fields l) → L2H.PinOk outer H s p → Env0 P w K mg base A outer s H →
    BindsTo s fd args (ps.zip us) → Vals vs us → sp p.1 c d vs H Q E0 → codeAny (model P w) A (.call (.ref f) args) (CR CX0 outer P w H s Q E0) s
section
variable {P : Program} {w : World} {K : PySem.W.Frag} {mg : Str → Option Value} {base : Heap}
theorem Fun.okE {x qual : Str} {st : Stmt} {f : Addr} {fd : FuncData} {N ps : List Str} {k : Nat} {sp : SpE} (F : Fun K x qual st f fd) (S : FnScope N ps (defScope st)) (len : ∀ a c d vs H Q, sp a c d vs H Q E0 → vs.length = ps.length)
    (body : ∀ (cdv : Value) (A : Around) (outer : List Env) (s : Shared) (H : Hp) (vs : List V) (Q : VK) (p : Addr × Obj) (c : Value) (d : Option Addr), Zc c d p.2 → (∃ l, p.2.data = .fields l) → L2H.RoomH k (A.deeper (envOfC qual (defScope st) s.heap.objs.size f cdv)) → sp p.1 c d vs H Q E0 →
      ∃ t, PSs (L2H.cxH CX0 P w K mg base N qual (defScope st) f cdv A outer s H E0 p) (defBody st) t ∧ t { nx := fun _ H' => Q .non H', rt := Q } (L2.start N vs) H) : FnE P w K mg base (k + 1) f fd ps sp := by
  obtain ⟨oc, od, kV, doc, pm, an, cdv, ct, osl, rfl, lk, code⟩ := F.ex
  constructor
  · exact len
  intro A outer z H args us vs Q p c d room hz hf pin env bnd rel want
  have stay : ∀ b o, base.get? b = some o → z.heap.get? b = some o := fun b o e => (env.bs b o e).1
  have here : K.In z.heap := env.mod.kin.keeps stay
  obtain ⟨t, walk, wish⟩ := body cdv A outer z H vs Q p c d hz hf (room.deeper _) want
  refine codeAny_call_function room.depth (here _ _ lk) rfl S.co S.gen rfl (PySem.W.codeRec_of here code) (bnd _ _ _ _ (wpAny_newFunctionEnv_cells S.kind ?par ?go))
  case par =>
    rintro ⟨y, v⟩ hy
    cases S.par y (List.of_mem_zip hy).1 with
    | inl l => exact .inl l
    | inr l => exact .inr ⟨l, PySem.W.cellsFrom_some _ _ _ (.inl l)⟩
  case go =>
    rintro env' rfl z1 inside
    refine ⟨(env.mod.nolimit.keeps stay).keeps inside.toInCall.keep, codeAny_func (wpAny_mono (walk.run [] z1 _ H _ (L2H.inv_startH (CX := CX0) (E := E0) S pin env (len _ _ _ _ _ _ want) rel inside) wish) ?_ fun _ _ no => no)⟩
    intro fl z2 out
    match fl, out with
    | .ret u, ⟨v, σ', H', J, rv, q⟩ => exact ⟨v, H', J.os, J.bare, J.base, J.hok, rv, q⟩
    | .next, ⟨σ', H', J, q⟩ => exact ⟨V.non, H', J.os, J.bare, J.base, J.hok, rfl, q⟩
    | .brk, ⟨_, _, _, no⟩ => exact no.elim
    | .cont, ⟨_, _, _, no⟩ => exact no.elim
/-- such a def, by its name -/
def CalE (P : Program) (w : World) (K : PySem.W.Frag) (mg : Str → Option Value) (base : Heap) (k : Nat) (x : Str) (ps : List Str) (sp : SpE) : Prop :=
  ∃ f fd, mg x = some (.ref f) ∧ PySem.W.keepIn K (.ref f) = true ∧ Binds K fd ps [] ∧ FnE P w K mg base k f fd ps sp
theorem DefE.calE {x : Str} {st : Stmt} {ps : List Str} {k : Nat} {sp : SpE} (D : DefE K mg x st ps) (h : ∀ f fd, Def K mg x st f fd ps → FnE P w K mg base k f fd ps sp) : CalE P w K mg base k x ps sp := by
  obtain ⟨f, fd, d⟩ := D
  exact ⟨f, fd, d.g, d.F.kp, d.b, h f fd d⟩
end
section
variable {X : Cx} {a : Addr} {oe : Obj} {pn : List (Addr × Obj)} {cls : Value} {d : Option Addr}
/-- the call of such a def in an except suite -/
def tCalE (sp : SpE) (a : Addr) (cls : Value) (d : Option Addr) (t : TA) : TE := fun σ H Q => t σ H fun vs H1 => sp a cls d vs H1 Q E0
theorem pe_calE {k : Nat} {x : Str} {ps : List Str} {sp : SpE} {e : Expr} {es : List Expr} {t : TA} {q pos : Pos} (hz : Zc cls d oe) (hf : ∃ l, oe.data = .fields l) (C : CalE X.prog X.w X.K X.mg X.base k x ps sp) (hr : Room k X.A) (hg : Gl X x)
    (ha : PA (X.suite a ((a, oe) :: pn)) (e :: es) t) (hdb : (x == ("__debug__" : Str)) = false := by decide) (h1 : starEach (e :: es) X.env = (false, eval e X.env) :: starEach es X.env := by rfl) (h2 : (backTo pos (starEach es X.env)).any (·.1) = false := by rfl) :
    PE (X.suite a ((a, oe) :: pn)) (.Call (.Name x q) (e :: es) [] pos) (tCalE sp a cls d t) := by
  obtain ⟨f, fd, g, kp, bd, F⟩ := C
  constructor
  intro pins z σ H Q I h
  refine wpAny_Call_Name_kw (ld_glob I hg g (PySem.W.callWith_K (h₀ := X.base) I.ok.mod.kin kp (thn (ha.run pos pins z σ H _ I h) ?_) h1 h2) hdb)
  rintro us z1 ⟨vs, H1, J, rel, want⟩
  refine ⟨J.kIn, ?_⟩
  have ln : us.length = ps.length := by rw [← rel.length]; exact F.len _ _ _ _ _ _ want
  have b := bd z1 us J.kIn (by rw [List.append_nil]; exact ln)
  rw [List.append_nil] at b
  obtain ⟨g1, g2, g3, g4, g5⟩ := J.pin (a, oe) (List.mem_append_left _ List.mem_cons_self)
  have pin : L2H.PinOk (X.suite a ((a, oe) :: pn)).stack H1 z1 (a, oe) := ⟨g1, g2, fun m => (List.mem_cons.mp (J.stkSub a m)).elim g3 g4, g5⟩
  refine wpAny_call (codeAny_mono (F.run _ _ z1 H1 ⟨us, []⟩ us vs Q (a, oe) cls d ⟨hr.dp, hr.un⟩ hz hf pin J.env0 b rel want) ?_)
  intro r z2 out
  match r, out with
  | .error _, no => exact no.elim
  | .ok .next, no => exact no.elim
  | .ok .brk, no => exact no.elim
  | .ok .cont, no => exact no.elim
  | .ok (.ret u), got => exact J.after got
end
/-! isinstance of an error that the context holds -/
section
variable {X : Cx} {a : Addr} {oe : Obj} {cls : Value} {d : Option Addr}
theorem pin_inst {pins : List (Addr × Obj)} {σ : L2.St} {H : Hp} {s : Shared} {D : Addr} (m : (a, oe) ∈ X.pn) (I : Inv X pins σ H s) (hz : Zc cls d oe) (hf : ∃ l, oe.data = .fields l) (h : HeldX X.K cls d D H) : ∃ od, PySem.W.InstAt s.heap a oe D od := by
  obtain ⟨here, _⟩ := I.pin (a, oe) (List.mem_append_left _ m)
  obtain ⟨l, hl⟩ := hf
  have nc : PySem.W.notCls oe := by unfold PySem.W.notCls; rw [hl]
  cases d with
  | none => exact ⟨none, here, hz.1.trans h.c, nc, by rw [hz.2]; trivial⟩
  | some dx =>
    obtain ⟨fs, e⟩ := h.x dx rfl
    obtain ⟨mA, ns, _⟩ := (show ObjOk X.prog X.w H s.heap dx (.xd fs) from I.hok dx _ e)
    obtain ⟨od, ho, _⟩ := lookIn_ns ns
    exact ⟨some od, here, hz.1.trans h.c, nc, by rw [hz.2]; exact ho⟩
theorem call_isCp (K : PySem.W.Frag) (hK : X.K = K) (m : (a, oe) ∈ X.pn) (hz : Zc cls d oe) (hf : ∃ l, oe.data = .fields l) : CallR X (.builtin "isinstance") (rIsC K a cls d) := by
  subst hK
  rintro pins s σ H _ us Q I r ⟨D, c, cv, b, rfl, h, k, e, q⟩
  obtain ⟨ua, ub, rfl, ra, rb⟩ := vals2 r
  cases k.eq rb
  cases (show ua = Value.ref a from ra)
  obtain ⟨od, M⟩ := pin_inst m I hz hf h
  exact PySem.W.kia_one (PySem.W.kitx_exc h.e.cl h.e.x.ga h.e.x.gg h.e.x.exC h.e.ofc h.e.sp h.e.tk h.e.mo) I.kIn M e (fun z => nomatch z) fun tk => ⟨.bl b, H, I.tok tk, rfl, q⟩
theorem call_isTp (K : PySem.W.Frag) (hK : X.K = K) (m : (a, oe) ∈ X.pn) (hz : Zc cls d oe) (hf : ∃ l, oe.data = .fields l) : CallR X (.builtin "isinstance") (rIsT K a cls d) := by
  subst hK
  rintro pins s σ H _ us Q I r ⟨D, t, cs, cvs, b, rfl, h, ht, all, e, q⟩
  obtain ⟨ua, ub, rfl, ra, rb⟩ := vals2 r
  cases (show ua = Value.ref a from ra)
  cases (show ub = Value.ref t from rb)
  obtain ⟨od, M⟩ := pin_inst m I hz hf h
  obtain ⟨its, rv, ⟨⟨tc, dd, da, ss⟩, at0, c0, n, d0⟩, _⟩ := I.tuple ht
  cases c0
  cases d0
  cases all its rv
  exact PySem.W.kia_tup (PySem.W.kitx_exc h.e.cl h.e.x.ga h.e.x.gg h.e.x.exC h.e.ofc h.e.sp h.e.tk h.e.mo) I.kIn M at0 e (fun z => nomatch z) fun tk => ⟨.bl b, H, I.tok tk, rfl, q⟩
end
end Fw
set_option maxHeartbeats 4000000
namespace Fw
open PySem PySem.Spec PyProof.Rows L2
/-! the class of the handled error, told by a def -/
structure Er (K : PySem.W.Frag) (mg : Str → Option Value) (x q : Str) (E C : Addr) : Prop where
  c : ∃ st ps f fd, CF K mg x q st ps E C f fd
theorem Er.g {K : PySem.W.Frag} {mg : Str → Option Value} {x q : Str} {E C : Addr} (r : Er K mg x q E C) : mg x = some (.ref C) := by
  obtain ⟨_, _, _, _, c⟩ := r.c
  exact c.g
theorem Er.e {K : PySem.W.Frag} {mg : Str → Option Value} {x q : Str} {E C : Addr} (r : Er K mg x q E C) : EC K C := by
  obtain ⟨_, _, _, _, c⟩ := r.c
  exact c.e
theorem Er.mro {K : PySem.W.Frag} {mg : Str → Option Value} {x q : Str} {E C : Addr} (r : Er K mg x q E C) : Mro K E C := by
  obtain ⟨_, _, _, _, c⟩ := r.c
  exact c.mro
theorem Er.is {K : PySem.W.Frag} {mg : Str → Option Value} {x q : Str} {E C : Addr} (r : Er K mg x q E C) : PySem.W.kitOne K (.ref C) (.ref C) = some true := by
  rw [kitR r.mro r.e.cl r.e.o.tyC, decide_eq_true (.inl rfl)]
theorem Er.he {K : PySem.W.Frag} {mg : Str → Option Value} {x q : Str} {E C : Addr} (r : Er K mg x q E C) (h : HE K mg E) : PySem.W.kitOne K (.ref C) (.ref E) = some true := by
  rw [kitR r.mro h.cl h.ty, decide_eq_true (.inr rfl)]
theorem Er.isnt {K : PySem.W.Frag} {mg : Str → Option Value} {x y q1 q2 : Str} {E C1 C2 : Addr} (a : Er K mg x q1 E C1) (b : Er K mg y q2 E C2) (h : HE K mg E) (n : q1 ≠ q2) : PySem.W.kitOne K (.ref C1) (.ref C2) = some false := by
  rw [kitR a.mro b.e.cl b.e.o.tyC, decide_eq_false]
  rintro (e | e)
  · obtain ⟨_, _, _, _, ca⟩ := a.c
    obtain ⟨_, _, _, _, cb⟩ := b.c
    exact ca.ne cb n e.symm
  · exact h.ne b.mro e
theorem Er1.er {P : Program} {w : World} {K : PySem.W.Frag} {mg : Str → Option Value} {base : Heap} {x q fld : Str} {E C : Addr} (r : Er1 P w K mg base x q fld E C) : Er K mg x q E C := by
  obtain ⟨st, f, fd, c⟩ := r.c
  exact ⟨st, _, f, fd, c⟩
/-- a class without fields -/
def CE0 (K : PySem.W.Frag) (mg : Str → Option Value) (E : Addr) (x q : Str) (st : Stmt) : Prop := ∃ C f fd, CF K mg x q st ["self"] E C f fd
theorem CE0.er {K : PySem.W.Frag} {mg : Str → Option Value} {E : Addr} {x q : Str} {st : Stmt} (c : CE0 K mg E x q st) : ∃ C, Er K mg x q E C := by
  obtain ⟨C, f, fd, c⟩ := c
  exact ⟨C, st, _, f, fd, c⟩
structure Ers (K : PySem.W.Frag) (mg : Str → Option Value) (E : Addr) : Prop where
  UnknownPerson : ∃ C, Er K mg "UnknownPerson" "UnknownPerson.__init__" E C
  InvalidRoom : ∃ C, Er K mg "InvalidRoom" "InvalidRoom.__init__" E C
  NotAdjacent : ∃ C, Er K mg "NotAdjacent" "NotAdjacent.__init__" E C
  EmptyRoom : ∃ C, Er K mg "EmptyRoom" "EmptyRoom.__init__" E C
  InvalidMoves : ∃ C, Er K mg "InvalidMoves" "InvalidMoves.__init__" E C
  OtherRegion : ∃ C, Er K mg "OtherRegion" "OtherRegion.__init__" E C
  TightRegion : ∃ C, Er K mg "TightRegion" "TightRegion.__init__" E C
  Blocked : ∃ C, Er K mg "Blocked" "Blocked.__init__" E C
  InvalidName : ∃ C, Er K mg "InvalidName" "InvalidName.__init__" E C
  DuplicateName : ∃ C, Er K mg "DuplicateName" "DuplicateName.__init__" E C
  LimitReached : ∃ C, Er K mg "LimitReached" "LimitReached.__init__" E C
  AlreadyAdjacent : ∃ C, Er K mg "AlreadyAdjacent" "AlreadyAdjacent.__init__" E C
  WouldFormCycle : ∃ C, Er K mg "WouldFormCycle" "WouldFormCycle.__init__" E C
  BatchFailed : ∃ C, Er K mg "BatchFailed" "BatchFailed.__init__" E C
  InvalidMoment : ∃ C, Er K mg "InvalidMoment" "InvalidMoment.__init__" E C
  InvalidText : ∃ C, Er K mg "InvalidText" "InvalidText.__init__" E C
  NothingToUndo : ∃ C, Er K mg "NothingToUndo" "NothingToUndo.__init__" E C
  HistoryFull : ∃ C, Er K mg "HistoryFull" "HistoryFull.__init__" E C
  SessionBusy : ∃ C, Er K mg "SessionBusy" "SessionBusy.__init__" E C
  InvalidActions : ∃ C, Er K mg "InvalidActions" "InvalidActions.__init__" E C
  InvalidHouse : ∃ C, Er K mg "InvalidHouse" "InvalidHouse.__init__" E C
  InvalidPlacement : ∃ C, Er K mg "InvalidPlacement" "InvalidPlacement.__init__" E C
section
variable {X : Cx}
theorem tellK {K : PySem.W.Frag} {x : Expr} {T : String} {r : V → List V → Hp → VK → Prop} {to : TE} {t : TA} (hK : X.K = K) (h : PE X x (tBM X.K T r to t)) : PE X x (tBM K T r to t) := by
  subst hK
  exact h
theorem mt_countK (K : PySem.W.Frag) (h : X.K = K) : MtR X "list.count" (rCntB K) := by subst h; exact mt_countB
theorem mt_indexK (K : PySem.W.Frag) (h : X.K = K) : MtR X "list.index" (rIndex K) := by subst h; exact mt_index
end
theorem le_szE {n : Nat} (h : n ≤ 100) : n ≤ sizeLine := Nat.le_trans h (by decide)
section
variable {P : Program} {w : World} {K : PySem.W.Frag} {mg : Str → Option Value} {base : Heap}
/-- what it tells of an error of the class at D -/
def spLEC (D : Addr) (z : Str) : SpE := fun a c d vs H Q _ => vs = [.ref a] ∧ c = .ref D ∧ (∀ dx, d = some dx → ∃ fs, H dx = some (.xd fs)) ∧ ∀ H', Same H H' → Q (.str z) H'
abbrev nLErrorClass : List Str := ["_law_e", "_law_flags", "_law_words"]
theorem scLErrorClass : FnScope nLErrorClass ["_law_e"] (defScope sLErrorClass) := ⟨rfl, rfl, rfl, by decide +kernel, rfl, by decide +kernel, by decide +kernel⟩
end
end Fw
set_option maxHeartbeats 4000000
namespace Fw
open PySem PySem.Spec PyProof.Rows L2
section
variable {P : Program} {w : World} {K : PySem.W.Frag} {mg : Str → Option Value} {base : Heap}
theorem ok_lec_InvalidText {f : Addr} {fd : FuncData} {k : Nat} {E CInvalidText : Addr} (F : Fun K "_law_error_class" "_law_error_class" sLErrorClass f fd) (T : Nm mg) (TValueError : mg "ValueError" = none) (hE : HE K mg E) (Es : Ers K mg E) (RInvalidText : Er K mg "InvalidText" "InvalidText.__init__" E CInvalidText) : FnE P w K mg base (k + 1) f fd ["_law_e"] (spLEC CInvalidText "InvalidText") := by
  obtain ⟨CUnknownPerson, RUnknownPerson⟩ := Es.UnknownPerson
  obtain ⟨CInvalidRoom, RInvalidRoom⟩ := Es.InvalidRoom
  obtain ⟨CNotAdjacent, RNotAdjacent⟩ := Es.NotAdjacent
  obtain ⟨CEmptyRoom, REmptyRoom⟩ := Es.EmptyRoom
  obtain ⟨CInvalidMoves, RInvalidMoves⟩ := Es.InvalidMoves
  obtain ⟨COtherRegion, ROtherRegion⟩ := Es.OtherRegion
  obtain ⟨CTightRegion, RTightRegion⟩ := Es.TightRegion
  obtain ⟨CBlocked, RBlocked⟩ := Es.Blocked
  obtain ⟨CInvalidName, RInvalidName⟩ := Es.InvalidName
  obtain ⟨CDuplicateName, RDuplicateName⟩ := Es.DuplicateName
  obtain ⟨CLimitReached, RLimitReached⟩ := Es.LimitReached
  obtain ⟨CAlreadyAdjacent, RAlreadyAdjacent⟩ := Es.AlreadyAdjacent
  obtain ⟨CWouldFormCycle, RWouldFormCycle⟩ := Es.WouldFormCycle
  obtain ⟨CBatchFailed, RBatchFailed⟩ := Es.BatchFailed
  obtain ⟨CInvalidMoment, RInvalidMoment⟩ := Es.InvalidMoment
  obtain ⟨CNothingToUndo, RNothingToUndo⟩ := Es.NothingToUndo
  obtain ⟨CHistoryFull, RHistoryFull⟩ := Es.HistoryFull
  obtain ⟨CSessionBusy, RSessionBusy⟩ := Es.SessionBusy
  obtain ⟨CInvalidActions, RInvalidActions⟩ := Es.InvalidActions
  obtain ⟨CInvalidHouse, RInvalidHouse⟩ := Es.InvalidHouse
  obtain ⟨CInvalidPlacement, RInvalidPlacement⟩ := Es.InvalidPlacement
  refine Fun.okE F scLErrorClass (fun a c d vs H Q h => ?_) (fun cdv A outer s H vs Q p c d hz hf hr h => ?_)
  · obtain ⟨rfl, _⟩ := h
    rfl
  · obtain ⟨rfl, rfl, hd, q⟩ := h
    obtain ⟨a, oe⟩ := p
    have hm : (a, oe) ∈ [(a, oe)] := List.mem_singleton_self _
    refine ⟨_, (pss_cons (ps_set (i := 1) scLErrorClass.nd rfl (.inl rfl) (pe_lst (pa_cons (pe_callB (call_isCp K rfl hm hz hf) (by rfl) T.isinstance (by decide +kernel) (pa_cons (pv 0) (pa_cons (pe_glob (v := .ref CUnknownPerson) (by rfl) RUnknownPerson.g rfl) pa_nil))) (pa_cons (pe_callB (call_isCp K rfl hm hz hf) (by rfl) T.isinstance (by decide +kernel) (pa_cons (pv 0) (pa_cons (pe_glob (v := .ref COtherRegion) (by rfl) ROtherRegion.g rfl) pa_nil))) (pa_cons (pe_callB (call_isCp K rfl hm hz hf) (by rfl) T.isinstance (by decide +kernel) (pa_cons (pv 0) (pa_cons (pe_glob (v := .ref CTightRegion) (by rfl) RTightRegion.g rfl) pa_nil))) pa_nil)))))
      (pss_cons (ps_set (i := 1) scLErrorClass.nd rfl (.inl rfl) (pe_op op_cat (pv 1) (pe_lst (pa_cons (pe_callB (call_isCp K rfl hm hz hf) (by rfl) T.isinstance (by decide +kernel) (pa_cons (pv 0) (pa_cons (pe_glob (v := .ref CBlocked) (by rfl) RBlocked.g rfl) pa_nil))) (pa_cons (pe_callB (call_isCp K rfl hm hz hf) (by rfl) T.isinstance (by decide +kernel) (pa_cons (pv 0) (pa_cons (pe_glob (v := .ref CInvalidText) (by rfl) RInvalidText.g rfl) pa_nil))) pa_nil)))))
      (pss_cons (ps_set (i := 1) scLErrorClass.nd rfl (.inl rfl) (pe_op op_cat (pv 1) (pe_lst (pa_cons (pe_callB (call_isTp K rfl hm hz hf) (by rfl) T.isinstance (by decide +kernel) (pa_cons (pv 0) (pa_cons (pe_tup (pa_cons (pe_glob (v := .ref CInvalidRoom) (by rfl) RInvalidRoom.g rfl) (pa_cons (pe_glob (v := .ref CNotAdjacent) (by rfl) RNotAdjacent.g rfl) (pa_cons (pe_glob (v := .ref CEmptyRoom) (by rfl) REmptyRoom.g rfl) (pa_cons (pe_glob (v := .ref CInvalidMoves) (by rfl) RInvalidMoves.g rfl) (pa_cons (pe_glob (v := .ref CInvalidName) (by rfl) RInvalidName.g rfl) pa_nil)))))) pa_nil))) pa_nil))))
      (pss_cons (ps_set (i := 1) scLErrorClass.nd rfl (.inl rfl) (pe_op op_cat (pv 1) (pe_lst (pa_cons (pe_callB (call_isTp K rfl hm hz hf) (by rfl) T.isinstance (by decide +kernel) (pa_cons (pv 0) (pa_cons (pe_tup (pa_cons (pe_glob (v := .ref CDuplicateName) (by rfl) RDuplicateName.g rfl) (pa_cons (pe_glob (v := .ref CLimitReached) (by rfl) RLimitReached.g rfl) (pa_cons (pe_glob (v := .ref CAlreadyAdjacent) (by rfl) RAlreadyAdjacent.g rfl) (pa_cons (pe_glob (v := .ref CWouldFormCycle) (by rfl) RWouldFormCycle.g rfl) pa_nil))))) pa_nil))) pa_nil))))
      (pss_cons (ps_set (i := 1) scLErrorClass.nd rfl (.inl rfl) (pe_op op_cat (pv 1) (pe_lst (pa_cons (pe_callB (call_isTp K rfl hm hz hf) (by rfl) T.isinstance (by decide +kernel) (pa_cons (pv 0) (pa_cons (pe_tup (pa_cons (pe_glob (v := .ref CNothingToUndo) (by rfl) RNothingToUndo.g rfl) (pa_cons (pe_glob (v := .ref CHistoryFull) (by rfl) RHistoryFull.g rfl) (pa_cons (pe_glob (v := .ref CSessionBusy) (by rfl) RSessionBusy.g rfl) (pa_cons (pe_glob (v := .ref CInvalidActions) (by rfl) RInvalidActions.g rfl) pa_nil))))) pa_nil))) pa_nil))))
      (pss_cons (ps_set (i := 1) scLErrorClass.nd rfl (.inl rfl) (pe_op op_cat (pv 1) (pe_lst (pa_cons (pe_callB (call_isTp K rfl hm hz hf) (by rfl) T.isinstance (by decide +kernel) (pa_cons (pv 0) (pa_cons (pe_tup (pa_cons (pe_glob (v := .ref CBatchFailed) (by rfl) RBatchFailed.g rfl) (pa_cons (pe_glob (v := .ref CInvalidMoment) (by rfl) RInvalidMoment.g rfl) (pa_cons (pe_glob (v := .ref CInvalidHouse) (by rfl) RInvalidHouse.g rfl) (pa_cons (pe_glob (v := .ref CInvalidPlacement) (by rfl) RInvalidPlacement.g rfl) pa_nil))))) pa_nil))) pa_nil))))
      (pss_cons (ps_set (i := 2) scLErrorClass.nd rfl (.inl rfl) (pe_op op_cat (pe_lst (pa_cons pe_str (pa_cons pe_str (pa_cons pe_str (pa_cons pe_str (pa_cons pe_str pa_nil)))))) (pe_op op_rep (pe_lst (pa_cons pe_str pa_nil)) pe_int)))
      (pss_cons (ps_if (PW.pt (pw_or (pt_cmpR op_ne (tellK (K := K) rfl <| pe_bm PySem.F.plainAttrs_list PySem.F.slot_list_count PySem.F.type_list_count (mt_countK K rfl) (pv 1) (pa_cons pe_bl pa_nil)) pe_int (nomark _)) (pw_or (pt_not (pt_val (pe_callB (call_isCp K rfl hm hz hf) (by rfl) T.isinstance (by decide +kernel) (pa_cons (pv 0) (pa_cons (pe_glob (v := .ref E) (by rfl) hE.g rfl) pa_nil))))) (pw_or1 (pt_not (pt_val (pe_callB (call_isCp K rfl hm hz hf) (by rfl) T.isinstance (by decide +kernel) (pa_cons (pv 0) (pa_cons (pe_bltn (v := .ty "ValueError") (by rfl) TValueError (by decide +kernel) rfl) pa_nil)))))))))
      (pss_one (ps_ret pe_str))
      pss_nil)
      (pss_one (ps_ret (pe_ix (ix_listK K rfl) (pv 2) (tellK (K := K) rfl <| pe_bm PySem.F.plainAttrs_list PySem.F.slot_list_index PySem.F.type_list_index (mt_indexK K rfl) (pv 1) (pa_cons pe_bl pa_nil)) (fun _ _ => rfl)))))))))))), ?_⟩
    have hx : ∀ {H' : Hp}, Same H H' → HeldX K (.ref CInvalidText) d CInvalidText H' := fun {H'} s' => ⟨rfl, RInvalidText.e, fun dx e => by
      obtain ⟨fs, e2⟩ := hd dx e
      exact ⟨fs, s' _ _ e2⟩⟩
    refine ⟨_, rfl, CInvalidText, _, _, false, rfl, hx (Same.refl _), .own _, RInvalidText.isnt RUnknownPerson hE (by decide), _, rfl, CInvalidText, _, _, false, rfl, hx (Same.refl _), .own _, RInvalidText.isnt ROtherRegion hE (by decide), _, rfl, CInvalidText, _, _, false, rfl, hx (Same.refl _), .own _, RInvalidText.isnt RTightRegion hE (by decide), by show 3 ≤ sizeLine; decide, fun l0 h0 => ?_⟩
    have u0 := same_upd (o := .lst [V.bl false, V.bl false, V.bl false]) h0
    have e0 : (upd H l0 (.lst [V.bl false, V.bl false, V.bl false])) l0 = some (.lst [V.bl false, V.bl false, V.bl false]) := upd_same
    generalize upd H l0 (.lst [V.bl false, V.bl false, V.bl false]) = J0 at *
    refine ⟨_, rfl, _, rfl, CInvalidText, _, _, false, rfl, hx u0, .own _, RInvalidText.isnt RBlocked hE (by decide), _, rfl, CInvalidText, _, _, true, rfl, hx u0, .own _, RInvalidText.is, by show 2 ≤ sizeLine; decide, fun l h => ?_⟩
    have v := same_upd (o := .lst [V.bl false, V.bl true]) h
    have e : (upd J0 l (.lst [V.bl false, V.bl true])) l = some (.lst [V.bl false, V.bl true]) := upd_same
    have w := u0.trans v
    have e0' := v _ _ e0
    generalize upd J0 l (.lst [V.bl false, V.bl true]) = I0 at *
    refine ⟨l0, l, _, _, rfl, rfl, e0', e, le_szE (by simp), fun l1 h1 => ?_⟩
    have u1 := w.trans (same_upd (o := .lst ([V.bl false, V.bl false, V.bl false] ++ [V.bl false, V.bl true])) h1)
    have e1 : (upd I0 l1 (.lst ([V.bl false, V.bl false, V.bl false] ++ [V.bl false, V.bl true]))) l1 = some (.lst [V.bl false, V.bl false, V.bl false, V.bl false, V.bl true]) := upd_same
    generalize upd I0 l1 (.lst ([V.bl false, V.bl false, V.bl false] ++ [V.bl false, V.bl true])) = J1 at *
    clear u0 e0 e0' w v e
    refine ⟨_, rfl, _, rfl, by show 5 ≤ sizeLine; decide, fun t ht => ?_⟩
    have v := u1.trans (same_upd (o := .tup [V.ref CInvalidRoom, V.ref CNotAdjacent, V.ref CEmptyRoom, V.ref CInvalidMoves, V.ref CInvalidName]) ht)
    have et : (upd J1 t (.tup [V.ref CInvalidRoom, V.ref CNotAdjacent, V.ref CEmptyRoom, V.ref CInvalidMoves, V.ref CInvalidName])) t = some (.tup [V.ref CInvalidRoom, V.ref CNotAdjacent, V.ref CEmptyRoom, V.ref CInvalidMoves, V.ref CInvalidName]) := upd_same
    have e := same_upd (o := .tup [V.ref CInvalidRoom, V.ref CNotAdjacent, V.ref CEmptyRoom, V.ref CInvalidMoves, V.ref CInvalidName]) ht _ _ e1
    generalize upd J1 t (.tup [V.ref CInvalidRoom, V.ref CNotAdjacent, V.ref CEmptyRoom, V.ref CInvalidMoves, V.ref CInvalidName]) = I1 at *
    refine ⟨CInvalidText, t, _, [.ref CInvalidRoom, .ref CNotAdjacent, .ref CEmptyRoom, .ref CInvalidMoves, .ref CInvalidName], false, rfl, hx v, SqT.of et, fun us hu => ClsV.all (.cons (.own _) (.cons (.own _) (.cons (.own _) (.cons (.own _) (.cons (.own _) .nil))))) hu, kit_none fun c hc => ?_, by show 1 ≤ sizeLine; decide, fun l h => ?_⟩
    · simp only [List.mem_cons, List.not_mem_nil, or_false] at hc
      rcases hc with rfl | rfl | rfl | rfl | rfl
      · exact RInvalidText.isnt RInvalidRoom hE (by decide)
      · exact RInvalidText.isnt RNotAdjacent hE (by decide)
      · exact RInvalidText.isnt REmptyRoom hE (by decide)
      · exact RInvalidText.isnt RInvalidMoves hE (by decide)
      · exact RInvalidText.isnt RInvalidName hE (by decide)
    have vn := same_upd (o := .lst [V.bl false]) h
    have en : (upd I1 l (.lst [V.bl false])) l = some (.lst [V.bl false]) := upd_same
    replace e := vn _ _ e
    generalize upd I1 l (.lst [V.bl false]) = G1 at *
    refine ⟨l1, l, _, _, rfl, rfl, e, en, le_szE (by simp), fun l2 h2 => ?_⟩
    have u2 := (v.trans vn).trans (same_upd (o := .lst ([V.bl false, V.bl false, V.bl false, V.bl false, V.bl true] ++ [V.bl false])) h2)
    have e2 : (upd G1 l2 (.lst ([V.bl false, V.bl false, V.bl false, V.bl false, V.bl true] ++ [V.bl false]))) l2 = some (.lst [V.bl false, V.bl false, V.bl false, V.bl false, V.bl true, V.bl false]) := upd_same
    generalize upd G1 l2 (.lst ([V.bl false, V.bl false, V.bl false, V.bl false, V.bl true] ++ [V.bl false])) = J2 at *
    clear u1 e1 v et e vn en
    refine ⟨_, rfl, _, rfl, by show 4 ≤ sizeLine; decide, fun t ht => ?_⟩
    have v := u2.trans (same_upd (o := .tup [V.ref CDuplicateName, V.ref CLimitReached, V.ref CAlreadyAdjacent, V.ref CWouldFormCycle]) ht)
    have et : (upd J2 t (.tup [V.ref CDuplicateName, V.ref CLimitReached, V.ref CAlreadyAdjacent, V.ref CWouldFormCycle])) t = some (.tup [V.ref CDuplicateName, V.ref CLimitReached, V.ref CAlreadyAdjacent, V.ref CWouldFormCycle]) := upd_same
    have e := same_upd (o := .tup [V.ref CDuplicateName, V.ref CLimitReached, V.ref CAlreadyAdjacent, V.ref CWouldFormCycle]) ht _ _ e2
    generalize upd J2 t (.tup [V.ref CDuplicateName, V.ref CLimitReached, V.ref CAlreadyAdjacent, V.ref CWouldFormCycle]) = I2 at *
    refine ⟨CInvalidText, t, _, [.ref CDuplicateName, .ref CLimitReached, .ref CAlreadyAdjacent, .ref CWouldFormCycle], false, rfl, hx v, SqT.of et, fun us hu => ClsV.all (.cons (.own _) (.cons (.own _) (.cons (.own _) (.cons (.own _) .nil)))) hu, kit_none fun c hc => ?_, by show 1 ≤ sizeLine; decide, fun l h => ?_⟩
    · simp only [List.mem_cons, List.not_mem_nil, or_false] at hc
      rcases hc with rfl | rfl | rfl | rfl
      · exact RInvalidText.isnt RDuplicateName hE (by decide)
      · exact RInvalidText.isnt RLimitReached hE (by decide)
      · exact RInvalidText.isnt RAlreadyAdjacent hE (by decide)
      · exact RInvalidText.isnt RWouldFormCycle hE (by decide)
    have vn := same_upd (o := .lst [V.bl false]) h
    have en : (upd I2 l (.lst [V.bl false])) l = some (.lst [V.bl false]) := upd_same
    replace e := vn _ _ e
    generalize upd I2 l (.lst [V.bl false]) = G2 at *
    refine ⟨l2, l, _, _, rfl, rfl, e, en, le_szE (by simp), fun l3 h3 => ?_⟩
    have u3 := (v.trans vn).trans (same_upd (o := .lst ([V.bl false, V.bl false, V.bl false, V.bl false, V.bl true, V.bl false] ++ [V.bl false])) h3)
    have e3 : (upd G2 l3 (.lst ([V.bl false, V.bl false, V.bl false, V.bl false, V.bl true, V.bl false] ++ [V.bl false]))) l3 = some (.lst [V.bl false, V.bl false, V.bl false, V.bl false, V.bl true, V.bl false, V.bl false]) := upd_same
    generalize upd G2 l3 (.lst ([V.bl false, V.bl false, V.bl false, V.bl false, V.bl true, V.bl false] ++ [V.bl false])) = J3 at *
    clear u2 e2 v et e vn en
    refine ⟨_, rfl, _, rfl, by show 4 ≤ sizeLine; decide, fun t ht => ?_⟩
    have v := u3.trans (same_upd (o := .tup [V.ref CNothingToUndo, V.ref CHistoryFull, V.ref CSessionBusy, V.ref CInvalidActions]) ht)
    have et : (upd J3 t (.tup [V.ref CNothingToUndo, V.ref CHistoryFull, V.ref CSessionBusy, V.ref CInvalidActions])) t = some (.tup [V.ref CNothingToUndo, V.ref CHistoryFull, V.ref CSessionBusy, V.ref CInvalidActions]) := upd_same
    have e := same_upd (o := .tup [V.ref CNothingToUndo, V.ref CHistoryFull, V.ref CSessionBusy, V.ref CInvalidActions]) ht _ _ e3
    generalize upd J3 t (.tup [V.ref CNothingToUndo, V.ref CHistoryFull, V.ref CSessionBusy, V.ref CInvalidActions]) = I3 at *
    refine ⟨CInvalidText, t, _, [.ref CNothingToUndo, .ref CHistoryFull, .ref CSessionBusy, .ref CInvalidActions], false, rfl, hx v, SqT.of et, fun us hu => ClsV.all (.cons (.own _) (.cons (.own _) (.cons (.own _) (.cons (.own _) .nil)))) hu, kit_none fun c hc => ?_, by show 1 ≤ sizeLine; decide, fun l h => ?_⟩
    · simp only [List.mem_cons, List.not_mem_nil, or_false] at hc
      rcases hc with rfl | rfl | rfl | rfl
      · exact RInvalidText.isnt RNothingToUndo hE (by decide)
      · exact RInvalidText.isnt RHistoryFull hE (by decide)
      · exact RInvalidText.isnt RSessionBusy hE (by decide)
      · exact RInvalidText.isnt RInvalidActions hE (by decide)
    have vn := same_upd (o := .lst [V.bl false]) h
    have en : (upd I3 l (.lst [V.bl false])) l = some (.lst [V.bl false]) := upd_same
    replace e := vn _ _ e
    generalize upd I3 l (.lst [V.bl false]) = G3 at *
    refine ⟨l3, l, _, _, rfl, rfl, e, en, le_szE (by simp), fun l4 h4 => ?_⟩
    have u4 := (v.trans vn).trans (same_upd (o := .lst ([V.bl false, V.bl false, V.bl false, V.bl false, V.bl true, V.bl false, V.bl false] ++ [V.bl false])) h4)
    have e4 : (upd G3 l4 (.lst ([V.bl false, V.bl false, V.bl false, V.bl false, V.bl true, V.bl false, V.bl false] ++ [V.bl false]))) l4 = some (.lst [V.bl false, V.bl false, V.bl false, V.bl false, V.bl true, V.bl false, V.bl false, V.bl false]) := upd_same
    generalize upd G3 l4 (.lst ([V.bl false, V.bl false, V.bl false, V.bl false, V.bl true, V.bl false, V.bl false] ++ [V.bl false])) = J4 at *
    clear u3 e3 v et e vn en
    refine ⟨_, rfl, _, rfl, by show 4 ≤ sizeLine; decide, fun t ht => ?_⟩
    have v := u4.trans (same_upd (o := .tup [V.ref CBatchFailed, V.ref CInvalidMoment, V.ref CInvalidHouse, V.ref CInvalidPlacement]) ht)
    have et : (upd J4 t (.tup [V.ref CBatchFailed, V.ref CInvalidMoment, V.ref CInvalidHouse, V.ref CInvalidPlacement])) t = some (.tup [V.ref CBatchFailed, V.ref CInvalidMoment, V.ref CInvalidHouse, V.ref CInvalidPlacement]) := upd_same
    have e := same_upd (o := .tup [V.ref CBatchFailed, V.ref CInvalidMoment, V.ref CInvalidHouse, V.ref CInvalidPlacement]) ht _ _ e4
    generalize upd J4 t (.tup [V.ref CBatchFailed, V.ref CInvalidMoment, V.ref CInvalidHouse, V.ref CInvalidPlacement]) = I4 at *
    refine ⟨CInvalidText, t, _, [.ref CBatchFailed, .ref CInvalidMoment, .ref CInvalidHouse, .ref CInvalidPlacement], false, rfl, hx v, SqT.of et, fun us hu => ClsV.all (.cons (.own _) (.cons (.own _) (.cons (.own _) (.cons (.own _) .nil)))) hu, kit_none fun c hc => ?_, by show 1 ≤ sizeLine; decide, fun l h => ?_⟩
    · simp only [List.mem_cons, List.not_mem_nil, or_false] at hc
      rcases hc with rfl | rfl | rfl | rfl
      · exact RInvalidText.isnt RBatchFailed hE (by decide)
      · exact RInvalidText.isnt RInvalidMoment hE (by decide)
      · exact RInvalidText.isnt RInvalidHouse hE (by decide)
      · exact RInvalidText.isnt RInvalidPlacement hE (by decide)
    have vn := same_upd (o := .lst [V.bl false]) h
    have en : (upd I4 l (.lst [V.bl false])) l = some (.lst [V.bl false]) := upd_same
    replace e := vn _ _ e
    generalize upd I4 l (.lst [V.bl false]) = G4 at *
    refine ⟨l4, l, _, _, rfl, rfl, e, en, le_szE (by simp), fun l5 h5 => ?_⟩
    have u5 := (v.trans vn).trans (same_upd (o := .lst ([V.bl false, V.bl false, V.bl false, V.bl false, V.bl true, V.bl false, V.bl false, V.bl false] ++ [V.bl false])) h5)
    have e5 : (upd G4 l5 (.lst ([V.bl false, V.bl false, V.bl false, V.bl false, V.bl true, V.bl false, V.bl false, V.bl false] ++ [V.bl false]))) l5 = some (.lst [V.bl false, V.bl false, V.bl false, V.bl false, V.bl true, V.bl false, V.bl false, V.bl false, V.bl false]) := upd_same
    generalize upd G4 l5 (.lst ([V.bl false, V.bl false, V.bl false, V.bl false, V.bl true, V.bl false, V.bl false, V.bl false] ++ [V.bl false])) = J5 at *
    clear u4 e4 v et e vn en
    refine ⟨by show 5 ≤ sizeLine; decide, fun w1 g1 => ?_⟩
    have v1 := same_upd (o := .lst [V.str "UnknownPerson", V.str "OtherRegion", V.str "TightRegion", V.str "Blocked", V.str "InvalidText"]) g1
    have f1 : (upd J5 w1 (.lst [V.str "UnknownPerson", V.str "OtherRegion", V.str "TightRegion", V.str "Blocked", V.str "InvalidText"])) w1 = some (.lst [V.str "UnknownPerson", V.str "OtherRegion", V.str "TightRegion", V.str "Blocked", V.str "InvalidText"]) := upd_same
    have e6 := v1 _ _ e5
    have u6 := u5.trans v1
    generalize upd J5 w1 (.lst [V.str "UnknownPerson", V.str "OtherRegion", V.str "TightRegion", V.str "Blocked", V.str "InvalidText"]) = J6 at *
    refine ⟨by show 1 ≤ sizeLine; decide, fun w2 g2 => ?_⟩
    have v2 := same_upd (o := .lst [V.str "other"]) g2
    have f2 : (upd J6 w2 (.lst [V.str "other"])) w2 = some (.lst [V.str "other"]) := upd_same
    replace f1 := v2 _ _ f1
    replace e6 := v2 _ _ e6
    replace u6 := u6.trans v2
    generalize upd J6 w2 (.lst [V.str "other"]) = J7 at *
    refine ⟨w2, 4, _, rfl, rfl, f2, by decide, by decide, by show 1 * 4 ≤ sizeLine; decide, fun w3 g3 => ?_⟩
    have er : (List.replicate (4 : Int).toNat [V.str "other"]).flatten = [V.str "other", V.str "other", V.str "other", V.str "other"] := rfl
    rw [er]
    have v3 := same_upd (o := .lst [V.str "other", V.str "other", V.str "other", V.str "other"]) g3
    have f3 : (upd J7 w3 (.lst [V.str "other", V.str "other", V.str "other", V.str "other"])) w3 = some (.lst [V.str "other", V.str "other", V.str "other", V.str "other"]) := upd_same
    replace f1 := v3 _ _ f1
    replace e6 := v3 _ _ e6
    replace u6 := u6.trans v3
    generalize upd J7 w3 (.lst [V.str "other", V.str "other", V.str "other", V.str "other"]) = J8 at *
    refine ⟨w1, w3, _, _, rfl, rfl, f1, f3, le_szE (by simp), fun w4 g4 => ?_⟩
    have v4 := same_upd (o := .lst ([V.str "UnknownPerson", V.str "OtherRegion", V.str "TightRegion", V.str "Blocked", V.str "InvalidText"] ++ [V.str "other", V.str "other", V.str "other", V.str "other"])) g4
    have f4 : (upd J8 w4 (.lst ([V.str "UnknownPerson", V.str "OtherRegion", V.str "TightRegion", V.str "Blocked", V.str "InvalidText"] ++ [V.str "other", V.str "other", V.str "other", V.str "other"]))) w4 = some (.lst ([V.str "UnknownPerson", V.str "OtherRegion", V.str "TightRegion", V.str "Blocked", V.str "InvalidText"] ++ [V.str "other", V.str "other", V.str "other", V.str "other"])) := upd_same
    replace e6 := v4 _ _ e6
    replace u6 := u6.trans v4
    generalize upd J8 w4 (.lst ([V.str "UnknownPerson", V.str "OtherRegion", V.str "TightRegion", V.str "Blocked", V.str "InvalidText"] ++ [V.str "other", V.str "other", V.str "other", V.str "other"])) = J9 at *
    refine ⟨_, rfl, .inl ⟨rfl, _, SqL.of e6⟩, l5, [false, false, false, false, true, false, false, false, false], rfl, rfl, SqL.of e6, rfl, _, rfl, iteNS rfl ?_⟩
    refine ⟨_, rfl, CInvalidText, _, _, true, rfl, hx u6, .own _, RInvalidText.he hE, _, rfl, iteF ?_⟩
    refine ⟨_, rfl, CInvalidText, _, _, true, rfl, hx u6, .ty _, kitVE RInvalidText.mro, _, rfl, iteF ?_⟩
    refine ⟨_, rfl, _, rfl, .inl ⟨rfl, _, SqL.of e6⟩, l5, _, _, 4, _, rfl, rfl, SqL.of e6, rfl, rfl, rfl, rfl, ?_, w4, _, _, _, rfl, rfl, SqL.of f4, atI_nat (j := 4) rfl, q _ u6⟩
    intro m z' hm hz'
    match m, hm, hz' with
    | 0, _, hz' => cases hz'; rfl
    | 1, _, hz' => cases hz'; rfl
    | 2, _, hz' => cases hz'; rfl
    | 3, _, hz' => cases hz'; rfl
end
end Fw
namespace Fw
open PySem PySem.Spec PyProof.Rows L2
open RZ
/-- zip of two tuples, the second the shorter -/
theorem lc_zipS {K : PySem.W.Frag} {a b : Addr} {xs ys : List V} {g : TG} {tt : TT} {te : TE} {vs : List Nat} {σ : L2.St} {H1 : Hp} {D : Addr} {Qd : Hp → Prop} (hl : ys.length ≤ xs.length) (Pv : Nat → Hp → Prop) (h0 : Pv 0 (upd H1 D (.lst []))) (hq : ∀ i H, Pv i H → SqT K H a xs ∧ SqT K H b ys)
    (hs : ∀ (i : Nat) (x y : V) (T : Addr) (H : Hp), xs[i]? = some x → ys[i]? = some y → Pv i H → H T = none → g (.ref T) (wipe σ vs) (upd H T (.tup [x, y])) fun σ2 H2 => wipe σ2 vs = wipe σ vs ∧ tt σ2 H2 fun b H3 =>
      if b = true then te σ2 H3 fun y H4 => ∃ acc, H4 D = some (.lst acc) ∧ acc.length < sizeLine ∧ Pv (i + 1) (upd H4 D (.lst (acc ++ [y]))) else Pv (i + 1) H3) (hd : ∀ H, Pv ys.length H → Qd H) :
    ∃ W : Nat → Nat → Hp → Prop, (∃ m, W 0 m (upd H1 D (.lst []))) ∧ ∀ i m H, W i m H →
      ((ItzT K a b).stop i H ∧ Qd H) ∨ ((ItzT K a b).go i H ∧ ∃ Nx : Hp → Prop, (∀ H', Nx H' → ∃ m', m' < m ∧ W (i + 1) m' H') ∧ ∀ x H', (ItzT K a b).yld i H x H' → g x (wipe σ vs) H' fun σ2 H2 => wipe σ2 vs = wipe σ vs ∧ tt σ2 H2 fun b H3 =>
        if b = true then te σ2 H3 fun y H4 => ∃ acc, H4 D = some (.lst acc) ∧ acc.length < sizeLine ∧ Nx (upd H4 D (.lst (acc ++ [y]))) else Nx H3) := by
  refine ⟨fun i m H => m = ys.length - i ∧ i ≤ ys.length ∧ Pv i H, ⟨ys.length, rfl, Nat.zero_le _, h0⟩, ?_⟩
  rintro i m H ⟨rfl, hi, p⟩
  obtain ⟨qx, qy⟩ := hq i H p
  by_cases hlt : i < ys.length
  · have hx : xs[i]? = some xs[i] := List.getElem?_eq_getElem (by omega)
    have hy : ys[i]? = some ys[i] := List.getElem?_eq_getElem hlt
    refine .inr ⟨⟨xs, ys, _, _, qx, qy, hx, hy⟩, Pv (i + 1), fun H' p' => ⟨ys.length - (i + 1), by omega, rfl, hlt, p'⟩, fun v H' y => ?_⟩
    obtain ⟨T, x', y', rfl, hT, rfl, f1, f2⟩ := y
    exact hs i x' y' T H (f1 xs qx) (f2 ys qy) p hT
  · have e : i = ys.length := by omega
    subst e
    exact .inl ⟨⟨xs, ys, qx, qy, Or.inr (Nat.le_refl _)⟩, hd H p⟩
theorem k_ss : kitB "str" "str" = some true := by decide +kernel
theorem cut1 (xs : List V) : cutV xs (some 1) none = xs.drop 1 := by
  unfold cutV
  show (xs.drop (min 1 xs.length)).take (xs.length - min 1 xs.length) = xs.drop 1
  cases xs with
  | nil => rfl
  | cons x r =>
    rw [show min 1 (x :: r).length = 1 by simp]
    exact List.take_of_length_le (by simp)
theorem one_le {c : Nat} (h : 97 ≤ c) : decide ((⟨#[c]⟩ : Str).cps.toList < (Str.ofString "a").cps.toList) = false := by
  rw [show (Str.ofString "a").cps.toList = [97] by decide +kernel]
  rw [decide_eq_false_iff_not]
  intro h2
  have h2 : [c] < [97] := h2
  rw [List.cons_lt_cons_iff] at h2
  rcases h2 with h2 | ⟨_, h2⟩
  · omega
  · exact absurd h2 (List.lt_irrefl _)
theorem one_ge {c : Nat} (h : c ≤ 122) : decide ((Str.ofString "z").cps.toList < (⟨#[c]⟩ : Str).cps.toList) = false := by
  rw [show (Str.ofString "z").cps.toList = [122] by decide +kernel]
  rw [decide_eq_false_iff_not]
  intro h2
  have h2 : [122] < [c] := h2
  rw [List.cons_lt_cons_iff] at h2
  rcases h2 with h2 | ⟨_, h2⟩
  · omega
  · exact absurd h2 (List.lt_irrefl _)
theorem names_snoc {P : List (Str × Int)} {k : Nat} {nm : Str} {r : Int} (h : P[k]? = some (nm, r)) : (P.take (k + 1)).map (·.1) = (P.take k).map (·.1) ++ [nm] := by
  rw [take_snoc h, List.map_append]
  rfl
section
variable {P : Program} {w : World} {K : PySem.W.Frag} {mg : Str → Option Value} {base : Heap}
abbrev nIsName : List Str := ["value", "letter"]
theorem scIsName : FnScope nIsName ["value"] (defScope sIsName) := ⟨rfl, rfl, rfl, by decide +kernel, rfl, by decide +kernel, by decide +kernel⟩
abbrev nIsPair : List Str := ["value"]
theorem scIsPair : FnScope nIsPair ["value"] (defScope sIsPair) := ⟨rfl, rfl, rfl, by decide +kernel, rfl, by decide +kernel, by decide +kernel⟩
abbrev nIsPR : List Str := ["house", "value", "name", "room"]
theorem scIsPR : FnScope nIsPR ["house", "value"] (defScope sIsPR) := ⟨rfl, rfl, rfl, by decide +kernel, rfl, by decide +kernel, by decide +kernel⟩
abbrev nNamesOf : List Str := ["placement", "name", "room"]
theorem scNamesOf : FnScope nNamesOf ["placement"] (defScope sNamesOf) := ⟨rfl, rfl, rfl, by decide +kernel, rfl, by decide +kernel, by decide +kernel⟩
abbrev nIsAsc : List Str := ["sequence", "one", "other"]
theorem scIsAsc : FnScope nIsAsc ["sequence"] (defScope sIsAsc) := ⟨rfl, rfl, rfl, by decide +kernel, rfl, by decide +kernel, by decide +kernel⟩
abbrev nIsPl : List Str := ["house", "value", "pair"]
theorem scIsPl : FnScope nIsPl ["house", "value"] (defScope sIsPl) := ⟨rfl, rfl, rfl, by decide +kernel, rfl, by decide +kernel, by decide +kernel⟩
end
end Fw
set_option maxHeartbeats 2000000
namespace Fw
open PySem PySem.Spec PyProof.Rows L2
theorem dx_str {K : PySem.W.Frag} {av : List Addr} {H : Hp} {v : V} {z : Str} (h : Dx K av H v (.str z)) : v = .str z := by
  cases h
  rfl
end Fw
set_option maxHeartbeats 2000000
namespace Fw
open PySem PySem.Spec PyProof.Rows L2
/-! moves of any value into any value -/
/-- is it a room's number -/
def isRm (n : Int) : PyData → Bool
  | .int r => decide (0 ≤ r ∧ r < n)
  | _ => false
def isNum : PyData → Bool
  | .int _ => true
  | _ => false
theorem isNum_eq (d : PyData) : (isD "int" d && !isD "bool" d) = isNum d := by
  cases d <;> (simp only [isD, kindD, isNum]; decide)
theorem isNum_int {K : PySem.W.Frag} {av : List Addr} {H : Hp} {v : V} {d : PyData} (h : Dx K av H v d) (e : isNum d = true) : ∃ r : Int, d = .int r ∧ v = .int r := by
  cases h <;> first | (cases e; done) | exact ⟨_, rfl, rfl⟩
theorem isRm_no {n : Int} {d : PyData} (e : isNum d = false) : isRm n d = false := by
  cases d <;> first | (cases e; done) | rfl
section
variable {P : Program} {w : World} {K : PySem.W.Frag} {mg : Str → Option Value} {base : Heap}
def spIsNum (K : PySem.W.Frag) : Sp := fun vs H Q _ => ∃ (v : V) (d : PyData), vs = [v] ∧ Dx K [] H v d ∧ Q (.bl (isNum d)) H
theorem ok_isnum {f : Addr} {fd : FuncData} {k : Nat} (F : Fun K "is_integer" "is_integer" sIsInt f fd) (T : Nm mg) : FnOk P w K mg base CX0 (k + 1) f fd pIsInt (spIsNum K) := by
  refine F.ok scIsInt (fun vs H Q E h => ?_) (fun cdv A outer s H vs Q E hr h => ?_)
  · obtain ⟨v, d, rfl, _⟩ := h
    rfl
  · obtain ⟨v, d, rfl, hd, q⟩ := h
    refine ⟨_, (pss_one (ps_ret (pe_and (pe_callB (call_isD (av := [])) (by rfl) T.isinstance (by decide +kernel) (pa_cons (pv 0) (pa_cons (pe_bltn (v := .ty "int") (by rfl) T.int (by decide +kernel) rfl) pa_nil))) (pe_one (pe_not (pe_callB (call_isD (av := [])) (by rfl) T.isinstance (by decide +kernel) (pa_cons (pv 0) (pa_cons (pe_bltn (v := .ty "bool") (by rfl) T.bool (by decide +kernel) rfl) pa_nil)))))))), ?_⟩
    refine ⟨_, rfl, v, "int", d, rfl, by decide, hd, _, rfl, ?_⟩
    rw [← isNum_eq] at q
    cases e : isD "int" d with
    | false => rw [e] at q; exact iteF q
    | true => rw [e] at q; exact iteT ⟨_, rfl, v, "bool", d, rfl, by decide, hd, _, rfl, q⟩
def spIsRoomA (K : PySem.W.Frag) : Sp := fun vs H Q _ => ∃ (h : Addr) (n : Int) (D : List (Int × Int)) (v : V) (d : PyData), vs = [.ref h, v] ∧ HouseAt H h n D ∧ Dx K [] H v d ∧ Q (.bl (isRm n d)) H
theorem ok_isrooma {f : Addr} {fd : FuncData} {k : Nat} (F : Fun K "is_room" "is_room" sIsRoom f fd) (T : Nm mg) (Cis_integer : Cal P w K mg base (k + 1) "is_integer" pIsInt (spIsNum K)) : FnOk P w K mg base CX0 (k + 2) f fd pIsRoom (spIsRoomA K) := by
  refine F.ok scIsRoom (fun vs H Q E h => ?_) (fun cdv A outer s H vs Q E hr h => ?_)
  · obtain ⟨h, n, D, v, d, rfl, _⟩ := h
    rfl
  · obtain ⟨h, n, D, v, d, rfl, hH, hd, q⟩ := h
    refine ⟨_, (pss_one (ps_ret (pe_and (pe_cal Cis_integer hr (by rfl) (pa_cons (pv 1) pa_nil)) (pe_one (pe_chain op_le op_lt pe_int (pv 1) (pe_ix (ix_tupK K rfl) (pv 0) pe_int (fun _ _ => rfl))))))), ?_⟩
    obtain ⟨qd, eh⟩ := hH.room0
    refine ⟨_, rfl, v, d, rfl, hd, _, rfl, ?_⟩
    refine ite2 (fun c => ?_) (fun c => ?_)
    · obtain ⟨i, rfl, rfl⟩ := isNum_int hd c
      refine ⟨_, rfl, _, _, rfl, rfl, _, rfl, ?_⟩
      have q : Q (.bl (decide (0 ≤ i ∧ i < n))) H := q
      refine ite2 (fun c => ?_) (fun c => ?_)
      · refine ⟨_, rfl, h, _, _, _, rfl, rfl, SqT.of eh, atI0, _, _, rfl, rfl, ?_⟩
        have c : 0 ≤ i := of_decide_eq_true c
        rw [show decide (0 ≤ i ∧ i < n) = decide (i < n) by simp [c]] at q
        exact q
      · have c : ¬ 0 ≤ i := fun e => c (decide_eq_true e)
        rw [show decide (0 ≤ i ∧ i < n) = false by simp [c]] at q
        exact q
    · have c := Bool.eq_false_iff.mpr c
      rw [isRm_no c] at q
      exact q
end
end Fw
set_option maxHeartbeats 2000000
namespace Fw
open PySem PySem.Spec PyProof.Rows L2
/-! placements of any value -/
open RZ
def letr (z : Str) : Bool := z.cps.toList.all fun c => decide (97 ≤ c ∧ c ≤ 122)
def nmOk (z : Str) : Bool := decide (1 ≤ z.length ∧ z.length ≤ 8) && letr z
def nmD : PyData → Bool
  | .str z => nmOk z
  | _ => false
def isPr : PyData → Bool
  | .tuple ds => decide (ds.length = 2)
  | _ => false
/-- a person in a room -/
def prD (n : Int) : PyData → Bool
  | .tuple [a, b] => nmD a && isRm n b
  | _ => false
theorem prD_no {n : Int} {d : PyData} (h : isPr d = false) : prD n d = false := by
  cases d with
  | tuple ds =>
    match ds with
    | [] => rfl
    | [_] => rfl
    | [_, _] => cases h
    | _ :: _ :: _ :: _ => rfl
  | _ => rfl
theorem prD_pp {n : Int} {d : PyData} (h : prD n d = true) : ∃ x : Str × Int, d = pp x ∧ nmOk x.1 = true ∧ 0 ≤ x.2 ∧ x.2 < n := by
  cases d with
  | tuple ds =>
    match ds, h with
    | [a, b], h =>
      have h : (nmD a && isRm n b) = true := h
      rw [Bool.and_eq_true] at h
      obtain ⟨h1, h2⟩ := h
      cases a <;> first | (cases h1; done) | skip
      cases b <;> first | (cases h2; done) | skip
      rename_i z r
      exact ⟨(z, r), rfl, h1, of_decide_eq_true h2⟩
  | _ => cases h
theorem pp_prD {n : Int} {x : Str × Int} (h : nmOk x.1 = true ∧ 0 ≤ x.2 ∧ x.2 < n) : prD n (pp x) = true := by
  show (nmOk x.1 && decide (0 ≤ x.2 ∧ x.2 < n)) = true
  rw [h.1, decide_eq_true h.2]
  rfl
theorem prD_all {n : Int} : ∀ {ds : List PyData}, ds.all (prD n) = true → ∃ P : List (Str × Int), ds = P.map pp ∧ ∀ x ∈ P, nmOk x.1 = true ∧ 0 ≤ x.2 ∧ x.2 < n
  | [], _ => ⟨[], rfl, fun x hx => by cases hx⟩
  | d :: ds, h => by
    rw [List.all_cons, Bool.and_eq_true] at h
    obtain ⟨x, rfl, hx⟩ := prD_pp h.1
    obtain ⟨P, rfl, hP⟩ := prD_all h.2
    refine ⟨x :: P, rfl, fun y hy => ?_⟩
    rcases List.mem_cons.mp hy with rfl | hy
    · exact hx
    · exact hP y hy
theorem all_prD {n : Int} {P : List (Str × Int)} (h : ∀ x ∈ P, nmOk x.1 = true ∧ 0 ≤ x.2 ∧ x.2 < n) : (P.map pp).all (prD n) = true := by
  rw [List.all_eq_true]
  intro d hd
  obtain ⟨x, hx, rfl⟩ := List.mem_map.mp hd
  exact pp_prD (h x hx)
theorem pp_inj {x y : Str × Int} (h : pp x = pp y) : x = y := by
  obtain ⟨a, b⟩ := x
  obtain ⟨c, d⟩ := y
  have h : PyData.tuple [.str a, .int b] = .tuple [.str c, .int d] := h
  injection h with h
  injection h with h1 h2
  injection h2 with h2 _
  injection h1 with h1
  injection h2 with h2
  rw [h1, h2]
theorem pps_inj : ∀ {P Q : List (Str × Int)}, P.map pp = Q.map pp → P = Q
  | [], [], _ => rfl
  | [], _ :: _, h => by cases h
  | _ :: _, [], h => by cases h
  | x :: P, y :: Q, h => by
    rw [List.map_cons, List.map_cons] at h
    injection h with h1 h2
    rw [pp_inj h1, pps_inj h2]
/-- it is a placement of a house of n rooms -/
def PlP (n : Int) (d : PyData) : Prop := ∃ P : List (Str × Int), d = pld P ∧ P.length ≤ 12 ∧ (∀ x ∈ P, nmOk x.1 = true ∧ 0 ≤ x.2 ∧ x.2 < n) ∧ (P.map (·.1)).Pairwise ltS
open Classical in
noncomputable def plB (n : Int) (d : PyData) : Bool := decide (PlP n d)
theorem plB_yes {n : Int} {d : PyData} (h : PlP n d) : plB n d = true := @decide_eq_true _ (Classical.propDecidable _) h
theorem plB_no {n : Int} {d : PyData} (h : ¬ PlP n d) : plB n d = false := @decide_eq_false _ (Classical.propDecidable _) h
/-- each less than the next -/
def stepB (ns : List Str) (j : Nat) : Bool := decide ((ns.getD j "").cps.toList < (ns.getD (j + 1) "").cps.toList)
theorem up_steps {ns : List Str} : ns.Pairwise ltS ↔ ∀ j, j + 1 < ns.length → stepB ns j = true := by
  constructor
  · intro h j hj
    refine decide_eq_true ?_
    have := (List.pairwise_iff_getElem.mp h) j (j + 1) (by omega) hj (by omega)
    rw [List.getD_eq_getElem?_getD, List.getD_eq_getElem?_getD, List.getElem?_eq_getElem (by omega), List.getElem?_eq_getElem hj]
    exact this
  · intro h
    rw [List.pairwise_iff_getElem]
    intro i j hi hj lt
    obtain ⟨m, rfl⟩ : ∃ m, j = i + 1 + m := ⟨j - (i + 1), by omega⟩
    have one : ∀ a (ha : a + 1 < ns.length), ltS (ns[a]'(by omega)) (ns[a + 1]'ha) := fun a ha => by
      have := of_decide_eq_true (h a ha)
      rw [List.getD_eq_getElem?_getD, List.getD_eq_getElem?_getD, List.getElem?_eq_getElem (by omega), List.getElem?_eq_getElem ha] at this
      exact this
    clear lt
    induction m with
    | zero => exact one i hj
    | succ m ih => exact ltS_trans (ih (by omega) one) (one (i + 1 + m) hj)
open Classical in
noncomputable def ascB (ns : List Str) : Bool := @decide (ns.Pairwise ltS) (Classical.propDecidable _)
theorem ascB_yes {ns : List Str} (h : ns.Pairwise ltS) : ascB ns = true := @decide_eq_true _ (Classical.propDecidable _) h
theorem ascB_no {ns : List Str} (h : ¬ ns.Pairwise ltS) : ascB ns = false := @decide_eq_false _ (Classical.propDecidable _) h
theorem ascB_iff {ns : List Str} : ascB ns = true ↔ ns.Pairwise ltS := by
  constructor
  · intro h
    refine Classical.byContradiction fun n => ?_
    rw [ascB_no n] at h
    cases h
  · exact ascB_yes
theorem plB_iff {n : Int} {d : PyData} : plB n d = true ↔ PlP n d := by
  constructor
  · intro h
    refine Classical.byContradiction fun m => ?_
    rw [plB_no m] at h
    cases h
  · exact plB_yes
theorem up_all (ns : List Str) : ((List.range (ns.length - 1)).map (stepB ns)).all id = ascB ns := by
  rw [Bool.eq_iff_iff, ascB_iff, up_steps, List.all_eq_true]
  constructor
  · intro h j hj
    exact h _ (List.mem_map.mpr ⟨j, List.mem_range.mpr (by omega), rfl⟩)
  · intro h x hx
    obtain ⟨j, hj, rfl⟩ := List.mem_map.mp hx
    exact h j (by have := List.mem_range.mp hj; omega)
theorem range_snocB (f : Nat → Bool) (i : Nat) : ((List.range (i + 1)).map f).map V.bl = ((List.range i).map f).map V.bl ++ [V.bl (f i)] := by
  rw [List.range_succ, List.map_append, List.map_append]
  rfl
theorem a_le (c : Nat) : (!decide ((⟨#[c]⟩ : Str).cps.toList < (Str.ofString "a").cps.toList)) = decide (97 ≤ c) := by
  by_cases h : 97 ≤ c
  · rw [one_le h, decide_eq_true h]; rfl
  · rw [decide_eq_false h, show (Str.ofString "a").cps.toList = [97] by decide +kernel, decide_eq_true]
    · rfl
    · show [c] < [97]
      rw [List.cons_lt_cons_iff]
      exact .inl (by omega)
theorem z_ge (c : Nat) : (!decide ((Str.ofString "z").cps.toList < (⟨#[c]⟩ : Str).cps.toList)) = decide (c ≤ 122) := by
  by_cases h : c ≤ 122
  · rw [one_ge h, decide_eq_true h]; rfl
  · rw [decide_eq_false h, show (Str.ofString "z").cps.toList = [122] by decide +kernel, decide_eq_true]
    · rfl
    · show [122] < [c]
      rw [List.cons_lt_cons_iff]
      exact .inl (by omega)
theorem dxA_pps {K : PySem.W.Frag} {H : Hp} : ∀ {ps : List (Addr × Str × Int)}, (∀ p ∈ ps, H p.1 = some (.tup [.str p.2.1, .int p.2.2])) → DxAll K [] H (ps.map fun p => V.ref p.1) ((ps.map (·.2)).map pp)
  | [], _ => .nil
  | p :: ps, h => .cons (.tup (SqT.of (h p (List.mem_cons_self ..))) (.cons (.str _) (.cons (.int _) .nil))) (dxA_pps fun q hq => h q (List.mem_cons_of_mem _ hq))
theorem PlAt.dx {K : PySem.W.Frag} {H : Hp} {p : Addr} {P : List (Str × Int)} (x : PlAt H p P) : Dx K [] H (.ref p) (pld P) := by
  obtain ⟨ps, h1, h2, h3⟩ := x
  rw [h2]
  exact .tup h1.sq (dxA_pps h3)
theorem gd_str {b k n : Nat} {z : Str} (h : Gd b k n (.str z)) : z.length ≤ n := by
  have := h.w
  simp only [PyData.bulk] at this
  exact this
theorem letr_all (z : Str) : ((List.range z.cps.size).map fun i => decide (97 ≤ z.cps.toList.getD i 0 ∧ z.cps.toList.getD i 0 ≤ 122)).all id = letr z := by
  unfold letr
  rw [Bool.eq_iff_iff, List.all_eq_true, List.all_eq_true]
  have lz : z.cps.toList.length = z.cps.size := Array.length_toList
  constructor
  · intro h c hc
    obtain ⟨i, hi, rfl⟩ := List.getElem_of_mem hc
    have := h _ (List.mem_map.mpr ⟨i, List.mem_range.mpr (by omega), rfl⟩)
    rw [List.getD_eq_getElem?_getD, List.getElem?_eq_getElem hi] at this
    exact this
  · intro h x hx
    obtain ⟨i, hi, rfl⟩ := List.mem_map.mp hx
    have hi := List.mem_range.mp hi
    have hi' : i < z.cps.toList.length := by omega
    rw [List.getD_eq_getElem?_getD, List.getElem?_eq_getElem hi']
    exact h _ (List.getElem_mem hi')
section
variable {P : Program} {w : World} {K : PySem.W.Frag} {mg : Str → Option Value} {base : Heap}
def spIsNameA (K : PySem.W.Frag) : Sp := fun vs H Q _ => ∃ (v : V) (d : PyData) (b k n : Nat), vs = [v] ∧ Dx K [] H v d ∧ Gd b k n d ∧ n ≤ 100000 ∧ ∀ H', Same H H' → Q (.bl (nmD d)) H'
theorem ok_isnamea {f : Addr} {fd : FuncData} {k : Nat} (F : Fun K "is_name" "is_name" sIsName f fd) (T : Nm mg) {tk : Tok} (M : mg "LONGEST_NAME" = some (.int 8 tk)) : FnOk P w K mg base CX0 (k + 1) f fd pIsInt (spIsNameA K) := by
  refine F.ok scIsName (fun vs H Q E h => ?_) (fun cdv A outer s H vs Q E hr h => ?_)
  · obtain ⟨v, d, b, k, n, rfl, _⟩ := h
    rfl
  · obtain ⟨v, d, b, k, n, rfl, hd, gd, hn, q⟩ := h
    refine ⟨_, (pss_cons (ps_if (PW.pt (pw_or (pt_not (pt_val (pe_callB (call_isD (av := [])) (by rfl) T.isinstance (by decide +kernel) (pa_cons (pv 0) (pa_cons (pe_bltn (v := .ty "str") (by rfl) T.str (by decide +kernel) rfl) pa_nil))))) (pw_or1 (pt_not (pt_chain op_le op_le pe_int (pe_callB call_len_str (by rfl) T.len (by decide +kernel) (pa_cons (pv 0) pa_nil)) (pe_glob (v := .int 8) (by rfl) M ⟨_, rfl⟩))))))
      (pss_one (ps_ret pe_bl))
      pss_nil)
      (pss_one (ps_ret (pe_callB (cr_all rfl) (by rfl) T.all (by decide +kernel) (pa_cons (pe_lc (own := [("letter", 1)]) (g := gName 1) (by rfl) scIsName.nd (pi_str (pv 0))
 (blkOk_by (own := [("letter", 1)]) (N := nIsName) (sc := defScope sIsName) (by decide +kernel))
 (fun _ _ _ _ _ => (pg_name (i := 1) scIsName.nd rfl (.inl rfl))) (fun _ _ _ _ _ => pts_nil) (fun _ _ _ _ _ => (pe_chain op_le_str op_le_str pe_str (pv 1) pe_str))) pa_nil))))), ?_⟩
    refine ⟨_, rfl, v, "str", d, rfl, by decide, hd, _, rfl, ?_⟩
    refine ite2 (fun z => ?_) (fun z => ?_)
    · refine iteT ?_
      have : nmD d = false := by cases d <;> first | rfl | (cases z; done)
      rw [this] at q
      exact q _ (Same.refl _)
    have it : isD "str" d = true := by cases e : isD "str" d with | true => rfl | false => rw [e] at z; exact absurd rfl z
    have ex : ∃ z, d = .str z := by
      cases d <;> first | (cases it; done) | exact ⟨_, rfl⟩
    obtain ⟨nm, rfl⟩ := ex
    obtain rfl := dx_str hd
    have lz := gd_str gd
    have q : ∀ H', Same H H' → Q (.bl (nmOk nm)) H' := q
    have no : ¬ (1 ≤ nm.length ∧ nm.length ≤ 8) → nmOk nm = false := fun h => by unfold nmOk; rw [decide_eq_false h]; rfl
    refine ⟨_, rfl, _, rfl, by rw [sizeLine_eq]; omega, _, _, rfl, rfl, _, rfl, ?_⟩
    by_cases l1 : (1 : Int) ≤ (nm.length : Nat)
    · rw [decide_eq_true l1]
      refine iteT ⟨_, _, rfl, rfl, _, rfl, ?_⟩
      by_cases l2 : ((nm.length : Nat) : Int) ≤ 8
      · rw [decide_eq_true l2]
        refine iteF ⟨_, rfl, nm, rfl, fun L hL => lc_it walk_str (fun i H1 => Same H H1 ∧ H1 L = some (.lst (((List.range i).map fun i => decide (97 ≤ nm.cps.toList.getD i 0 ∧ nm.cps.toList.getD i 0 ≤ 122)).map V.bl))) ⟨same_upd hL, upd_same⟩ (fun _ _ _ _ => trivial) ?_ ?_⟩
        · rintro i x H1 H2 hi ⟨s1, e1⟩ ⟨rfl, c, hc, rfl⟩
          have ec : nm.cps.toList.getD i 0 = c := by
            rw [List.getD_eq_getElem?_getD, Array.getElem?_toList, hc]
            rfl
          refine ⟨rfl, ?_⟩
          unfold tYes
          have end' : ∀ b : Bool, b = decide (97 ≤ c ∧ c ≤ 122) → ∃ acc, H2 L = some (.lst acc) ∧ acc.length < sizeLine ∧ Same H (upd H2 L (.lst (acc ++ [V.bl b]))) ∧ (upd H2 L (.lst (acc ++ [V.bl b]))) L = some (.lst (((List.range (i + 1)).map fun i => decide (97 ≤ nm.cps.toList.getD i 0 ∧ nm.cps.toList.getD i 0 ≤ 122)).map V.bl)) := fun b eb => by
            refine ⟨_, e1, ?_, same_put s1 hL, ?_⟩
            · rw [List.length_map, List.length_map, List.length_range]
              have : nm.cps.size = nm.length := rfl
              exact small1000 (by omega)
            · rw [upd_same, range_snocB, ec, eb]
          refine iteT ⟨_, rfl, _, _, rfl, rfl, _, rfl, ?_⟩
          rw [a_le]
          by_cases h1 : 97 ≤ c
          · rw [decide_eq_true h1]
            refine iteT ⟨_, _, rfl, rfl, ?_⟩
            rw [z_ge]
            exact end' _ (by rw [Bool.eq_iff_iff]; simp; omega)
          · rw [decide_eq_false h1]
            exact iteF (end' false (by symm; rw [decide_eq_false_iff_not]; omega))
        · rintro H1 ⟨s1, e1⟩
          refine ⟨L, _, rfl, SqL.of e1, ?_⟩
          rw [letr_all]
          have : nmOk nm = letr nm := by
            unfold nmOk
            rw [decide_eq_true (by omega)]
            rfl
          rw [← this]
          exact q _ s1
      · rw [decide_eq_false l2]
        rw [no (by omega)] at q
        exact iteT (q _ (Same.refl _))
    · rw [decide_eq_false l1]
      rw [no (by omega)] at q
      exact iteF ⟨_, rfl, iteT (q _ (Same.refl _))⟩
def spIsPairA (K : PySem.W.Frag) : Sp := fun vs H Q _ => ∃ (v : V) (d : PyData), vs = [v] ∧ Dx K [] H v d ∧ Q (.bl (isPr d)) H
theorem ok_ispaira {f : Addr} {fd : FuncData} {k : Nat} (F : Fun K "is_pair" "is_pair" sIsPair f fd) (T : Nm mg) : FnOk P w K mg base CX0 (k + 1) f fd pIsInt (spIsPairA K) := by
  refine F.ok scIsPair (fun vs H Q E h => ?_) (fun cdv A outer s H vs Q E hr h => ?_)
  · obtain ⟨v, d, rfl, _⟩ := h
    rfl
  · obtain ⟨v, d, rfl, hd, q⟩ := h
    refine ⟨_, (pss_one (ps_ret (pe_and (pe_callB (call_isD (av := [])) (by rfl) T.isinstance (by decide +kernel) (pa_cons (pv 0) (pa_cons (pe_bltn (v := .ty "tuple") (by rfl) T.tuple (by decide +kernel) rfl) pa_nil))) (pe_one (pe_cmpR op_eq (pe_callB (call_lenK K rfl) (by rfl) T.len (by decide +kernel) (pa_cons (pv 0) pa_nil)) pe_int (nomark _)))))), ?_⟩
    refine ⟨_, rfl, v, "tuple", d, rfl, by decide, hd, _, rfl, ?_⟩
    cases e : isD "tuple" d with
    | false =>
      have : isPr d = false := by cases d <;> first | rfl | (cases e; done)
      rw [this] at q
      exact iteF q
    | true =>
      cases hd with
      | @tup a xs ds sq da =>
        refine iteT ⟨_, rfl, a, xs, rfl, .inr sq, rfl, ?_⟩
        have : decide (V.int ((xs.length : Nat) : Int) = V.int 2) = isPr (.tuple ds) := by
          rw [da.len]
          show _ = decide (ds.length = 2)
          rw [decide_eq_decide]
          constructor
          · intro h
            have := V.int.inj h
            omega
          · intro h
            rw [h]
            rfl
        rw [this]
        exact q
      | _ => exact absurd e (by simp [isD, kindD])
def spIsPRA (K : PySem.W.Frag) : Sp := fun vs H Q _ => ∃ (h : Addr) (n : Int) (D : List (Int × Int)) (v : V) (d : PyData) (b k m : Nat), vs = [.ref h, v] ∧ HouseAt H h n D ∧ Dx K [] H v d ∧ Gd b k m d ∧ m ≤ 100000 ∧ ∀ H', Same H H' → Q (.bl (prD n d)) H'
theorem ok_ispra {f : Addr} {fd : FuncData} {k : Nat} (F : Fun K "is_person_in_room" "is_person_in_room" sIsPR f fd) (Cis_pair : Cal P w K mg base (k + 2) "is_pair" pIsInt (spIsPairA K)) (Cis_name : Cal P w K mg base (k + 2) "is_name" pIsInt (spIsNameA K)) (Cis_room : Cal P w K mg base (k + 2) "is_room" pIsRoom (spIsRoomA K)) : FnOk P w K mg base CX0 (k + 3) f fd pIsRoom (spIsPRA K) := by
  refine F.ok scIsPR (fun vs H Q E h => ?_) (fun cdv A outer s H vs Q E hr h => ?_)
  · obtain ⟨h, n, D, v, d, b, k, m, rfl, _⟩ := h
    rfl
  · obtain ⟨h, n, D, v, d, b, k, m, rfl, hH, hd, gd, hm, q⟩ := h
    refine ⟨_, (pss_cons (ps_if (pt_not (pt_val (pe_cal Cis_pair hr (by rfl) (pa_cons (pv 1) pa_nil))))
      (pss_one (ps_ret pe_bl))
      pss_nil)
      (pss_cons (ps_asg (pv 1) (pg_tup (by rfl) (pgs_cons (pg_name (i := 2) scIsPR.nd rfl (.inl rfl)) (pgs_cons (pg_name (i := 3) scIsPR.nd rfl (.inl rfl)) pgs_nil))))
      (pss_one (ps_ret (pe_and (pe_cal Cis_name hr (by rfl) (pa_cons (pv 2) pa_nil)) (pe_one (pe_cal Cis_room hr (by rfl) (pa_cons (pv 0) (pa_cons (pv 3) pa_nil))))))))), ?_⟩
    refine ⟨_, rfl, v, d, rfl, hd, _, rfl, ?_⟩
    cases e : isPr d with
    | false =>
      rw [prD_no e] at q
      exact iteT (q _ (Same.refl _))
    | true =>
      cases hd with
      | @tup a xs ds sq da =>
        have l2 : ds.length = 2 := of_decide_eq_true e
        obtain ⟨dx, dy, rfl⟩ : ∃ dx dy, ds = [dx, dy] := by
          match ds, l2 with
          | [dx, dy], _ => exact ⟨dx, dy, rfl⟩
        obtain ⟨x, y, rfl, hx, hy⟩ : ∃ x y, xs = [x, y] ∧ Dx K [] H x dx ∧ Dx K [] H y dy := by
          cases da with
          | cons hx t =>
            cases t with
            | cons hy t =>
              cases t
              exact ⟨_, _, rfl, hx, hy⟩
        · skip
          have gA : GdA b (k - 1) m [dx, dy] := by
            cases k with
            | zero => exact gd.flat.elim
            | succ k => exact gd.un
          refine iteF ⟨_, rfl, a, _, rfl, sq, rfl, _, _, rfl, _, _, rfl, rfl, ?_⟩
          refine ⟨_, rfl, x, dx, b, k - 1, m, rfl, hx, gA.get (by simp), hm, fun H1 s1 => ?_⟩
          have q : ∀ H', Same H H' → Q (.bl (nmD dx && isRm n dy)) H' := q
          refine ⟨_, rfl, ?_⟩
          cases en : nmD dx with
          | false =>
            rw [en] at q
            exact iteF (q _ s1)
          | true =>
            rw [en] at q
            exact iteT ⟨_, rfl, _, rfl, h, n, D, y, dy, rfl, hH.same s1, dx_sm s1 hy, q _ s1⟩
      | _ => cases e
def spNamesA (K : PySem.W.Frag) : Sp := fun vs H Q _ => ∃ (v : V) (P : List (Str × Int)), vs = [v] ∧ Dx K [] H v (pld P) ∧ P.length ≤ 100 ∧ ∀ H' t, Same H H' → H' t = some (.tup ((P.map (·.1)).map V.str)) → Q (.ref t) H'
theorem dx_pps {K : PySem.W.Frag} {H : Hp} {xs : List V} {P : List (Str × Int)} (da : DxAll K [] H xs (P.map pp)) {i : Nat} {x : V} (e : xs[i]? = some x) : ∃ a nm r, P[i]? = some (nm, r) ∧ x = .ref a ∧ SqT K H a [.str nm, .int r] := by
  obtain ⟨d, ed, hd⟩ := da.at e
  rw [List.getElem?_map] at ed
  cases ep : P[i]? with
  | none => rw [ep] at ed; cases ed
  | some y =>
    rw [ep] at ed
    have ed : pp y = d := Option.some.inj ed
    rw [← ed] at hd
    have hd : Dx K [] H x (.tuple [.str y.1, .int y.2]) := hd
    cases hd with
    | @tup a xs ds sq t =>
      cases t with
      | cons h1 t =>
        cases t with
        | cons h2 t =>
          cases t
          cases h1
          cases h2
          exact ⟨a, y.1, y.2, rfl, rfl, sq⟩
theorem ok_namesa {f : Addr} {fd : FuncData} {k : Nat} (F : Fun K "names_of" "names_of" sNamesOf f fd) (T : Nm mg) : FnOk P w K mg base CX0 (k + 1) f fd pNamesOf (spNamesA K) := by
  refine F.ok scNamesOf (fun vs H Q E h => ?_) (fun cdv A outer s H vs Q E hr h => ?_)
  · obtain ⟨p, P, rfl, _⟩ := h
    rfl
  · obtain ⟨v, P, rfl, hd, lP, q⟩ := h
    refine ⟨_, (pss_one (ps_ret (pe_callTy (call_tupleK K rfl) (by rfl) T.tuple (by decide +kernel) (pa_cons (pe_lc (own := [("name", 1), ("room", 2)]) (g := gTup K 2 (gCons (gName 1) (gCons (gName 2) gNil))) (by rfl) scNamesOf.nd (pi_tup (pv 0))
 (blkOk_by (own := [("name", 1), ("room", 2)]) (N := nNamesOf) (sc := defScope sNamesOf) (by decide +kernel))
 (fun _ _ _ _ _ => (pg_tup (by rfl) (pgs_cons (pg_name (i := 1) scNamesOf.nd rfl (.inl rfl)) (pgs_cons (pg_name (i := 2) scNamesOf.nd rfl (.inl rfl)) pgs_nil)))) (fun _ _ _ _ _ => pts_nil) (fun _ _ _ _ _ => (pv 1))) pa_nil)))), ?_⟩
    have hd : Dx K [] H v (.tuple (P.map pp)) := hd
    cases hd with
    | @tup p xs ds sq da =>
      have lx : xs.length = P.length := by rw [da.len, List.length_map]
      refine ⟨_, rfl, p, rfl, ⟨_, sq⟩, fun L hL => lc_tup (K := K) (a := p) (xs := xs) (fun i H1 => Same H H1 ∧ H1 L = some (.lst (((P.take i).map (·.1)).map V.str))) ⟨same_upd hL, upd_same⟩ (fun i H1 _ hh => sqT_sm hh.1 sq) ?_ ?_⟩
      · rintro i x H1 hx ⟨s1, e1⟩
        obtain ⟨a, nm, r, hk, rfl, sqx⟩ := dx_pps (dxA_sm s1 da) hx
        refine ⟨a, _, rfl, sqx, rfl, _, _, rfl, _, _, rfl, rfl, rfl, ?_⟩
        unfold tYes
        refine iteT ⟨_, rfl, _, e1, ?_, same_put s1 hL, ?_⟩
        · rw [List.length_map, List.length_map, List.length_take]
          exact small1000 (by omega)
        · rw [upd_same, names_snoc hk, vs_app]
          rfl
      · rintro H1 ⟨s1, e1⟩
        rw [lx, List.take_length] at e1
        exact ⟨L, _, rfl, .inl ⟨SqL.of e1, fun t ht => q _ t (s1.trans (same_upd ht)) upd_same⟩⟩
def spIsAscB : Sp := fun vs H Q _ => ∃ (t : Addr) (ns : List Str), vs = [.ref t] ∧ H t = some (.tup (ns.map V.str)) ∧ ns.length ≤ 100 ∧ ∀ H', Same H H' → Q (.bl (ascB ns)) H'
theorem ok_isascb {f : Addr} {fd : FuncData} {k : Nat} (F : Fun K "is_ascending" "is_ascending" sIsAsc f fd) (T : Nm mg) : FnOk P w K mg base CX0 (k + 1) f fd pIsAsc spIsAscB := by
  refine F.ok scIsAsc (fun vs H Q E h => ?_) (fun cdv A outer s H vs Q E hr h => ?_)
  · obtain ⟨t, ns, rfl, _⟩ := h
    rfl
  · obtain ⟨t, ns, rfl, et, lns, q⟩ := h
    refine ⟨_, (pss_one (ps_ret (pe_callB (cr_all rfl) (by rfl) T.all (by decide +kernel) (pa_cons (pe_lc (own := [("one", 1), ("other", 2)]) (g := gTup K 2 (gCons (gName 1) (gCons (gName 2) gNil))) (by rfl) scIsAsc.nd (pi_zipA (by rfl) T.zip (pa_cons (pv 0) (pa_cons (pe_slice sl_tupS (pv 0) (po_some pe_int) po_none) pa_nil)))
 (blkOk_by (own := [("one", 1), ("other", 2)]) (N := nIsAsc) (sc := defScope sIsAsc) (by decide +kernel))
 (fun _ _ _ _ _ => (pg_tup (by rfl) (pgs_cons (pg_name (i := 1) scIsAsc.nd rfl (.inl rfl)) (pgs_cons (pg_name (i := 2) scIsAsc.nd rfl (.inl rfl)) pgs_nil)))) (fun _ _ _ _ _ => pts_nil) (fun _ _ _ _ _ => (pe_cmpR op_lt_str (pv 1) (pv 2) (nomark _)))) pa_nil)))), ?_⟩
    refine ⟨_, rfl, _, rfl, _, rfl, t, _, rfl, SqT.of et, fun H1 u s1 eu => ?_⟩
    rw [cut1] at eu
    refine ⟨t, u, _, _, rfl, .inr ⟨SqT.of (s1 _ _ et), eu, fun L hL => lc_zipS (K := K) (a := t) (b := u) (xs := ns.map V.str) (ys := (ns.map V.str).drop 1) (by rw [List.length_drop]; omega) (fun i H2 => Same H1 H2 ∧ H2 L = some (.lst (((List.range i).map (stepB ns)).map V.bl)))
      ⟨same_upd hL, upd_same⟩ (fun i H2 hh => ⟨SqT.of (hh.1 _ _ (s1 _ _ et)), sqT_sm hh.1 eu⟩) ?_ ?_⟩⟩
    · rintro i x y T' H2 hx hy ⟨s2, e2⟩ hT
      obtain ⟨a, ha, rfl⟩ := get_vs hx
      rw [List.getElem?_drop] at hy
      obtain ⟨b, hb, rfl⟩ := get_vs hy
      have li := lt_of_get ha
      have es : stepB ns i = decide (a.cps.toList < b.cps.toList) := by
        unfold stepB
        rw [List.getD_eq_getElem?_getD, List.getD_eq_getElem?_getD, ha, show i + 1 = 1 + i by omega, hb]
        rfl
      refine ⟨T', _, rfl, SqT.of upd_same, rfl, _, _, rfl, _, _, rfl, rfl, rfl, ?_⟩
      unfold tYes
      refine iteT ⟨_, rfl, _, rfl, _, _, rfl, rfl, ?_⟩
      refine ⟨_, same_upd hT _ _ e2, ?_, same_put (s2.trans (same_upd hT)) hL, ?_⟩
      · rw [List.length_map, List.length_map, List.length_range]
        exact small1000 (by omega)
      · rw [upd_same, range_snocB, es]
    · rintro H2 ⟨s2, e2⟩
      refine ⟨L, _, rfl, SqL.of e2, ?_⟩
      rw [List.length_drop, List.length_map, up_all]
      exact q _ (s1.trans s2)
def spIsPlA (K : PySem.W.Frag) : Sp := fun vs H Q _ => ∃ (h : Addr) (n : Int) (D : List (Int × Int)) (v : V) (d : PyData) (b k m : Nat), vs = [.ref h, v] ∧ HouseAt H h n D ∧ Dx K [] H v d ∧ Gd b k m d ∧ m ≤ 100000 ∧ ∀ H', Same H H' → Q (.bl (plB n d)) H'
theorem ok_ispla {f : Addr} {fd : FuncData} {k : Nat} (F : Fun K "is_placement" "is_placement" sIsPl f fd) (T : Nm mg) {tk : Tok} (M : mg "MAX_PEOPLE" = some (.int 12 tk)) (Cis_person_in_room : Cal P w K mg base (k + 3) "is_person_in_room" pIsRoom (spIsPRA K)) (Cnames_of : Cal P w K mg base (k + 3) "names_of" pNamesOf (spNamesA K)) (Cis_ascending : Cal P w K mg base (k + 3) "is_ascending" pIsAsc spIsAscB) : FnOk P w K mg base CX0 (k + 4) f fd pIsRoom (spIsPlA K) := by
  refine F.ok scIsPl (fun vs H Q E h => ?_) (fun cdv A outer s H vs Q E hr h => ?_)
  · obtain ⟨h, n, D, v, d, b, k, m, rfl, _⟩ := h
    rfl
  · obtain ⟨h, n, D, v, d, b, k, m, rfl, hH, hd, gd, hm, q⟩ := h
    refine ⟨_, (pss_cons (ps_if (PW.pt (pw_or (pt_not (pt_val (pe_callB (call_isD (av := [])) (by rfl) T.isinstance (by decide +kernel) (pa_cons (pv 1) (pa_cons (pe_bltn (v := .ty "tuple") (by rfl) T.tuple (by decide +kernel) rfl) pa_nil))))) (pw_or1 (pt_cmpR op_gt (pe_callB (call_lenK K rfl) (by rfl) T.len (by decide +kernel) (pa_cons (pv 1) pa_nil)) (pe_glob (v := .int 12) (by rfl) M ⟨_, rfl⟩) (nomark _)))))
      (pss_one (ps_ret pe_bl))
      pss_nil)
      (pss_cons (ps_if (pt_not (pt_val (pe_callB (cr_all rfl) (by rfl) T.all (by decide +kernel) (pa_cons (pe_lc (own := [("pair", 2)]) (g := gName 2) (by rfl) scIsPl.nd (pi_tup (pv 1))
 (blkOk_by (own := [("pair", 2)]) (N := nIsPl) (sc := defScope sIsPl) (by decide +kernel))
 (fun _ _ _ _ _ => (pg_name (i := 2) scIsPl.nd rfl (.inl rfl))) (fun _ _ _ _ _ => pts_nil) (fun _ _ _ _ _ => (pe_cal Cis_person_in_room hr (by rfl) (pa_cons (pv 0) (pa_cons (pv 2) pa_nil))))) pa_nil))))
      (pss_one (ps_ret pe_bl))
      pss_nil)
      (pss_one (ps_ret (pe_cal Cis_ascending hr (by rfl) (pa_cons (pe_cal Cnames_of hr (by rfl) (pa_cons (pv 1) pa_nil)) pa_nil)))))), ?_⟩
    refine ⟨_, rfl, v, "tuple", d, rfl, by decide, hd, _, rfl, ?_⟩
    have no : ¬ PlP n d → ∀ H', Same H H' → Q (.bl false) H' := fun h H' s' => by
      have := q H' s'
      rw [plB_no h] at this
      exact this
    refine ite2 (fun z => ?_) (fun z => ?_)
    · refine iteT (no (fun ⟨P, e, _⟩ => ?_) _ (Same.refl _))
      subst e
      cases z
    have it : isD "tuple" d = true := by cases e : isD "tuple" d with | true => rfl | false => rw [e] at z; exact absurd rfl z
    cases hd with
    | @tup a xs ds sq da =>
      clear it z
      have lx : xs.length = ds.length := da.len
      have gA : GdA b (k - 1) m ds := by
        cases k with
        | zero => exact gd.flat.elim
        | succ k => exact gd.un
      refine ⟨_, rfl, a, _, rfl, .inr sq, _, _, rfl, rfl, _, rfl, ?_⟩
      by_cases l12 : ((xs.length : Nat) : Int) > 12
      · rw [decide_eq_true l12]
        refine iteT (no (fun ⟨P, e, lP, _⟩ => ?_) _ (Same.refl _))
        have : ds = P.map pp := PyData.tuple.inj e
        rw [this, List.length_map] at lx
        omega
      rw [decide_eq_false l12]
      refine iteF ⟨_, rfl, a, rfl, ⟨_, sq⟩, fun L hL => lc_tup (K := K) (a := a) (xs := xs) (fun i H1 => Same H H1 ∧ H1 L = some (.lst (((ds.take i).map (prD n)).map V.bl))) ⟨same_upd hL, upd_same⟩ (fun i H1 _ hh => sqT_sm hh.1 sq) ?_ ?_⟩
      · rintro i x H1 hx ⟨s1, e1⟩
        obtain ⟨dx, edx, hdx⟩ := da.at hx
        have hi := lt_of_get hx
        refine ⟨rfl, ?_⟩
        unfold tYes
        refine iteT ⟨_, rfl, _, rfl, h, n, D, x, dx, b, k - 1, m, rfl, hH.same s1, dx_sm s1 hdx, gA.get (List.mem_of_getElem? edx), hm, fun H2 s2 => ⟨_, s2 _ _ e1, ?_, same_put (s1.trans s2) hL, ?_⟩⟩
        · rw [List.length_map, List.length_map, List.length_take]
          exact small1000 (by omega)
        · rw [upd_same, take_snoc edx, List.map_append, List.map_append]
          rfl
      · rintro H1 ⟨s1, e1⟩
        rw [lx, List.take_length] at e1
        refine ⟨L, _, rfl, SqL.of e1, _, rfl, ?_⟩
        have ea : (ds.map (prD n)).all id = ds.all (prD n) := by rw [List.all_map]; rfl
        rw [ea]
        cases eb : ds.all (prD n) with
        | false =>
          refine iteT (no (fun ⟨P, e, lP, hP, _⟩ => ?_) _ s1)
          have : ds = P.map pp := PyData.tuple.inj e
          rw [this, all_prD hP] at eb
          cases eb
        | true =>
          obtain ⟨P, rfl, hP⟩ := prD_all eb
          rw [List.length_map] at lx
          refine iteF ⟨_, rfl, .ref a, P, rfl, .tup (sqT_sm s1 sq) (dxA_sm s1 da), by omega, fun H2 t s2 e2 => ⟨t, _, rfl, e2, by rw [List.length_map]; omega, fun H3 s3 => ?_⟩⟩
          have := q _ (s1.trans (s2.trans s3))
          have eq : plB n (.tuple (P.map pp)) = ascB (P.map (·.1)) := by
            by_cases up : (P.map (·.1)).Pairwise ltS
            · rw [ascB_yes up]
              exact plB_yes ⟨P, rfl, by omega, hP, up⟩
            · rw [ascB_no up]
              refine plB_no fun ⟨P', e', _, _, up'⟩ => up ?_
              rw [pps_inj (PyData.tuple.inj e')]
              exact up'
          rw [eq] at this
          exact this
    | _ => exact absurd it (by simp [isD, kindD])
open Classical in
/-- is it a placement of the people named ns -/
noncomputable def tgB (n : Int) (ns : List Str) (d : PyData) : Bool := plB n d && decide (∃ P : List (Str × Int), d = pld P ∧ P.map (·.1) = ns)
def spIsTgA (K : PySem.W.Frag) : Sp := fun vs H Q _ => ∃ (h p : Addr) (n : Int) (D : List (Int × Int)) (PP : List (Str × Int)) (v : V) (d : PyData) (b k m : Nat), vs = [.ref h, .ref p, v] ∧ HouseAt H h n D ∧ PlAt H p PP ∧ PP.length ≤ 100 ∧ (∀ x ∈ PP, Nam x.1) ∧ Dx K [] H v d ∧ Gd b k m d ∧ m ≤ 100000 ∧ ∀ H', Same H H' → Q (.bl (tgB n (PP.map (·.1)) d)) H'
abbrev nIsTg : List Str := ["house", "placement", "value"]
theorem scIsTg : FnScope nIsTg ["house", "placement", "value"] (defScope sIsTg) := ⟨rfl, rfl, rfl, by decide +kernel, rfl, by decide +kernel, by decide +kernel⟩
theorem eqv_strs : ∀ xs ys : List Str, PyData.eqvAll (xs.map PyData.str) (ys.map PyData.str) = decide (xs = ys)
  | [], [] => by simp [PyData.eqvAll]
  | [], y :: ys => by simp [PyData.eqvAll]
  | x :: xs, [] => by simp [PyData.eqvAll]
  | x :: xs, y :: ys => by
    rw [List.map_cons, List.map_cons, PyData.eqvAll, eqv_strs xs ys, PyData.eqv]
    rw [Bool.eq_iff_iff]
    simp
theorem nmOk_ok {z : Str} (h : nmOk z = true) : PyData.strOk z = true := by
  unfold nmOk letr at h
  rw [Bool.and_eq_true, List.all_eq_true] at h
  unfold PyData.strOk
  rw [Array.all_eq_true_iff_forall_mem]
  intro c hc
  have := of_decide_eq_true (h.2 c (by rw [Array.mem_toList_iff]; exact hc))
  exact decide_eq_true (by omega)
theorem strs_layd {ns : List Str} (h : ∀ x ∈ ns, PyData.strOk x = true) : PyData.canLayAll0 (ns.map PyData.str) = true ∧ PyData.depthAll (ns.map PyData.str) = 0 := by
  induction ns with
  | nil => simp [PyData.canLayAll0, PyData.depthAll]
  | cons x ns ih =>
    obtain ⟨i1, i2⟩ := ih fun y hy => h y (List.mem_cons_of_mem _ hy)
    rw [List.map_cons]
    simp only [PyData.canLayAll0, PyData.depthAll, PyData.canLay0, PyData.depth, i1, i2, h x List.mem_cons_self, Bool.and_self, Nat.max_self, and_self]
theorem strsT_shaped {ns : List Str} (h : ∀ x ∈ ns, PyData.strOk x = true) : SeqAt.shaped (.tuple (ns.map PyData.str)) = true := by
  obtain ⟨l1, l2⟩ := strs_layd h
  unfold SeqAt.shaped
  rw [PyData.canLay0, l1, PyData.depth, l2]
  simp
theorem dp_strsT {K : PySem.W.Frag} {H : Hp} : ∀ ns : List Str, DpAll K H (ns.map V.str) (ns.map PyData.str)
  | [] => .nil
  | x :: ns => .cons (.str x) (dp_strsT ns)
theorem ok_istga {f : Addr} {fd : FuncData} {k : Nat} (F : Fun K "is_target" "is_target" sIsTg f fd) (Cis_placement : Cal P w K mg base (k + 4) "is_placement" pIsRoom (spIsPlA K)) (Cnames_of : Cal P w K mg base (k + 4) "names_of" pNamesOf (spNamesA K)) : FnOk P w K mg base CX0 (k + 5) f fd ["house", "placement", "value"] (spIsTgA K) := by
  refine F.ok scIsTg (fun vs H Q E h => ?_) (fun cdv A outer s H vs Q E hr h => ?_)
  · obtain ⟨h, p, n, D, PP, v, d, b, k, m, rfl, _⟩ := h
    rfl
  · obtain ⟨h, p, n, D, PP, v, d, b, k, m, rfl, hH, hP, lP, nP, hd, gd, hm, q⟩ := h
    refine ⟨_, (pss_one (ps_ret (pe_and (pe_cal Cis_placement hr (by rfl) (pa_cons (pv 0) (pa_cons (pv 2) pa_nil))) (pe_one (pe_cmpR (op_eqDK K rfl hr.units) (pe_cal Cnames_of hr (by rfl) (pa_cons (pv 2) pa_nil)) (pe_cal Cnames_of hr (by rfl) (pa_cons (pv 1) pa_nil)) (nomark _)))))), ?_⟩
    refine ⟨_, rfl, _, rfl, h, n, D, v, d, b, k, m, rfl, hH, hd, gd, hm, fun H1 s1 => ⟨_, rfl, ?_⟩⟩
    cases e : plB n d with
    | false =>
      have : tgB n (PP.map (·.1)) d = false := by unfold tgB; rw [e]; rfl
      rw [this] at q
      exact iteF (q _ s1)
    | true =>
      have pd : PlP n d := plB_iff.mp e
      obtain ⟨G, rfl, lG, hG, up⟩ := id pd
      refine iteT ⟨_, rfl, v, G, rfl, dx_sm s1 hd, by omega, fun H2 t s2 e2 => ⟨_, rfl, .ref p, PP, rfl, (hP.same (s1.trans s2)).dx, lP, fun H3 u s3 e3 => ?_⟩⟩
      have sh1 : SeqAt.shaped (.tuple ((G.map (·.1)).map PyData.str)) = true := strsT_shaped fun x hx => by
        obtain ⟨y, hy, rfl⟩ := List.mem_map.mp hx
        exact nmOk_ok (hG y hy).1
      have sh2 : SeqAt.shaped (.tuple ((PP.map (·.1)).map PyData.str)) = true := strsT_shaped fun x hx => by
        obtain ⟨y, hy, rfl⟩ := List.mem_map.mp hx
        exact nam_ok (nP y hy)
      refine ⟨_, _, .tup (SqT.of (s3 _ _ e2)) (dp_strsT _), .tup (SqT.of e3) (dp_strsT _), sh1, sh2, ?_⟩
      have eq : PyData.eqv (.tuple ((G.map (·.1)).map PyData.str)) (.tuple ((PP.map (·.1)).map PyData.str)) = tgB n (PP.map (·.1)) (pld G) := by
        rw [PyData.eqv, eqv_strs]
        unfold tgB
        rw [e, Bool.true_and, decide_eq_decide]
        constructor
        · intro h
          exact ⟨G, rfl, h⟩
        · rintro ⟨P', e', h⟩
          rw [pps_inj (PyData.tuple.inj e')]
          exact h
      rw [eq]
      exact q _ (s1.trans (s2.trans s3))
end
end Fw
set_option maxHeartbeats 2000000
set_option maxHeartbeats 2000000
set_option maxHeartbeats 2000000
namespace Fw
open PySem PySem.Spec PyProof.Rows L2
section
variable {X : Cx} {a b c d : Expr} {ta tb tc td : TE} {pos : Pos}
/-- a op b op' c op'' d -/
def tChain3 (p q r : R2) (ta tb tc td : TE) : TE := fun σ H Q => ta σ H fun x H1 => tb σ H1 fun y H2 => p x y H2 fun z H3 => ∃ k, z = .bl k ∧
  (if k = true then tc σ H3 fun y' H4 => q y y' H4 fun z' H5 => ∃ k', z' = .bl k' ∧ (if k' = true then td σ H5 fun w H6 => r y' w H6 Q else Q (.bl false) H5) else Q (.bl false) H3)
theorem pe_chain3 {o1 o2 o3 : CmpOp} {p q r : R2} (h1 : OpR X (compareOp o1) p) (h2 : OpR X (compareOp o2) q) (h3 : OpR X (compareOp o3) r) (ha : PE X a ta) (hb : PE X b tb) (hc : PE X c tc) (hd : PE X d td)
    (hm : lastMarks [o1, o2, o3] [b, c, d] = false := by with_unfolding_all rfl) : PE X (.Compare a [o1, o2, o3] [b, c, d] pos) (tChain3 p q r ta tb tc td) := by
  constructor
  intro pn sh σ H Q J hq
  refine Compare_chain (thn (ha.run pn sh σ H _ J hq) fun va s1 ⟨x, H1, J1, ra, q1⟩ => chain_link (thn (hb.run pn s1 σ H1 _ J1 q1) fun vb s2 ⟨y, H2, J2, rb, q2⟩ =>
    thn (h1 pn s2 σ H2 x y va vb _ J2 ra rb q2) fun t1 s3 ⟨z, H3, J3, rz, k, ek, q3⟩ => ?_)) hm
  subst ek
  cases rz
  refine wpAny_truthy_bool ?_
  cases k with
  | false => exact ite_ff ⟨.bl false, H3, J3, rfl, q3⟩
  | true =>
    refine ite_tt (chain_link (thn (hc.run pn s3 σ H3 _ J3 q3) fun vc s4 ⟨y', H4, J4, rc, q4⟩ => thn (h2 pn s4 σ H4 y y' vb vc _ J4 rb rc q4) fun t2 s5 ⟨z', H5, J5, rz', k', ek', q5⟩ => ?_))
    subst ek'
    cases rz'
    refine wpAny_truthy_bool ?_
    cases k' with
    | false => exact ite_ff ⟨.bl false, H5, J5, rfl, q5⟩
    | true => exact ite_tt (chain_last (thn (hd.run pn s5 σ H5 _ J5 q5) fun vd s6 ⟨w, H6, J6, rd, q6⟩ => h3 pn s6 σ H6 y' w vc vd Q J6 rc rd q6))
end
end Fw
set_option maxHeartbeats 2000000
namespace Fw
open PySem PySem.Spec PyProof.Rows L2
/-! enumerate(t) of a tuple t -/
/-- the enumerate at e with its iterator at it, i items of the tuple at t gone through -/
structure EnT (h : Heap) (e it t : Addr) (i : Nat) : Prop where
  en : ∃ old, IsEnum h e it ((i : Nat) : Int) old
  ir : h.IsTupleIter it t i
  ne : e ≠ it
theorem EnT.move {h h' : Heap} {e it t : Addr} {i : Nat} (x : EnT h e it t i) (k : ∀ b, b = e ∨ b = it → ∀ o, h.get? b = some o → h'.get? b = some o) : EnT h' e it t i := by
  obtain ⟨⟨old, a⟩, b, c⟩ := x
  exact ⟨⟨old, k e (.inl rfl) _ a⟩, b.at fun o => k it (.inr rfl) o, c⟩
theorem EnT.off {h : Heap} {e it t : Addr} {i : Nat} {items : Array Value} (x : EnT h e it t i) (y : h.IsTuple t items) : e ≠ t ∧ t ≠ it := by
  obtain ⟨⟨old, a⟩, ⟨o2, b1, b2, _⟩, _⟩ := x
  obtain ⟨o, y1, y2, _⟩ := y
  constructor
  · intro z
    rw [z] at a
    have := a.symm.trans y1
    cases this
    exact absurd (show Value.type "enumerate" = Value.type "tuple" from y2) (by decide)
  · intro z
    rw [← z, y1] at b1
    cases b1
    rw [y2] at b2
    exact absurd b2 (by decide)
def newEnum (a : Addr) : Obj := { cls := .type "enumerate", data := .fields #[.none, .bool false, .ref a, rawInt 0, .none, .none] }
def newIt (t : Addr) : Obj := { cls := .type "tuple_iterator", data := .fields #[.ref t, .int 0 0] }
theorem enumT_new (t : Addr) (items : Array Value) : Meets (Builtin.«enumerate.__new__» ⟨[.type "enumerate", .ref t], []⟩) (fun _ R s => s.heap.IsTuple t items ∧ R (.ok (.ret (.ref (s.heap.push (newIt t)).objs.size))) { s with heap := (s.heap.push (newIt t)).push (newEnum s.heap.objs.size) }) :=
  .of_wp fun prog w A R s hh => by
    obtain ⟨ht, fin⟩ := hh
    have st := sub_enumerate
    obtain ⟨hp, gs, ds, ts, oo⟩ := s
    have starts {A' : Around} {E' : Value → Shared → Prop} {Q' : Value → Shared → Prop} (q : Q' (.ref hp.objs.size) ⟨hp.push (newIt t), gs, ds, ts, oo⟩) : wpAny (model prog w) A' (pyIter (.ref t)) Q' E' ⟨hp, gs, ds, ts, oo⟩ := (begins_tuple t items).iter prog w A' E' _ _ ht q
    wp_walk using starts
    refine wpAny_stack_any fun _ => wpAny_pure ?_
    split
    · next c _ _ _ _ _ =>
      cases (c == Value.type "enumerate") <;> (wp_walk using starts; exact ⟨_, rfl, fin⟩)
    · wp_walk using starts
      exact ⟨_, rfl, fin⟩
section
variable {prog : Program} {w : World} {A : Around} {E : Value → Shared → Prop} {s : Shared}
theorem enumT_call {t : Addr} {items : Array Value} {Q : Value → Shared → Prop} (ht : s.heap.IsTuple t items)
    (fin : ∀ h', EnT h' (s.heap.objs.size + 1) s.heap.objs.size t 0 → (∀ b o, s.heap.get? b = some o → h'.get? b = some o) → Q (.ref (s.heap.objs.size + 1)) { s with heap := h' }) :
    wpAny (model prog w) A (call (.type "enumerate") [.ref t]) Q E s := by
  have e1 : (s.heap.push (newIt t)).objs.size = s.heap.objs.size + 1 := Heap.size_push ..
  have e2 := Heap.get?_push_size (s.heap.push (newIt t)) (o := newEnum s.heap.objs.size) rfl
  have e3 : ((s.heap.push (newIt t)).push (newEnum s.heap.objs.size)).get? s.heap.objs.size = some (newIt t) := Heap.get?_push_of_some _ (Heap.get?_push_size _ rfl)
  refine callType_new F.called_enumerate (by decide) (F.typeCall_enumerate_1 _) (F.newCall_enumerate_1 _) (fun _ => F.args_object_init_2 _ _) F.entry_enumerate_new (enumT_new t items) ⟨ht, ⟨_, e2, rfl⟩, ?_⟩
  rw [e1] at e2 ⊢
  exact fin _ ⟨⟨.none, e2⟩, ⟨_, e3, rfl, rfl⟩, Nat.succ_ne_self _⟩ fun b o z => Heap.get?_push_of_some _ (Heap.get?_push_of_some _ z)
/-- a turn: the pair is new, e and it go on, all else stays -/
theorem enumT_turn {elts : List Expr} {kk : Nat} {tpos : Pos} {e it t : Addr} {i : Nat} {items : Array Value} {x : Value} {Q : Value → Shared → Prop} (calm : A.handled = none) (n : EnT s.heap e it t i) (ht : s.heap.IsTuple t items) (hx : items[i]? = some x)
    (fin : ∀ h' tk tk', h'.get? s.heap.objs.size = some { cls := .type "tuple", data := .seq #[.int i tk, x] } → EnT h' e it t (i + 1) → (∀ b o, b ≠ e → b ≠ it → s.heap.get? b = some o → h'.get? b = some o) → Q (.ref s.heap.objs.size) { s with heap := h', toks := tk' }) :
    wpAny (model prog w) A (pyNext (.ref e)) (fun r s1 => ∃ u, r = some u ∧ wpAny (model prog w) A (letOwnedTupleGo (.Tuple elts kk tpos) (.ref e) u) (fun _ s2 => Q u s2) E s1) E s := by
  obtain ⟨o1, o2⟩ := n.off ht
  obtain ⟨⟨old, a⟩, b, ne⟩ := n
  have lt : i < items.size := by
    rcases Nat.lt_or_ge i items.size with h | h
    · exact h
    · rw [Array.getElem?_eq_none h] at hx; cases hx
  have le : e < s.heap.objs.size := Heap.lt_size a
  refine wpAny_pyNext_enum_itemD (Draws.tuple (A := A.in1) calm it t o2 items) a ⟨b, ht⟩ lt ne (by simp [ne, o1]) fun y h1 tk hy out st1 new sz keep => ⟨_, rfl, ?_⟩
  have hy : items[i]? = some y := hy
  rw [hx] at hy
  cases hy
  refine wpAny_letOwnedTupleGo_enum (s := { s with heap := h1, toks := tk + 1 }) out fun h2 en2 but => ?_
  refine fin h2 tk (tk + 1) ((but.2 _ (Nat.ne_of_gt le)).trans new) ⟨⟨x, ?_⟩, st1.1.at fun o z => (but.2 it ne.symm).trans z, ne⟩ fun c o ce ci z => (but.2 c ce).trans (keep c o ce ci z)
  · have : ((i + 1 : Nat) : Int) = (i : Int) + 1 := by omega
    rw [this]
    exact en2
theorem enumT_end {e it t : Addr} {i : Nat} {items : Array Value} {Q : Option Value → Shared → Prop} (calm : A.handled = none) (n : EnT s.heap e it t i) (ht : s.heap.IsTuple t items) (hi : i = items.size)
    (fin : ∀ h', Heap.ExtBut it s.heap h' → Q none { s with heap := h' }) : wpAny (model prog w) A (pyNext (.ref e)) Q E s := by
  obtain ⟨o1, o2⟩ := n.off ht
  obtain ⟨⟨old, a⟩, b, ne⟩ := n
  subst hi
  exact wpAny_pyNext_enum_endD (Draws.tuple (A := A.in1) calm it t o2 items) a ⟨b, ht⟩ fin
end
/-- the tuple at a; its items in new pairs with their numbers -/
def IteT (K : PySem.W.Frag) (a : Addr) : It where
  go i H := ∃ (xs : List V), SqT K H a xs ∧ i < xs.length
  yld i H v H' := ∃ T x, v = .ref T ∧ H T = none ∧ H' = upd H T (.tup [.int (i : Nat), x]) ∧ ∀ xs, SqT K H a xs → xs[i]? = some x
  stop i H := ∃ (xs : List V), SqT K H a xs ∧ xs.length = i
theorem turn_enumT {P : Program} {w : World} {K : PySem.W.Frag} {elts : List Expr} {kk : Nat} {tpos : Pos} (a e it : Addr) : Turn P w K (.Tuple elts kk tpos) (IteT K a) [e, it] e (fun i h => EnT h e it a i) where
  mem := List.mem_cons_self
  obj i h st b hb := by
    obtain ⟨⟨old, x⟩, ⟨o, y1, _, y3⟩, _⟩ := st
    rcases List.mem_cons.mp hb with rfl | hb
    · exact ⟨_, x, fun v z => nomatch z⟩
    · rw [List.mem_singleton.mp hb]
      exact ⟨o, y1, fun v z => by rw [y3] at z; cases z⟩
  keep i h h' st k := st.move fun b hb o z => k b (by rcases hb with rfl | rfl <;> simp) o z
  item := by
    rintro X rfl rfl rfl calm i pins s σ H E I free st ⟨xs, hq, lt⟩
    obtain ⟨us, rel, tp, _⟩ := I.tuple hq
    have hx : xs[i]? = some xs[i] := List.getElem?_eq_getElem lt
    obtain ⟨u, hu, ru⟩ := rel.get hx
    have small : ∀ b ∈ [e, it], b < s.heap.objs.size := fun b hb => by
      obtain ⟨⟨old, x⟩, ⟨o, y, _⟩, _⟩ := st
      rcases List.mem_cons.mp hb with rfl | hb
      · exact Heap.lt_size x
      · rw [List.mem_singleton.mp hb]
        exact Heap.lt_size y
    refine enumT_turn (I.ok.hd calm) st tp (x := u) (by simpa using hu) fun h' tk tk' new st' keep => ?_
    have J : Inv X pins σ (upd H s.heap.objs.size (.tup [.int (i : Nat), xs[i]])) { s with heap := h', toks := tk' } :=
      I.turnedNew (ch := [e, it]) (fun b o nb z => keep b o (fun y => nb (by simp [y])) (fun y => nb (by simp [y])) z) free (Nat.le_refl _)
        (show ObjOk X.prog X.w _ h' _ (.tup [.int (i : Nat), xs[i]]) from ⟨by show 2 ≤ sizeLine; decide, _, .cons ⟨_, rfl⟩ (.cons ru .nil), ⟨_, new, rfl, _, rfl⟩⟩)
    refine ⟨.ref s.heap.objs.size, _, J, rfl, ⟨_, xs[i], rfl, I.hok.fresh (Nat.le_refl _), rfl, fun ys hy => ?_⟩, st', fun b hb => ?_⟩
    · rw [I.tuple_inj hy hq]
      exact hx
    · rw [upd_ne (Nat.ne_of_lt (small b hb))]
      exact (free b hb).1
  done := by
    rintro X rfl rfl rfl calm i pins s σ H E I free st ⟨xs, hq, le⟩
    obtain ⟨us, rel, tp, _⟩ := I.tuple hq
    obtain ⟨f0, f1, f2, f3, f4, f5⟩ := free it (by simp)
    have l := rel.length
    refine enumT_end (I.ok.hd calm) st tp (by simp only [List.size_toArray]; omega) fun h' eb => ⟨rfl, ?_⟩
    exact I.turned (t' := s.toks) (fun b o nb z => eb b o nb z) f0 f1 f3 f4 f5
  self A i s Q E st h := let ⟨⟨_, x⟩, _, _⟩ := st; wpAny_pyIter_enum x h
def iEnumT (K : PySem.W.Frag) (ta : TA) : TI := fun σ H R => ta σ H fun vs H1 => ∃ a xs, vs = [.ref a] ∧ SqT K H1 a xs ∧ R (IteT K a) H1
theorem pi_enumT {X : Cx} {x : Expr} {ta : TA} {p pos tpos : Pos} {elts : List Expr} {kk : Nat} (gl : Gl X "enumerate") (no : X.mg "enumerate" = none) (ha : PA X [x] ta) (hs : starEach [x] X.env = [(false, eval x X.env)] := by rfl) : PI X (.Tuple elts kk tpos) (.Call (.Name "enumerate" p) [x] [] pos) (iEnumT X.K ta) where
  run pins s σ H R I rd := by
    refine Call_ (ld_blt I gl no boot_enumerate (PyProof.Rows.callWith_type1 (thn (ha.run pos pins s σ H _ I rd) ?_) hs rfl))
    rintro us s1 ⟨_, H1, J, rr, a, xs, rfl, hq, fin⟩
    obtain ⟨u, rfl, ru⟩ := vals1 rr
    cases (show u = Value.ref a from ru)
    obtain ⟨_, _, tp, _⟩ := J.tuple hq
    refine enumT_call tp fun h' n keep => wpAny_pyIter_enum n.en.choose_spec ⟨_, [_, _], _, _, H1, rfl, J.kept (t' := s1.toks) keep, turn_enumT a _ _, n, fun b hb => ?_, fin⟩
    have big : s1.heap.objs.size ≤ b := by
      rcases List.mem_cons.mp hb with rfl | hb
      · exact Nat.le_succ _
      · rw [List.mem_singleton.mp hb]
        exact Nat.le_refl _
    exact J.fpOk big (J.hok.fresh big)
theorem walk_enumT {K : PySem.W.Frag} {a : Addr} {xs : List V} : Walk (IteT K a) xs.length (fun H => SqT K H a xs) (YPair (fun i => some (.int (i : Nat))) (fun i => xs[i]?)) where
  goes i H lt q := ⟨xs, q, lt⟩
  stops H q := ⟨xs, q, rfl⟩
  yields i H v H' lt q y := by
    obtain ⟨T, x, rfl, fr, rfl, h⟩ := y
    exact ⟨T, _, x, rfl, fr, rfl, rfl, h xs q⟩
end Fw
set_option maxHeartbeats 2000000
namespace Fw
open PySem PySem.Spec PyProof.Rows L2
/-! ### placements compared -/
theorem eqvAll_pp : ∀ (R G : List (Str × Int)), PyData.eqvAll (R.map pp) (G.map pp) = decide (R = G)
  | [], [] => rfl
  | [], _ :: _ => by rw [List.map_nil, List.map_cons, PyData.eqvAll]; rfl
  | _ :: _, [] => by rw [List.map_nil, List.map_cons, PyData.eqvAll]; rfl
  | x :: R, y :: G => by
    rw [List.map_cons, List.map_cons, PyData.eqvAll, eqvAll_pp R G]
    obtain ⟨x1, x2⟩ := x
    obtain ⟨y1, y2⟩ := y
    simp only [pp, PyData.eqv, PyData.eqvAll, Bool.and_true]
    rw [Bool.eq_iff_iff]
    simp
theorem eqv_pld (R G : List (Str × Int)) : PyData.eqv (pld R) (pld G) = decide (R = G) := by
  unfold pld
  rw [PyData.eqv]
  exact eqvAll_pp R G
end Fw
set_option maxHeartbeats 2000000
namespace Fw
open PySem PySem.Spec PyProof.Rows L2
/-! houses of any value -/
section
variable {X : Cx} (K : PySem.W.Frag) (h : X.K = K)
include h
theorem op_ltTK (hu : X.A.units + 64 < cLine) : OpR X (compareOp .Lt) (rLtT K) := by subst h; exact op_ltT (by omega)
end
def pr2 : PyData → Bool
  | .tuple ds => decide (ds.length = 2)
  | _ => false
def drd (x : Int × Int) : PyData := .tuple [.int x.1, .int x.2]
def drD (n : Int) : PyData → Bool
  | .tuple [.int a, .int b] => decide (0 ≤ a ∧ a < b ∧ b < n)
  | _ => false
theorem drD_no {n : Int} {d : PyData} (h : pr2 d = false) : drD n d = false := by
  unfold drD
  split
  · cases h
  · rfl
theorem drD_num {n : Int} {a b : PyData} (h : (isNum a && isNum b) = false) : drD n (.tuple [a, b]) = false := by
  unfold drD
  split
  · rename_i e
    cases e
    cases h
  · rfl
theorem drD_some {n : Int} {d : PyData} (h : drD n d = true) : ∃ x : Int × Int, d = drd x ∧ 0 ≤ x.1 ∧ x.1 < x.2 ∧ x.2 < n := by
  unfold drD at h
  split at h
  · rename_i a b
    exact ⟨(a, b), rfl, of_decide_eq_true h⟩
  · cases h
theorem drD_drd {n : Int} {x : Int × Int} (h : 0 ≤ x.1 ∧ x.1 < x.2 ∧ x.2 < n) : drD n (drd x) = true := decide_eq_true h
theorem drd_inj {x y : Int × Int} (h : drd x = drd y) : x = y := by
  unfold drd at h
  injection h with h
  injection h with h1 h2
  injection h2 with h2 _
  injection h1 with h1
  injection h2 with h2
  exact Prod.ext h1 h2
theorem drds_inj : ∀ {D E : List (Int × Int)}, D.map drd = E.map drd → D = E
  | [], [], _ => rfl
  | [], _ :: _, h => by cases h
  | _ :: _, [], h => by cases h
  | x :: D, y :: E, h => by
    rw [List.map_cons, List.map_cons] at h
    injection h with h1 h2
    rw [drd_inj h1, drds_inj h2]
theorem drD_all {n : Int} : ∀ {ds : List PyData}, ds.all (drD n) = true → ∃ D : List (Int × Int), ds = D.map drd ∧ ∀ x ∈ D, 0 ≤ x.1 ∧ x.1 < x.2 ∧ x.2 < n
  | [], _ => ⟨[], rfl, fun x hx => by cases hx⟩
  | d :: ds, h => by
    rw [List.all_cons, Bool.and_eq_true] at h
    obtain ⟨x, rfl, hx⟩ := drD_some h.1
    obtain ⟨D, rfl, hD⟩ := drD_all h.2
    refine ⟨x :: D, rfl, fun y hy => ?_⟩
    rcases List.mem_cons.mp hy with rfl | hy
    · exact hx
    · exact hD y hy
theorem all_drD {n : Int} {D : List (Int × Int)} (h : ∀ x ∈ D, 0 ≤ x.1 ∧ x.1 < x.2 ∧ x.2 < n) : (D.map drd).all (drD n) = true := by
  rw [List.all_eq_true]
  intro d hd
  obtain ⟨x, hx, rfl⟩ := List.mem_map.mp hd
  exact drD_drd (h x hx)
/-- doors as they stand in memory -/
theorem dx_doors {K : PySem.W.Frag} {av : List Addr} {H : Hp} : ∀ {D : List (Int × Int)} {xs : List V}, DxAll K av H xs (D.map drd) → ∃ ps : List (Addr × Int × Int), xs = (ps.map fun p => V.ref p.1) ∧ D = ps.map (·.2) ∧ ∀ p ∈ ps, SqT K H p.1 [.int p.2.1, .int p.2.2]
  | [], _, h => by
    cases h
    exact ⟨[], rfl, rfl, fun p hp => by cases hp⟩
  | x :: D, _, h => by
    rw [List.map_cons] at h
    cases h with
    | @cons v _ _ _ h t =>
      obtain ⟨ps, rfl, e2, e3⟩ := dx_doors t
      have : ∃ u, v = .ref u ∧ SqT K H u [.int x.1, .int x.2] := by
        unfold drd at h
        cases h with
        | @tup u ys _ sq da =>
          cases da with
          | @cons y0 _ _ _ d0 da =>
            cases da with
            | @cons y1 _ _ _ d1 da =>
              cases da
              cases d0
              cases d1
              exact ⟨u, rfl, sq⟩
      obtain ⟨u, rfl, hu⟩ := this
      refine ⟨(u, x) :: ps, rfl, by rw [List.map_cons, e2], fun p hp => ?_⟩
      rcases List.mem_cons.mp hp with rfl | hp
      · exact hu
      · exact e3 p hp
/-- each door ahead of the next -/
def stepD (D : List (Int × Int)) (j : Nat) : Bool := HT.lexLt [(D.getD j (0, 0)).1, (D.getD j (0, 0)).2] [(D.getD (j + 1) (0, 0)).1, (D.getD (j + 1) (0, 0)).2]
theorem lex2 (a b : Int × Int) : HT.lexLt [a.1, a.2] [b.1, b.2] = true ↔ Dlt a b := by
  unfold Dlt
  rw [HT.lexLt_cons, HT.lexLt_cons, HT.lexLt_nil_nil]
  by_cases h : a.1 = b.1
  · rw [if_pos h]
    by_cases k : a.2 = b.2
    · rw [if_pos k]
      constructor
      · intro z; cases z
      · omega
    · rw [if_neg k, decide_eq_true_eq]
      omega
  · rw [if_neg h, decide_eq_true_eq]
    omega
open Classical in
noncomputable def ascD (D : List (Int × Int)) : Bool := @decide (D.Pairwise Dlt) (Classical.propDecidable _)
theorem ascD_iff {D : List (Int × Int)} : ascD D = true ↔ D.Pairwise Dlt := by unfold ascD; exact @decide_eq_true_iff _ (Classical.propDecidable _)
theorem up_stepsD {D : List (Int × Int)} : D.Pairwise Dlt ↔ ∀ j, j + 1 < D.length → stepD D j = true := by
  have at' : ∀ j (h : j < D.length), D.getD j (0, 0) = D[j] := fun j h => by rw [List.getD_eq_getElem?_getD, List.getElem?_eq_getElem h]; rfl
  constructor
  · intro h j hj
    have := (List.pairwise_iff_getElem.mp h) j (j + 1) (by omega) hj (by omega)
    unfold stepD
    rw [at' j (by omega), at' (j + 1) hj]
    exact (lex2 _ _).mpr this
  · intro h
    rw [List.pairwise_iff_getElem]
    intro i j hi hj lt
    obtain ⟨m, rfl⟩ : ∃ m, j = i + 1 + m := ⟨j - (i + 1), by omega⟩
    have one : ∀ a (ha : a + 1 < D.length), Dlt (D[a]'(by omega)) (D[a + 1]'ha) := fun a ha => by
      have := h a ha
      unfold stepD at this
      rw [at' a (by omega), at' (a + 1) ha] at this
      exact (lex2 _ _).mp this
    clear lt
    induction m with
    | zero => exact one i hj
    | succ m ih => exact Dlt.trans' (ih (by omega) one) (one (i + 1 + m) hj)
theorem up_allD (D : List (Int × Int)) : ((List.range (D.length - 1)).map (stepD D)).all id = ascD D := by
  rw [Bool.eq_iff_iff, ascD_iff, up_stepsD, List.all_eq_true]
  constructor
  · intro h j hj
    exact h _ (List.mem_map.mpr ⟨j, List.mem_range.mpr (by omega), rfl⟩)
  · intro h x hx
    obtain ⟨j, hj, rfl⟩ := List.mem_map.mp hx
    exact h j (by have := List.mem_range.mp hj; omega)
theorem range_snocD (f : Nat → Bool) (i : Nat) : ((List.range (i + 1)).map f).map V.bl = ((List.range i).map f).map V.bl ++ [V.bl (f i)] := by
  rw [List.range_succ, List.map_append, List.map_append]
  rfl
theorem cut_at {xs : List V} {i : Nat} (h : i ≤ xs.length) : cutV xs none (some (i : Int)) = xs.take i := by
  unfold cutV
  rw [HT.sIx_none, HT.sIx_nat, List.drop_zero, Nat.min_eq_left h]
  rfl
open Classical in
noncomputable def forB (n : Int) (D : List (Int × Int)) : Bool := @decide (Forest n D) (Classical.propDecidable _)
theorem forB_iff {n : Int} {D : List (Int × Int)} : forB n D = true ↔ Forest n D := by unfold forB; exact @decide_eq_true_iff _ (Classical.propDecidable _)
def hsd (n : Int) (D : List (Int × Int)) : PyData := .tuple [.int n, .tuple (D.map drd)]
/-- it is a house -/
def HsP (d : PyData) : Prop := ∃ n D, d = hsd n D ∧ 1 ≤ n ∧ n ≤ 8 ∧ Forest n D
open Classical in
noncomputable def hsB (d : PyData) : Bool := @decide (HsP d) (Classical.propDecidable _)
theorem hsB_iff {d : PyData} : hsB d = true ↔ HsP d := by unfold hsB; exact @decide_eq_true_iff _ (Classical.propDecidable _)
theorem hsB_no {d : PyData} (h : ¬ HsP d) : hsB d = false := by rw [Bool.eq_false_iff]; exact fun e => h (hsB_iff.mp e)
theorem hsd_inj {n m : Int} {D E : List (Int × Int)} (h : hsd n D = hsd m E) : n = m ∧ D = E := by
  unfold hsd at h
  injection h with h
  injection h with h1 h2
  injection h1 with h1
  injection h2 with h2 _
  injection h2 with h2
  exact ⟨h1, drds_inj h2⟩
theorem hsd_inj2 {n m : Int} {ds : List PyData} {E : List (Int × Int)} (h : PyData.tuple [.int n, .tuple ds] = hsd m E) : n = m ∧ ds = E.map drd := by
  unfold hsd at h
  injection h with h
  injection h with h1 h2
  injection h1 with h1
  injection h2 with h2 _
  injection h2 with h2
  exact ⟨h1, h2⟩
section
variable {P : Program} {w : World} {K : PySem.W.Frag} {mg : Str → Option Value} {base : Heap}
def spPair2 (K : PySem.W.Frag) : Sp := fun vs H Q _ => ∃ (v : V) (d : PyData), vs = [v] ∧ Dx K [] H v d ∧ Q (.bl (pr2 d)) H
theorem ok_pair2 {f : Addr} {fd : FuncData} {k : Nat} (F : Fun K "is_pair" "is_pair" sIsPair f fd) (T : Nm mg) : FnOk P w K mg base CX0 (k + 1) f fd pIsInt (spPair2 K) := by
  refine F.ok scIsPair (fun vs H Q E h => ?_) (fun cdv A outer s H vs Q E hr h => ?_)
  · obtain ⟨v, d, rfl, _⟩ := h
    rfl
  · obtain ⟨v, d, rfl, hd, q⟩ := h
    refine ⟨_, (pss_one (ps_ret (pe_and (pe_callB (call_isD (av := [])) (by rfl) T.isinstance (by decide +kernel) (pa_cons (pv 0) (pa_cons (pe_bltn (v := .ty "tuple") (by rfl) T.tuple (by decide +kernel) rfl) pa_nil))) (pe_one (pe_cmpR op_eq (pe_callB (call_lenK K rfl) (by rfl) T.len (by decide +kernel) (pa_cons (pv 0) pa_nil)) pe_int (nomark _)))))), ?_⟩
    refine ⟨_, rfl, v, "tuple", d, rfl, by decide, hd, _, rfl, ?_⟩
    cases e : isD "tuple" d with
    | false =>
      have : pr2 d = false := by cases d <;> first | rfl | (cases e; done)
      rw [this] at q
      exact iteF q
    | true =>
      cases hd with
      | @tup a xs ds sq da =>
        refine iteT ⟨_, rfl, a, xs, rfl, .inr sq, rfl, ?_⟩
        have : decide (V.int ((xs.length : Nat) : Int) = V.int 2) = pr2 (.tuple ds) := by
          rw [da.len]
          show _ = decide (ds.length = 2)
          rw [decide_eq_decide]
          constructor
          · intro h
            have := V.int.inj h
            omega
          · intro h
            rw [h]
            rfl
        rw [this]
        exact q
      | _ => exact absurd e (by simp [isD, kindD])
def spDoor (K : PySem.W.Frag) : Sp := fun vs H Q _ => ∃ (n : Int) (v : V) (d : PyData), vs = [.int n, v] ∧ Dx K [] H v d ∧ Q (.bl (drD n d)) H
abbrev nIsDoor : List Str := ["rooms", "value", "a", "b"]
theorem scIsDoor : FnScope nIsDoor ["rooms", "value"] (defScope sIsDoor) := ⟨rfl, rfl, rfl, by decide +kernel, rfl, by decide +kernel, by decide +kernel⟩
theorem ok_door {f : Addr} {fd : FuncData} {k : Nat} (F : Fun K "is_door" "is_door" sIsDoor f fd) (Cis_pair : Cal P w K mg base k "is_pair" pIsInt (spPair2 K)) (Cis_integer : Cal P w K mg base k "is_integer" pIsInt (spIsNum K)) : FnOk P w K mg base CX0 (k + 1) f fd ["rooms", "value"] (spDoor K) := by
  refine F.ok scIsDoor (fun vs H Q E h => ?_) (fun cdv A outer s H vs Q E hr h => ?_)
  · obtain ⟨n, v, d, rfl, _⟩ := h
    rfl
  · obtain ⟨n, v, d, rfl, hd, q⟩ := h
    refine ⟨_, (pss_cons (ps_if (pt_not (pt_val (pe_cal Cis_pair hr (by rfl) (pa_cons (pv 1) pa_nil))))
      (pss_one (ps_ret pe_bl))
      pss_nil)
      (pss_cons (ps_asg (pv 1) (pg_tup (by rfl) (pgs_cons (pg_name (i := 2) scIsDoor.nd rfl (.inl rfl)) (pgs_cons (pg_name (i := 3) scIsDoor.nd rfl (.inl rfl)) pgs_nil))))
      (pss_one (ps_ret (pe_and (pe_cal Cis_integer hr (by rfl) (pa_cons (pv 2) pa_nil)) (pe_and (pe_cal Cis_integer hr (by rfl) (pa_cons (pv 3) pa_nil)) (pe_one (pe_chain3 op_le op_lt op_lt pe_int (pv 2) (pv 3) (pv 0))))))))), ?_⟩
    refine ⟨_, rfl, v, d, rfl, hd, _, rfl, ?_⟩
    cases e : pr2 d with
    | false =>
      rw [drD_no e] at q
      exact iteT q
    | true =>
      refine iteF ?_
      cases hd with
      | @tup a xs ds sq da =>
        have l2 : ds.length = 2 := of_decide_eq_true e
        match ds, l2, da with
        | [d0, d1], _, da =>
          cases da with
          | @cons x0 _ _ _ h0 da =>
          cases da with
          | @cons x1 _ _ _ h1 da =>
          cases da
          refine ⟨_, rfl, a, _, rfl, sq, rfl, _, _, rfl, _, _, rfl, rfl, ?_⟩
          refine ⟨_, rfl, x0, d0, rfl, h0, _, rfl, ?_⟩
          cases e0 : isNum d0 with
          | false =>
            rw [drD_num (by rw [e0]; rfl)] at q
            exact iteF q
          | true =>
            refine iteT ⟨_, rfl, x1, d1, rfl, h1, _, rfl, ?_⟩
            cases e1 : isNum d1 with
            | false =>
              rw [drD_num (by rw [e0, e1]; rfl)] at q
              exact iteF q
            | true =>
              obtain ⟨i, rfl, rfl⟩ := isNum_int h0 e0
              obtain ⟨j, rfl, rfl⟩ := isNum_int h1 e1
              have q : Q (.bl (decide (0 ≤ i ∧ i < j ∧ j < n))) H := q
              refine iteT ⟨_, rfl, _, _, rfl, rfl, _, rfl, ?_⟩
              refine ite2 (fun c => ?_) (fun c => ?_)
              · have c := of_decide_eq_true c
                refine ⟨_, rfl, _, _, rfl, rfl, _, rfl, ?_⟩
                refine ite2 (fun c2 => ?_) (fun c2 => ?_)
                · have c2 := of_decide_eq_true c2
                  refine ⟨_, rfl, _, _, rfl, rfl, ?_⟩
                  rw [show decide (0 ≤ i ∧ i < j ∧ j < n) = decide (j < n) by simp [c, c2]] at q
                  exact q
                · have c2 : ¬ i < j := fun z => c2 (decide_eq_true z)
                  rw [show decide (0 ≤ i ∧ i < j ∧ j < n) = false by simp [c2]] at q
                  exact q
              · have c : ¬ 0 ≤ i := fun z => c (decide_eq_true z)
                rw [show decide (0 ≤ i ∧ i < j ∧ j < n) = false by simp [c]] at q
                exact q
      | _ => exact absurd e (by simp [pr2])
def spAscD (K : PySem.W.Frag) : Sp := fun vs H Q _ => ∃ (t : Addr) (ps : List (Addr × Int × Int)), vs = [.ref t] ∧ SqT K H t (ps.map fun p => V.ref p.1) ∧ (∀ p ∈ ps, SqT K H p.1 [.int p.2.1, .int p.2.2]) ∧ ps.length ≤ 100000 ∧ ∀ H', Same H H' → Q (.bl (ascD (ps.map (·.2)))) H'
theorem ok_ascd {f : Addr} {fd : FuncData} {k : Nat} (F : Fun K "is_ascending" "is_ascending" sIsAsc f fd) (T : Nm mg) : FnOk P w K mg base CX0 (k + 1) f fd pIsAsc (spAscD K) := by
  refine F.ok scIsAsc (fun vs H Q E h => ?_) (fun cdv A outer s H vs Q E hr h => ?_)
  · obtain ⟨t, ps, rfl, _⟩ := h
    rfl
  · obtain ⟨t, ps, rfl, et, hp, lps, q⟩ := h
    refine ⟨_, (pss_one (ps_ret (pe_callB (cr_all rfl) (by rfl) T.all (by decide +kernel) (pa_cons (pe_lc (own := [("one", 1), ("other", 2)]) (g := gTup K 2 (gCons (gName 1) (gCons (gName 2) gNil))) (by rfl) scIsAsc.nd (RZ.pi_zipA (by rfl) T.zip (pa_cons (pv 0) (pa_cons (pe_slice sl_tupS (pv 0) (po_some pe_int) po_none) pa_nil)))
 (blkOk_by (own := [("one", 1), ("other", 2)]) (N := nIsAsc) (sc := defScope sIsAsc) (by decide +kernel))
 (fun _ _ _ _ _ => (pg_tup (by rfl) (pgs_cons (pg_name (i := 1) scIsAsc.nd rfl (.inl rfl)) (pgs_cons (pg_name (i := 2) scIsAsc.nd rfl (.inl rfl)) pgs_nil)))) (fun _ _ _ _ _ => pts_nil) (fun _ _ _ _ _ => (pe_cmpR (op_ltTK K rfl hr.units) (pv 1) (pv 2) (nomark _)))) pa_nil)))), ?_⟩
    refine ⟨_, rfl, _, rfl, _, rfl, t, _, rfl, et, fun H1 u s1 eu => ?_⟩
    rw [cut1] at eu
    have sz := sizeLine_eq
    refine ⟨t, u, _, _, rfl, .inr ⟨sqT_sm s1 et, eu, fun L hL => lc_zipS (K := K) (a := t) (b := u) (xs := ps.map fun p : Addr × Int × Int => V.ref p.1) (ys := (ps.map fun p : Addr × Int × Int => V.ref p.1).drop 1) (by rw [List.length_drop]; omega) (fun i H2 => Same H1 H2 ∧ H2 L = some (.lst (((List.range i).map (stepD (ps.map (·.2)))).map V.bl)))
      ⟨same_upd hL, upd_same⟩ (fun i H2 hh => ⟨sqT_sm hh.1 (sqT_sm s1 et), sqT_sm hh.1 eu⟩) ?_ ?_⟩⟩
    · rintro i x y T' H2 hx hy ⟨s2, e2⟩ hT
      obtain ⟨a, ha, rfl⟩ := get_ref hx
      rw [List.getElem?_drop] at hy
      obtain ⟨b, hb, rfl⟩ := get_ref hy
      have li := lt_of_get ha
      have es : stepD (ps.map (·.2)) i = HT.lexLt [a.2.1, a.2.2] [b.2.1, b.2.2] := by
        unfold stepD
        rw [List.getD_eq_getElem?_getD, List.getD_eq_getElem?_getD, List.getElem?_map, List.getElem?_map, ha, show i + 1 = 1 + i by omega, hb]
        rfl
      have s3 := s2.trans (same_upd (o := .tup [.ref a.1, .ref b.1]) hT)
      refine ⟨T', _, rfl, SqT.of upd_same, rfl, _, _, rfl, _, _, rfl, rfl, rfl, ?_⟩
      unfold tYes
      refine iteT ⟨_, rfl, _, rfl, a.1, b.1, [a.2.1, a.2.2], [b.2.1, b.2.2], rfl, rfl, sqT_sm (s1.trans s3) (hp a (List.mem_of_getElem? ha)), sqT_sm (s1.trans s3) (hp b (List.mem_of_getElem? hb)), ?_⟩
      refine ⟨_, same_upd hT _ _ e2, ?_, same_put s3 hL, ?_⟩
      · rw [List.length_map, List.length_map, List.length_range]
        omega
      · rw [upd_same, range_snocD, es]
    · rintro H2 ⟨s2, e2⟩
      refine ⟨L, _, rfl, SqL.of e2, ?_⟩
      rw [List.length_drop, List.length_map, show ps.length = (ps.map (·.2)).length by rw [List.length_map], up_allD]
      exact q _ (s1.trans s2)
def spHasC (K : PySem.W.Frag) : Sp := fun vs H Q _ => ∃ (n : Int) (t : Addr) (ps : List (Addr × Int × Int)), vs = [.int n, .ref t] ∧ 1 ≤ n ∧ n ≤ 8 ∧ SqT K H t (ps.map fun p => V.ref p.1) ∧ (∀ p ∈ ps, SqT K H p.1 [.int p.2.1, .int p.2.2]) ∧ (∀ p ∈ ps, 0 ≤ p.2.1 ∧ p.2.1 < p.2.2 ∧ p.2.2 < n) ∧ (ps.map (·.2)).Pairwise Dlt ∧
  ∀ H', Same H H' → Q (.bl (!forB n (ps.map (·.2)))) H'
abbrev nHasCyc : List Str := ["rooms", "doors", "at", "a", "b"]
theorem scHasCyc : FnScope nHasCyc ["rooms", "doors"] (defScope sHasCyc) := ⟨rfl, rfl, rfl, by decide +kernel, rfl, by decide +kernel, by decide +kernel⟩
theorem ok_hasc {f : Addr} {fd : FuncData} {k : Nat} (F : Fun K "has_cycle" "has_cycle" sHasCyc f fd) (Tenum : mg "enumerate" = none) (Cpath_between : Cal P w K mg base k "path_between" ["house", "a", "b"] (spPathQ K)) : FnOk P w K mg base CX0 (k + 1) f fd ["rooms", "doors"] (spHasC K) := by
  refine F.ok scHasCyc (fun vs H Q E h => ?_) (fun cdv A outer s H vs Q E hr h => ?_)
  · obtain ⟨n, t, ps, rfl, _⟩ := h
    rfl
  · obtain ⟨n, t, ps, rfl, n1, n8, et, hp, rg', up, q⟩ := h
    refine ⟨_, (pss_cons (ps_for PassesOwn.never rfl (pi_enumT (by rfl) Tenum (pa_cons (pv 1) pa_nil)) (pg_tup (by rfl) (pgs_cons (pg_name (i := 2) scHasCyc.nd rfl (.inl rfl)) (pgs_cons (pg_tup (by rfl) (pgs_cons (pg_name (i := 3) scHasCyc.nd rfl (.inl rfl)) (pgs_cons (pg_name (i := 4) scHasCyc.nd rfl (.inl rfl)) pgs_nil))) pgs_nil)))
      (pss_one (ps_if (pt_cmp (pc_notN (pe_cal Cpath_between hr (by rfl) (pa_cons (pe_tup (pa_cons (pv 0) (pa_cons (pe_slice sl_tupS (pv 1) po_none (po_some (pv 2))) pa_nil))) (pa_cons (pv 3) (pa_cons (pv 4) pa_nil))))))
       (pss_one (ps_ret pe_bl))
       pss_nil)))
      (pss_one (ps_ret pe_bl))), ?_⟩
    have lps : ps.length = (ps.map (·.2)).length := by rw [List.length_map]
    refine ⟨_, rfl, t, _, rfl, et, for_it (walk_enumT (K := K) (a := t) (xs := ps.map fun p => V.ref p.1)) (fun i σ' H' => ∃ y2 y3 y4, σ' = [some (.int n), some (.ref t), y2, y3, y4] ∧ Same H H' ∧ Forest n ((ps.map (·.2)).take i))
      ⟨_, _, _, rfl, Same.refl _, forest_nil n8⟩ (fun i σ' H' _ hh => ?_) ?_ ?_⟩
    · obtain ⟨_, _, _, _, s', _⟩ := hh
      exact sqT_sm s' et
    · rintro i _ σ' H1 _ li ⟨y2, y3, y4, rfl, s1, f1⟩ ⟨T', x, y, rfl, hT, rfl, ex, ey⟩
      cases ex
      obtain ⟨p, hpi, rfl⟩ := get_ref ey
      have pm := List.mem_of_getElem? hpi
      have hk : (ps.map (·.2))[i]? = some (p.2.1, p.2.2) := by rw [List.getElem?_map, hpi]; rfl
      have r := rg' p pm
      have s2 := s1.trans (same_upd (o := .tup [V.int (i : Nat), V.ref p.1]) hT)
      have eT : (upd H1 T' (.tup [V.int (i : Nat), V.ref p.1])) T' = some (.tup [V.int (i : Nat), V.ref p.1]) := upd_same
      generalize upd H1 T' (.tup [V.int (i : Nat), V.ref p.1]) = H2 at *
      refine ⟨T', _, rfl, SqT.of eT, rfl, _, _, rfl, _, _, rfl, p.1, _, rfl, sqT_sm s2 (hp p pm), rfl, _, _, rfl, _, _, rfl, rfl, rfl, ?_⟩
      refine ⟨_, rfl, _, rfl, _, rfl, _, rfl, t, _, rfl, sqT_sm s2 et, fun H3 u s3 eu => ⟨by show 2 ≤ sizeLine; decide, fun hh hhh => ?_⟩⟩
      rw [cut_at (Nat.le_of_lt (lt_of_get ey)), ← List.map_take] at eu
      have s4 := same_upd (o := .tup [V.int n, V.ref u]) hhh
      have eh : (upd H3 hh (.tup [V.int n, V.ref u])) hh = some (.tup [V.int n, V.ref u]) := upd_same
      generalize upd H3 hh (.tup [V.int n, V.ref u]) = H4 at *
      have hQ : HouseQ K H4 hh n ((ps.map (·.2)).take i) := ⟨u, ps.take i, SqT.of eh, sqT_sm s4 eu, by rw [List.map_take], fun z hz => sqT_sm (s2.trans (s3.trans s4)) (hp z (List.mem_of_mem_take hz))⟩
      refine ⟨_, rfl, _, rfl, hh, n, _, p.2.1, p.2.2, rfl, hQ, f1, n8, r.1, by omega, by omega, r.2.2, fun H5 s5 no => ⟨_, rfl, iteF ?_⟩, fun H5 v w s5 sp _ _ => ⟨_, rfl, iteT ?_⟩⟩
      · exact ⟨_, _, _, rfl, s2.trans (s3.trans (s4.trans s5)), forest_step up hk f1 r.1 r.2.1 r.2.2 no⟩
      · have := q _ (s2.trans (s3.trans (s4.trans s5)))
        rw [show forB n (ps.map (·.2)) = false by rw [Bool.eq_false_iff]; exact fun e => forest_way hk sp (forB_iff.mp e)] at this
        exact this
    · rintro σ' H1 ⟨y2, y3, y4, rfl, s1, f1⟩
      rw [List.length_map, lps, List.take_length] at f1
      have := q _ s1
      rw [forB_iff.mpr f1] at this
      exact this
def spHouseA (K : PySem.W.Frag) : Sp := fun vs H Q _ => ∃ (v : V) (d : PyData) (b k m : Nat), vs = [v] ∧ Dx K [] H v d ∧ Gd b k m d ∧ m ≤ 100000 ∧ ∀ H', Same H H' → Q (.bl (hsB d)) H'
abbrev nIsHouse : List Str := ["value", "rooms", "doors", "door"]
theorem scIsHouse : FnScope nIsHouse ["value"] (defScope sIsHouse) := ⟨rfl, rfl, rfl, by decide +kernel, rfl, by decide +kernel, by decide +kernel⟩
theorem ok_housea {f : Addr} {fd : FuncData} {k : Nat} (F : Fun K "is_house" "is_house" sIsHouse f fd) (T : Nm mg) {tk : Tok} (M : mg "MAX_ROOMS" = some (.int 8 tk)) (Cis_pair : Cal P w K mg base k "is_pair" pIsInt (spPair2 K)) (Cis_integer : Cal P w K mg base k "is_integer" pIsInt (spIsNum K)) (Cis_door : Cal P w K mg base k "is_door" ["rooms", "value"] (spDoor K)) (Cis_ascending : Cal P w K mg base k "is_ascending" pIsAsc (spAscD K)) (Chas_cycle : Cal P w K mg base k "has_cycle" ["rooms", "doors"] (spHasC K)) : FnOk P w K mg base CX0 (k + 1) f fd ["value"] (spHouseA K) := by
  refine F.ok scIsHouse (fun vs H Q E h => ?_) (fun cdv A outer s H vs Q E hr h => ?_)
  · obtain ⟨v, d, b, k, m, rfl, _⟩ := h
    rfl
  · obtain ⟨v, d, b, kk, m, rfl, hd, gd, hm, q⟩ := h
    refine ⟨_, (pss_cons (ps_if (pt_not (pt_val (pe_cal Cis_pair hr (by rfl) (pa_cons (pv 0) pa_nil))))
      (pss_one (ps_ret pe_bl))
      pss_nil)
      (pss_cons (ps_asg (pv 0) (pg_tup (by rfl) (pgs_cons (pg_name (i := 1) scIsHouse.nd rfl (.inr rfl)) (pgs_cons (pg_name (i := 2) scIsHouse.nd rfl (.inl rfl)) pgs_nil))))
      (pss_cons (ps_if (PW.pt (pw_or (pt_not (pt_val (pe_cal Cis_integer hr (by rfl) (pa_cons (pv 1) pa_nil)))) (pw_or (pt_not (pt_chain op_le op_le pe_int (pv 1) (pe_glob (v := .int 8) (by rfl) M ⟨_, rfl⟩))) (pw_or1 (pt_not (pt_val (pe_callB (call_isD (av := [])) (by rfl) T.isinstance (by decide +kernel) (pa_cons (pv 2) (pa_cons (pe_bltn (v := .ty "tuple") (by rfl) T.tuple (by decide +kernel) rfl) pa_nil)))))))))
      (pss_one (ps_ret pe_bl))
      pss_nil)
      (pss_cons (ps_if (pt_not (pt_val (pe_callB (cr_all rfl) (by rfl) T.all (by decide +kernel) (pa_cons (pe_lc (own := [("door", 3)]) (g := gName 3) (by rfl) scIsHouse.nd (pi_tupK K rfl (pv 2))
 (blkOk_by (own := [("door", 3)]) (N := nIsHouse) (sc := defScope sIsHouse) (by decide +kernel))
 (fun _ _ _ _ _ => (pg_name (i := 3) scIsHouse.nd rfl (.inl rfl))) (fun _ _ _ _ _ => pts_nil) (fun _ _ _ _ _ => (pe_cal Cis_door hr (by rfl) (pa_cons (pv 1) (pa_cons (pv 3) pa_nil))))) pa_nil))))
      (pss_one (ps_ret pe_bl))
      pss_nil)
      (pss_one (ps_ret (pe_and (pe_cal Cis_ascending hr (by rfl) (pa_cons (pv 2) pa_nil)) (pe_one (pe_not (pe_cal Chas_cycle hr (by rfl) (pa_cons (pv 1) (pa_cons (pv 2) pa_nil)))))))))))), ?_⟩
    have no : ¬ HsP d → ∀ H', Same H H' → Q (.bl false) H' := fun h H' s' => by
      have := q H' s'
      rw [hsB_no h] at this
      exact this
    refine ⟨_, rfl, v, d, rfl, hd, _, rfl, ?_⟩
    cases e : pr2 d with
    | false =>
      refine iteT (no (fun ⟨n, D, e', _⟩ => ?_) _ (Same.refl _))
      rw [e'] at e
      cases e
    | true =>
      refine iteF ?_
      cases hd with
      | @tup a xs ds sq da =>
        have l2 : ds.length = 2 := of_decide_eq_true e
        match ds, l2, da with
        | [d0, d1], _, da =>
          have gA : GdA b (kk - 1) m [d0, d1] := by
            cases kk with
            | zero => exact gd.flat.elim
            | succ k => exact gd.un
          cases da with
          | @cons x0 _ _ _ h0 da =>
          cases da with
          | @cons x1 _ _ _ h1 da =>
          cases da
          refine ⟨_, rfl, a, _, rfl, sq, rfl, _, _, rfl, _, _, rfl, rfl, ?_⟩
          refine ⟨_, rfl, x0, d0, rfl, h0, _, rfl, ?_⟩
          cases e0 : isNum d0 with
          | false =>
            refine iteT (iteT (no (fun ⟨n, D, e', _⟩ => ?_) _ (Same.refl _)))
            injection e' with e'
            injection e' with e1 _
            rw [e1] at e0
            cases e0
          | true =>
            obtain ⟨n, rfl, rfl⟩ := isNum_int h0 e0
            refine iteF ?_
            refine ⟨_, rfl, _, _, rfl, rfl, _, rfl, ?_⟩
            have bad : ¬ (1 ≤ n ∧ n ≤ 8) → ∀ H', Same H H' → Q (.bl false) H' := fun z => no fun ⟨n', D, e', a1, a2, _⟩ => z (by
              injection e' with e'
              injection e' with e1 _
              injection e1 with e1
              rw [e1]
              exact ⟨a1, a2⟩)
            by_cases c1 : 1 ≤ n
            rotate_left
            · rw [decide_eq_false c1]
              exact iteF ⟨_, rfl, iteT (iteT (bad (fun z => c1 z.1) _ (Same.refl _)))⟩
            rw [decide_eq_true c1]
            refine iteT ⟨_, _, rfl, rfl, _, rfl, ?_⟩
            by_cases c2 : n ≤ 8
            rotate_left
            · rw [decide_eq_false c2]
              exact iteT (iteT (bad (fun z => c2 z.2) _ (Same.refl _)))
            rw [decide_eq_true c2]
            refine iteF ?_
            refine ⟨_, rfl, x1, "tuple", d1, rfl, by decide, h1, _, rfl, ?_⟩
            cases it : isD "tuple" d1 with
            | false =>
              refine iteT (no (fun ⟨n', D, e', _⟩ => ?_) _ (Same.refl _))
              injection e' with e'
              injection e' with _ e2
              injection e2 with e2 _
              rw [e2] at it
              cases it
            | true =>
              refine iteF ?_
              cases h1 with
              | @tup t xs es sq2 db =>
                have lx : xs.length = es.length := db.len
                have ld : es.length ≤ 100000 := by
                  have g1 := gA.get (d := .tuple es) (by simp)
                  have : es.length ≤ m := by
                    cases hk : kk - 1 with
                    | zero => rw [hk] at g1; exact g1.flat.elim
                    | succ j => rw [hk] at g1; exact g1.un.len
                  omega
                have sz := sizeLine_eq
                refine ⟨_, rfl, t, rfl, ⟨_, sq2⟩, fun L hL => lc_tup (K := K) (a := t) (xs := xs) (fun i H1 => Same H H1 ∧ H1 L = some (.lst (((es.take i).map (drD n)).map V.bl))) ⟨same_upd hL, upd_same⟩ (fun i H1 _ hh => sqT_sm hh.1 sq2) ?_ ?_⟩
                · rintro i x H1 hx ⟨s1, e1⟩
                  obtain ⟨dx, edx, hdx⟩ := db.at hx
                  have hi := lt_of_get hx
                  refine ⟨rfl, ?_⟩
                  unfold tYes
                  refine iteT ⟨_, rfl, _, rfl, n, x, dx, rfl, dx_sm s1 hdx, ⟨_, e1, ?_, same_put s1 hL, ?_⟩⟩
                  · rw [List.length_map, List.length_map, List.length_take]
                    omega
                  · rw [upd_same, take_snoc edx, List.map_append, List.map_append]
                    rfl
                · rintro H1 ⟨s1, e1⟩
                  rw [lx, List.take_length] at e1
                  refine ⟨L, _, rfl, SqL.of e1, _, rfl, ?_⟩
                  have ea : (es.map (drD n)).all id = es.all (drD n) := by rw [List.all_map]; rfl
                  rw [ea]
                  cases eb : es.all (drD n) with
                  | false =>
                    refine iteT (no (fun ⟨n', D, e', _, _, f⟩ => ?_) _ s1)
                    have := hsd_inj2 e'
                    rw [this.2, this.1] at eb
                    rw [all_drD fun x hx => f.ends (show (x.1, x.2) ∈ D from hx)] at eb
                    cases eb
                  | true =>
                    obtain ⟨D, rfl, hD⟩ := drD_all eb
                    obtain ⟨ps, rfl, eD, hps⟩ := dx_doors db
                    rw [List.length_map] at ld
                    have lD : D.length = ps.length := by rw [eD, List.length_map]
                    have key : hsB (.tuple [.int n, .tuple (D.map drd)]) = (ascD D && forB n D) := by
                      rw [Bool.eq_iff_iff, hsB_iff, Bool.and_eq_true, ascD_iff, forB_iff]
                      constructor
                      · rintro ⟨n', D', e', _, _, f⟩
                        obtain ⟨rfl, rfl⟩ := hsd_inj e'
                        exact ⟨f.up, f⟩
                      · rintro ⟨_, f⟩
                        exact ⟨n, D, rfl, c1, c2, f⟩
                    rw [key] at q
                    refine iteF ⟨_, rfl, t, ps, rfl, sqT_sm s1 sq2, fun p hp => sqT_sm s1 (hps p hp), by omega, fun H2 s2 => ⟨_, rfl, ?_⟩⟩
                    rw [← eD]
                    cases ua : ascD D with
                    | false =>
                      rw [ua] at q
                      exact iteF (q _ (s1.trans s2))
                    | true =>
                      have s12 := s1.trans s2
                      refine iteT ⟨_, rfl, _, rfl, n, t, ps, rfl, c1, c2, sqT_sm s12 sq2, fun p hp => sqT_sm s12 (hps p hp), fun p hp => hD p.2 (by rw [eD]; exact List.mem_map_of_mem (f := (·.2)) hp), by rw [← eD]; exact ascD_iff.mp ua, fun H3 s3 => ⟨_, rfl, ?_⟩⟩
                      rw [← eD, Bool.not_not]
                      rw [ua, Bool.true_and] at q
                      exact q _ (s12.trans s3)
              | _ => exact absurd it (by simp [isD, kindD])
      | _ => exact absurd e (by simp [pr2])
end
end Fw
namespace Fw
open PySem PySem.Spec PyProof.Rows L2
set_option maxHeartbeats 2000000
open RZ
/-- a value that is no tuple, text, number or None -/
def isLD : PyData → Bool
  | .list _ => true
  | .dict _ => true
  | _ => false
/-- the same value of any kind, to a depth -/
inductive Eqd (K : PySem.W.Frag) (H : Hp) : Nat → V → V → Prop
  | non (k : Nat) : Eqd K H k .non .non
  | int (k : Nat) (i : Int) : Eqd K H k (.int i) (.int i)
  | bl (k : Nat) (b : Bool) : Eqd K H k (.bl b) (.bl b)
  | str (k : Nat) (z : Str) : Eqd K H k (.str z) (.str z)
  | dat {k : Nat} {a b : Addr} {d : PyData} : Dx K [] H (.ref a) d → Dx K [] H (.ref b) d → isLD d = true → d.showable = true → d.depth ≤ 60 → d.shown.length ≤ sizeLine → Eqd K H k (.ref a) (.ref b)
  | tup {k : Nat} {a b : Addr} {xs ys : List V} : SqT K H a xs → SqT K H b ys → xs.length = ys.length → xs.length ≤ 500 → (∀ (i : Nat) x y, xs[i]? = some x → ys[i]? = some y → Eqd K H k x y) → Eqd K H (k + 1) (.ref a) (.ref b)
theorem Eqd.same {K : PySem.W.Frag} {H H' : Hp} {k : Nat} {x y : V} (h : Eqd K H k x y) (e : Same H H') : Eqd K H' k x y := by
  induction h with
  | non k => exact .non k
  | int k i => exact .int k i
  | bl k i => exact .bl k i
  | str k i => exact .str k i
  | dat h1 h2 h3 h4 h5 h6 => exact .dat (dx_sm e h1) (dx_sm e h2) h3 h4 h5 h6
  | tup h1 h2 h3 h4 _ ih => exact .tup (sqT_sm e h1) (sqT_sm e h2) h3 h4 ih
/-- data that can be compared with itself, to a depth -/
def okd : Nat → PyData → Bool
  | _, .list ds => (PyData.list ds).showable && decide ((PyData.list ds).depth ≤ 60) && decide ((PyData.list ds).shown.length ≤ sizeLine)
  | _, .dict ds => (PyData.dict ds).showable && decide ((PyData.dict ds).depth ≤ 60) && decide ((PyData.dict ds).shown.length ≤ sizeLine)
  | 0, .tuple _ => false
  | k + 1, .tuple ds => decide (ds.length ≤ 500) && ds.all (okd k)
  | _, _ => true
theorem dxA_get {K : PySem.W.Frag} {H : Hp} : ∀ {xs ys : List V} {ds : List PyData}, DxAll K [] H xs ds → DxAll K [] H ys ds → xs.length = ds.length ∧ ys.length = ds.length ∧ ∀ (i : Nat) x y, xs[i]? = some x → ys[i]? = some y → ∃ d ∈ ds, Dx K [] H x d ∧ Dx K [] H y d
  | _, _, _, .nil, .nil => ⟨rfl, rfl, fun i x y h => by cases h⟩
  | _, _, _, .cons h1 t1, .cons h2 t2 => by
    obtain ⟨l1, l2, g⟩ := dxA_get t1 t2
    refine ⟨congrArg (· + 1) l1, congrArg (· + 1) l2, fun i x y hx hy => ?_⟩
    match i, hx, hy with
    | 0, hx, hy => cases hx; cases hy; exact ⟨_, List.mem_cons_self, h1, h2⟩
    | i + 1, hx, hy =>
      obtain ⟨d, m, z⟩ := g i x y hx hy
      exact ⟨d, List.mem_cons_of_mem _ m, z⟩
theorem dx_eqd {K : PySem.W.Frag} {H : Hp} : ∀ {k : Nat} {x y : V} {d : PyData}, Dx K [] H x d → Dx K [] H y d → okd k d = true → Eqd K H k x y
  | k, _, _, _, .non, .non, _ => .non k
  | k, _, _, _, .bl b, .bl _, _ => .bl k b
  | k, _, _, _, .int b, .int _, _ => .int k b
  | k, _, _, _, .str b, .str _, _ => .str k b
  | k, _, _, _, .lst (ds := ds) a1 a2 a3, .lst b1 b2 b3, h => by
    have h : ((PyData.list ds).showable && decide ((PyData.list ds).depth ≤ 60) && decide ((PyData.list ds).shown.length ≤ sizeLine)) = true := by
      cases k <;> exact h
    rw [Bool.and_eq_true, Bool.and_eq_true] at h
    exact .dat (.lst a1 a2 a3) (.lst b1 b2 b3) rfl h.1.1 (of_decide_eq_true h.1.2) (of_decide_eq_true h.2)
  | k, _, _, _, .dct a1, .dct b1, h => by
    have h : ((PyData.dict []).showable && decide ((PyData.dict []).depth ≤ 60) && decide ((PyData.dict []).shown.length ≤ sizeLine)) = true := by
      cases k <;> exact h
    rw [Bool.and_eq_true, Bool.and_eq_true] at h
    exact .dat (.dct a1) (.dct b1) rfl h.1.1 (of_decide_eq_true h.1.2) (of_decide_eq_true h.2)
  | 0, _, _, _, .tup a1 a2, .tup b1 b2, h => by cases h
  | k + 1, _, _, _, .tup (ds := ds) a1 a2, .tup b1 b2, h => by
    have h : (decide (ds.length ≤ 500) && ds.all (okd k)) = true := h
    rw [Bool.and_eq_true, List.all_eq_true] at h
    obtain ⟨l1, l2, g⟩ := dxA_get a2 b2
    have l3 := of_decide_eq_true h.1
    refine .tup a1 b1 (l1.trans l2.symm) (by omega) fun i x y hx hy => ?_
    obtain ⟨d, m, z1, z2⟩ := g i x y hx hy
    exact dx_eqd z1 z2 (h.2 d m)
theorem sq_tyT {K : PySem.W.Frag} {H : Hp} {a : Addr} {xs : List V} (h : SqT K H a xs) : TyX K H (.ref a) (.type "tuple") := by
  rcases h with (e | ⟨ob, e⟩) | ⟨o, its, n, e, c, _⟩
  · exact .base (.tup e)
  · exact .fTuple e
  · exact .kTuple e c
section
variable {P : Program} {w : World} {K : PySem.W.Frag} {mg : Str → Option Value} {base : Heap}
def spSameD (K : PySem.W.Frag) (k : Nat) : Sp := fun vs H Q _ => ∃ x y, vs = [x, y] ∧ Eqd K H k x y ∧ ∀ H', Same H H' → Q (.bl true) H'
theorem ok_sameD0 {f : Addr} {fd : FuncData} (F : Fun K "_law_same" "_law_same" sSame f fd) (T : Nm mg) : FnG P w K mg base 1 f fd pSame (spSameD K 0) := by
  refine Fun.okG F scSame (fun vs H Q E h => ?_) (fun cdv A outer s H vs Q gd hr h => ?_)
  · obtain ⟨x, y, rfl, _⟩ := h
    rfl
  · obtain ⟨x, y, rfl, he, q⟩ := h
    refine ⟨_, (pss_cons (ps_if (pt_val (pe_callB call_isi (by rfl) T.isinstance (by decide +kernel) (pa_cons (pv 1) (pa_cons (pe_bltn (v := .ty "tuple") (by rfl) T.tuple (by decide +kernel) rfl) pa_nil))))
      pss_never
      pss_nil)
      (pss_cons (ps_if (PW.pt (pw_or (pt_cmp (pc_isN (pv 1))) (pw_or1 (pt_cmp (pc_isN (pv 0))))))
      (pss_one (ps_ret (pe_and (pe_cmp (pc_isN (pv 1)) rfl) (pe_one (pe_cmp (pc_isN (pv 0)) rfl)))))
      pss_nil)
      (pss_cons (ps_if (PW.pt (pw_or (pt_val (pe_callB call_isi (by rfl) T.isinstance (by decide +kernel) (pa_cons (pv 1) (pa_cons (pe_bltn (v := .ty "bool") (by rfl) T.bool (by decide +kernel) rfl) pa_nil)))) (pw_or1 (pt_val (pe_callB call_isi (by rfl) T.isinstance (by decide +kernel) (pa_cons (pv 0) (pa_cons (pe_bltn (v := .ty "bool") (by rfl) T.bool (by decide +kernel) rfl) pa_nil)))))))
      (pss_one (ps_ret (pe_and (pe_callB call_isi (by rfl) T.isinstance (by decide +kernel) (pa_cons (pv 1) (pa_cons (pe_bltn (v := .ty "bool") (by rfl) T.bool (by decide +kernel) rfl) pa_nil))) (pe_and (pe_callB call_isi (by rfl) T.isinstance (by decide +kernel) (pa_cons (pv 0) (pa_cons (pe_bltn (v := .ty "bool") (by rfl) T.bool (by decide +kernel) rfl) pa_nil))) (pe_one (pe_cmpR op_eq (pv 0) (pv 1) (nomark _)))))))
      pss_nil)
      (pss_cons (ps_if (pt_val (pe_callB call_isi (by rfl) T.isinstance (by decide +kernel) (pa_cons (pv 1) (pa_cons (pe_bltn (v := .ty "int") (by rfl) T.int (by decide +kernel) rfl) pa_nil))))
      (pss_one (ps_ret (pe_and (pe_callB call_isi (by rfl) T.isinstance (by decide +kernel) (pa_cons (pv 0) (pa_cons (pe_bltn (v := .ty "int") (by rfl) T.int (by decide +kernel) rfl) pa_nil))) (pe_one (pe_cmpR op_eq (pv 0) (pv 1) (nomark _))))))
      pss_nil)
      (pss_cons (ps_if (PW.pt (pw_or (pt_val (pe_callB call_isi (by rfl) T.isinstance (by decide +kernel) (pa_cons (pv 1) (pa_cons (pe_bltn (v := .ty "str") (by rfl) T.str (by decide +kernel) rfl) pa_nil)))) (pw_or1 (pt_val (pe_callB call_isi (by rfl) T.isinstance (by decide +kernel) (pa_cons (pv 0) (pa_cons (pe_bltn (v := .ty "str") (by rfl) T.str (by decide +kernel) rfl) pa_nil)))))))
      (pss_one (ps_ret (pe_and (pe_callB call_isi (by rfl) T.isinstance (by decide +kernel) (pa_cons (pv 1) (pa_cons (pe_bltn (v := .ty "str") (by rfl) T.str (by decide +kernel) rfl) pa_nil))) (pe_and (pe_callB call_isi (by rfl) T.isinstance (by decide +kernel) (pa_cons (pv 0) (pa_cons (pe_bltn (v := .ty "str") (by rfl) T.str (by decide +kernel) rfl) pa_nil))) (pe_one (pe_cmpR op_eq (pv 0) (pv 1) (nomark _)))))))
      pss_nil)
      (pss_one (ps_ret (pe_cmpR op_eq (pe_callB (call_reprD (av := []) gd (units65 hr)) (by rfl) T.repr (by decide +kernel) (pa_cons (pv 0) pa_nil)) (pe_callB (call_reprD (av := []) gd (units65 hr)) (by rfl) T.repr (by decide +kernel) (pa_cons (pv 1) pa_nil)) (nomark _))))))))), ?_⟩
    cases he with
    | non =>
      refine ⟨_, rfl, _, _, _, _, _, rfl, .ty _, .base .non, kit_ty k_nt, _, rfl, iteF ?_⟩
      refine ⟨_, rfl, _, rfl, iteT (iteT ?_)⟩
      exact ⟨_, rfl, _, rfl, iteT ⟨_, rfl, q _ (Same.refl _)⟩⟩
    | int _ i =>
      refine ⟨_, rfl, _, _, _, _, _, rfl, .ty _, .base (.int _), kit_ty k_it, _, rfl, iteF ?_⟩
      refine ⟨_, rfl, _, rfl, iteF ⟨_, rfl, _, rfl, iteF ?_⟩⟩
      refine ⟨_, rfl, _, _, _, _, _, rfl, .ty _, .base (.int _), kit_ty k_ib, _, rfl, iteF ⟨_, rfl, _, _, _, _, _, rfl, .ty _, .base (.int _), kit_ty k_ib, _, rfl, iteF ?_⟩⟩
      refine ⟨_, rfl, _, _, _, _, _, rfl, .ty _, .base (.int _), kit_ty k_ii, _, rfl, iteT ?_⟩
      refine ⟨_, rfl, _, _, _, _, _, rfl, .ty _, .base (.int _), kit_ty k_ii, _, rfl, iteT ⟨_, rfl, _, rfl, rfl, ?_⟩⟩
      rw [decide_eq_true rfl]
      exact q _ (Same.refl _)
    | bl _ b =>
      refine ⟨_, rfl, _, _, _, _, _, rfl, .ty _, .base (.bl _), kit_ty k_bt, _, rfl, iteF ?_⟩
      refine ⟨_, rfl, _, rfl, iteF ⟨_, rfl, _, rfl, iteF ?_⟩⟩
      refine ⟨_, rfl, _, _, _, _, _, rfl, .ty _, .base (.bl _), kit_ty k_bb, _, rfl, iteT (iteT ?_)⟩
      refine ⟨_, rfl, _, _, _, _, _, rfl, .ty _, .base (.bl _), kit_ty k_bb, _, rfl, iteT ⟨_, rfl, _, _, _, _, _, rfl, .ty _, .base (.bl _), kit_ty k_bb, _, rfl, iteT ⟨_, rfl, _, rfl, rfl, ?_⟩⟩⟩
      rw [decide_eq_true rfl]
      exact q _ (Same.refl _)
    | str _ z =>
      refine ⟨_, rfl, _, _, _, _, _, rfl, .ty _, .base (.str _), kit_ty k_st, _, rfl, iteF ?_⟩
      refine ⟨_, rfl, _, rfl, iteF ⟨_, rfl, _, rfl, iteF ?_⟩⟩
      refine ⟨_, rfl, _, _, _, _, _, rfl, .ty _, .base (.str _), kit_ty k_sb, _, rfl, iteF ⟨_, rfl, _, _, _, _, _, rfl, .ty _, .base (.str _), kit_ty k_sb, _, rfl, iteF ?_⟩⟩
      refine ⟨_, rfl, _, _, _, _, _, rfl, .ty _, .base (.str _), kit_ty k_si, _, rfl, iteF ?_⟩
      refine ⟨_, rfl, _, _, _, _, _, rfl, .ty _, .base (.str _), kit_ty k_ss2, _, rfl, iteT (iteT ?_)⟩
      refine ⟨_, rfl, _, _, _, _, _, rfl, .ty _, .base (.str _), kit_ty k_ss2, _, rfl, iteT ⟨_, rfl, _, _, _, _, _, rfl, .ty _, .base (.str _), kit_ty k_ss2, _, rfl, iteT ⟨_, rfl, _, rfl, rfl, ?_⟩⟩⟩
      rw [decide_eq_true rfl]
      exact q _ (Same.refl _)
    | @dat _ a b d h1 h2 hk sh dp sz =>
      have nT : ∀ T ∈ ["tuple", "int", "bool", "str"], PySem.W.kitOne K (.type (kindD d)) (.type T) = some false := fun T hT => by
        rw [kitD hT d]
        cases d <;> first | (cases hk; done) | skip
        all_goals
          simp only [List.mem_cons, List.not_mem_nil, or_false] at hT
          rcases hT with rfl | rfl | rfl | rfl <;> rfl
      refine ⟨_, rfl, _, _, _, _, _, rfl, .ty _, dx_ty h2, nT "tuple" (by decide), _, rfl, iteF ?_⟩
      refine ⟨_, rfl, _, rfl, iteF ⟨_, rfl, _, rfl, iteF ?_⟩⟩
      refine ⟨_, rfl, _, _, _, _, _, rfl, .ty _, dx_ty h2, nT "bool" (by decide), _, rfl, iteF ⟨_, rfl, _, _, _, _, _, rfl, .ty _, dx_ty h1, nT "bool" (by decide), _, rfl, iteF ?_⟩⟩
      refine ⟨_, rfl, _, _, _, _, _, rfl, .ty _, dx_ty h2, nT "int" (by decide), _, rfl, iteF ?_⟩
      refine ⟨_, rfl, _, _, _, _, _, rfl, .ty _, dx_ty h2, nT "str" (by decide), _, rfl, iteF ⟨_, rfl, _, _, _, _, _, rfl, .ty _, dx_ty h1, nT "str" (by decide), _, rfl, iteF ?_⟩⟩
      refine ⟨_, rfl, a, d, rfl, h1, sh, dp, sz, _, rfl, b, d, rfl, h2, sh, dp, sz, rfl, ?_⟩
      rw [decide_eq_true rfl]
      exact q _ (Same.refl _)
/-- one level more -/
theorem ok_sameDS {f : Addr} {fd : FuncData} {k : Nat} (F : Fun K "_law_same" "_law_same" sSame f fd) (T : Nm mg) (C_law_same : CalG P w K mg base (k + 1) "_law_same" pSame (spSameD K k)) : FnG P w K mg base (k + 2) f fd pSame (spSameD K (k + 1)) := by
  refine Fun.okG F scSame (fun vs H Q E h => ?_) (fun cdv A outer s H vs Q gd hr h => ?_)
  · obtain ⟨x, y, rfl, _⟩ := h
    rfl
  · obtain ⟨x, y, rfl, he, q⟩ := h
    refine ⟨_, (pss_cons (ps_if (pt_val (pe_callB call_isi (by rfl) T.isinstance (by decide +kernel) (pa_cons (pv 1) (pa_cons (pe_bltn (v := .ty "tuple") (by rfl) T.tuple (by decide +kernel) rfl) pa_nil))))
      (pss_cons (ps_if (PW.pt (pw_or (pt_not (pt_val (pe_callB call_isi (by rfl) T.isinstance (by decide +kernel) (pa_cons (pv 0) (pa_cons (pe_bltn (v := .ty "tuple") (by rfl) T.tuple (by decide +kernel) rfl) pa_nil))))) (pw_or1 (pt_cmpR op_ne (pe_callB (call_lenK K rfl) (by rfl) T.len (by decide +kernel) (pa_cons (pv 0) pa_nil)) (pe_callB (call_lenK K rfl) (by rfl) T.len (by decide +kernel) (pa_cons (pv 1) pa_nil)) (nomark _)))))
       pss_never
       pss_nil)
       (pss_one (ps_ret (pe_callB (cr_all rfl) (by rfl) T.all (by decide +kernel) (pa_cons (pe_lc (own := [("_law_one", 2), ("_law_other", 3)]) (g := gTup K 2 (gCons (gName 2) (gCons (gName 3) gNil))) (by rfl) scSame.nd (pi_zipA (by rfl) T.zip (pa_cons (pv 0) (pa_cons (pv 1) pa_nil)))
 (blkOk_by (own := [("_law_one", 2), ("_law_other", 3)]) (N := nSame) (sc := defScope sSame) (by decide +kernel))
 (fun _ _ _ _ _ => (pg_tup (by rfl) (pgs_cons (pg_name (i := 2) scSame.nd rfl (.inl rfl)) (pgs_cons (pg_name (i := 3) scSame.nd rfl (.inl rfl)) pgs_nil)))) (fun _ _ _ _ _ => pts_nil) (fun _ _ _ _ _ => (pe_calG C_law_same gd hr (by rfl) (pa_cons (pv 2) (pa_cons (pv 3) pa_nil))))) pa_nil)))))
      pss_nil)
      (pss_cons (ps_if (PW.pt (pw_or (pt_cmp (pc_isN (pv 1))) (pw_or1 (pt_cmp (pc_isN (pv 0))))))
      (pss_one (ps_ret (pe_and (pe_cmp (pc_isN (pv 1)) rfl) (pe_one (pe_cmp (pc_isN (pv 0)) rfl)))))
      pss_nil)
      (pss_cons (ps_if (PW.pt (pw_or (pt_val (pe_callB call_isi (by rfl) T.isinstance (by decide +kernel) (pa_cons (pv 1) (pa_cons (pe_bltn (v := .ty "bool") (by rfl) T.bool (by decide +kernel) rfl) pa_nil)))) (pw_or1 (pt_val (pe_callB call_isi (by rfl) T.isinstance (by decide +kernel) (pa_cons (pv 0) (pa_cons (pe_bltn (v := .ty "bool") (by rfl) T.bool (by decide +kernel) rfl) pa_nil)))))))
      (pss_one (ps_ret (pe_and (pe_callB call_isi (by rfl) T.isinstance (by decide +kernel) (pa_cons (pv 1) (pa_cons (pe_bltn (v := .ty "bool") (by rfl) T.bool (by decide +kernel) rfl) pa_nil))) (pe_and (pe_callB call_isi (by rfl) T.isinstance (by decide +kernel) (pa_cons (pv 0) (pa_cons (pe_bltn (v := .ty "bool") (by rfl) T.bool (by decide +kernel) rfl) pa_nil))) (pe_one (pe_cmpR op_eq (pv 0) (pv 1) (nomark _)))))))
      pss_nil)
      (pss_cons (ps_if (pt_val (pe_callB call_isi (by rfl) T.isinstance (by decide +kernel) (pa_cons (pv 1) (pa_cons (pe_bltn (v := .ty "int") (by rfl) T.int (by decide +kernel) rfl) pa_nil))))
      (pss_one (ps_ret (pe_and (pe_callB call_isi (by rfl) T.isinstance (by decide +kernel) (pa_cons (pv 0) (pa_cons (pe_bltn (v := .ty "int") (by rfl) T.int (by decide +kernel) rfl) pa_nil))) (pe_one (pe_cmpR op_eq (pv 0) (pv 1) (nomark _))))))
      pss_nil)
      (pss_cons (ps_if (PW.pt (pw_or (pt_val (pe_callB call_isi (by rfl) T.isinstance (by decide +kernel) (pa_cons (pv 1) (pa_cons (pe_bltn (v := .ty "str") (by rfl) T.str (by decide +kernel) rfl) pa_nil)))) (pw_or1 (pt_val (pe_callB call_isi (by rfl) T.isinstance (by decide +kernel) (pa_cons (pv 0) (pa_cons (pe_bltn (v := .ty "str") (by rfl) T.str (by decide +kernel) rfl) pa_nil)))))))
      (pss_one (ps_ret (pe_and (pe_callB call_isi (by rfl) T.isinstance (by decide +kernel) (pa_cons (pv 1) (pa_cons (pe_bltn (v := .ty "str") (by rfl) T.str (by decide +kernel) rfl) pa_nil))) (pe_and (pe_callB call_isi (by rfl) T.isinstance (by decide +kernel) (pa_cons (pv 0) (pa_cons (pe_bltn (v := .ty "str") (by rfl) T.str (by decide +kernel) rfl) pa_nil))) (pe_one (pe_cmpR op_eq (pv 0) (pv 1) (nomark _)))))))
      pss_nil)
      (pss_one (ps_ret (pe_cmpR op_eq (pe_callB (call_reprD (av := []) gd (units65 hr)) (by rfl) T.repr (by decide +kernel) (pa_cons (pv 0) pa_nil)) (pe_callB (call_reprD (av := []) gd (units65 hr)) (by rfl) T.repr (by decide +kernel) (pa_cons (pv 1) pa_nil)) (nomark _))))))))), ?_⟩
    cases he with
    | non =>
      refine ⟨_, rfl, _, _, _, _, _, rfl, .ty _, .base .non, kit_ty k_nt, _, rfl, iteF ?_⟩
      refine ⟨_, rfl, _, rfl, iteT (iteT ?_)⟩
      exact ⟨_, rfl, _, rfl, iteT ⟨_, rfl, q _ (Same.refl _)⟩⟩
    | int _ i =>
      refine ⟨_, rfl, _, _, _, _, _, rfl, .ty _, .base (.int _), kit_ty k_it, _, rfl, iteF ?_⟩
      refine ⟨_, rfl, _, rfl, iteF ⟨_, rfl, _, rfl, iteF ?_⟩⟩
      refine ⟨_, rfl, _, _, _, _, _, rfl, .ty _, .base (.int _), kit_ty k_ib, _, rfl, iteF ⟨_, rfl, _, _, _, _, _, rfl, .ty _, .base (.int _), kit_ty k_ib, _, rfl, iteF ?_⟩⟩
      refine ⟨_, rfl, _, _, _, _, _, rfl, .ty _, .base (.int _), kit_ty k_ii, _, rfl, iteT ?_⟩
      refine ⟨_, rfl, _, _, _, _, _, rfl, .ty _, .base (.int _), kit_ty k_ii, _, rfl, iteT ⟨_, rfl, _, rfl, rfl, ?_⟩⟩
      rw [decide_eq_true rfl]
      exact q _ (Same.refl _)
    | bl _ b =>
      refine ⟨_, rfl, _, _, _, _, _, rfl, .ty _, .base (.bl _), kit_ty k_bt, _, rfl, iteF ?_⟩
      refine ⟨_, rfl, _, rfl, iteF ⟨_, rfl, _, rfl, iteF ?_⟩⟩
      refine ⟨_, rfl, _, _, _, _, _, rfl, .ty _, .base (.bl _), kit_ty k_bb, _, rfl, iteT (iteT ?_)⟩
      refine ⟨_, rfl, _, _, _, _, _, rfl, .ty _, .base (.bl _), kit_ty k_bb, _, rfl, iteT ⟨_, rfl, _, _, _, _, _, rfl, .ty _, .base (.bl _), kit_ty k_bb, _, rfl, iteT ⟨_, rfl, _, rfl, rfl, ?_⟩⟩⟩
      rw [decide_eq_true rfl]
      exact q _ (Same.refl _)
    | str _ z =>
      refine ⟨_, rfl, _, _, _, _, _, rfl, .ty _, .base (.str _), kit_ty k_st, _, rfl, iteF ?_⟩
      refine ⟨_, rfl, _, rfl, iteF ⟨_, rfl, _, rfl, iteF ?_⟩⟩
      refine ⟨_, rfl, _, _, _, _, _, rfl, .ty _, .base (.str _), kit_ty k_sb, _, rfl, iteF ⟨_, rfl, _, _, _, _, _, rfl, .ty _, .base (.str _), kit_ty k_sb, _, rfl, iteF ?_⟩⟩
      refine ⟨_, rfl, _, _, _, _, _, rfl, .ty _, .base (.str _), kit_ty k_si, _, rfl, iteF ?_⟩
      refine ⟨_, rfl, _, _, _, _, _, rfl, .ty _, .base (.str _), kit_ty k_ss2, _, rfl, iteT (iteT ?_)⟩
      refine ⟨_, rfl, _, _, _, _, _, rfl, .ty _, .base (.str _), kit_ty k_ss2, _, rfl, iteT ⟨_, rfl, _, _, _, _, _, rfl, .ty _, .base (.str _), kit_ty k_ss2, _, rfl, iteT ⟨_, rfl, _, rfl, rfl, ?_⟩⟩⟩
      rw [decide_eq_true rfl]
      exact q _ (Same.refl _)
    | @dat _ a b d h1 h2 hk sh dp sz =>
      have nT : ∀ T ∈ ["tuple", "int", "bool", "str"], PySem.W.kitOne K (.type (kindD d)) (.type T) = some false := fun T hT => by
        rw [kitD hT d]
        cases d <;> first | (cases hk; done) | skip
        all_goals
          simp only [List.mem_cons, List.not_mem_nil, or_false] at hT
          rcases hT with rfl | rfl | rfl | rfl <;> rfl
      refine ⟨_, rfl, _, _, _, _, _, rfl, .ty _, dx_ty h2, nT "tuple" (by decide), _, rfl, iteF ?_⟩
      refine ⟨_, rfl, _, rfl, iteF ⟨_, rfl, _, rfl, iteF ?_⟩⟩
      refine ⟨_, rfl, _, _, _, _, _, rfl, .ty _, dx_ty h2, nT "bool" (by decide), _, rfl, iteF ⟨_, rfl, _, _, _, _, _, rfl, .ty _, dx_ty h1, nT "bool" (by decide), _, rfl, iteF ?_⟩⟩
      refine ⟨_, rfl, _, _, _, _, _, rfl, .ty _, dx_ty h2, nT "int" (by decide), _, rfl, iteF ?_⟩
      refine ⟨_, rfl, _, _, _, _, _, rfl, .ty _, dx_ty h2, nT "str" (by decide), _, rfl, iteF ⟨_, rfl, _, _, _, _, _, rfl, .ty _, dx_ty h1, nT "str" (by decide), _, rfl, iteF ?_⟩⟩
      refine ⟨_, rfl, a, d, rfl, h1, sh, dp, sz, _, rfl, b, d, rfl, h2, sh, dp, sz, rfl, ?_⟩
      rw [decide_eq_true rfl]
      exact q _ (Same.refl _)
    | @tup _ a b xs ys h1 h2 h3 h4 h5 =>
      refine ⟨_, rfl, _, _, _, _, _, rfl, .ty _, sq_tyT h2, kit_ty k_tt, _, rfl, iteT ?_⟩
      refine ⟨_, rfl, _, _, _, _, _, rfl, .ty _, sq_tyT h1, kit_ty k_tt, _, rfl, iteF ⟨_, rfl, a, _, rfl, .inr h1, _, rfl, b, _, rfl, .inr h2, rfl, _, rfl, iteNS (by rw [h3]) ?_⟩⟩
      refine ⟨_, rfl, _, rfl, a, b, xs, ys, rfl, .inr ⟨h1, h2, fun L hL => lc_it (both_walk (K := K) (a := a) (b := b) (xs := xs) (ys := ys) h3.symm) (fun i H1 => Same H H1 ∧ H1 L = some (.lst ((List.replicate i true).map V.bl)))
        ⟨same_upd hL, upd_same⟩ (fun i H1 _ hh => ⟨sqT_sm hh.1 h1, sqT_sm hh.1 h2⟩) ?_ ?_⟩⟩
      · rintro i _ H1 _ hlt ⟨s1, e1⟩ ⟨t, x, y, rfl, ht, rfl, hx, hy⟩
        refine ⟨t, _, rfl, SqT.of upd_same, rfl, _, _, rfl, _, _, rfl, rfl, rfl, ?_⟩
        unfold tYes
        refine iteT ?_
        refine ⟨_, rfl, _, rfl, x, y, rfl, (h5 i x y hx hy).same (s1.trans (same_upd ht)), fun H2 s2 => ⟨_, s2 _ _ (same_upd ht _ _ e1), ?_, same_put (s1.trans ((same_upd ht).trans s2)) hL, ?_⟩⟩
        · rw [List.length_map, List.length_replicate]
          exact small1000 (by omega)
        · rw [upd_same, List.replicate_succ', List.map_append]
          rfl
      · rintro H1 ⟨s1, e1⟩
        refine ⟨L, List.replicate xs.length true, rfl, SqL.of e1, ?_⟩
        rw [show (List.replicate xs.length true).all id = true by simp]
        exact q _ s1
theorem cal_sameD (D : DefE K mg "_law_same" sSame pSame) (T : Nm mg) : ∀ k : Nat, CalG P w K mg base (k + 1) "_law_same" pSame (spSameD K k)
  | 0 => D.calG fun _ _ d => ok_sameD0 d.F T
  | k + 1 => D.calG fun _ _ d => ok_sameDS d.F T (cal_sameD D T k)
end
end Fw
set_option maxHeartbeats 1000000
namespace Fw
open PySem PySem.Spec PyProof.Rows L2
open TL
/-! texts: lines and words -/
theorem tl_nl : tl ("\n" : Str) = [10] := by decide +kernel
theorem tl_sp : tl (" " : Str) = [32] := by decide +kernel
theorem tl_em : tl ("" : Str) = [] := by decide +kernel
theorem txt_ext {x y : Str} (h : tl x = tl y) : x = y := ext_tl h
theorem tl_len (x : Str) : x.length = (tl x).length := len_tl x
theorem joinL_nil : ∀ ps : List (List Nat), joinL [] ps = ps.flatten
  | [] => rfl
  | [p] => by simp [joinL]
  | p :: q :: r => by
    show p ++ ([] ++ joinL [] (q :: r)) = _
    rw [List.nil_append, joinL_nil (q :: r)]
    rfl
def txt (ls : List Str) : Str := Txt.join "" (ls.map fun l => l ++ "\n")
theorem tl_txt (ls : List Str) : tl (txt ls) = (ls.map fun l => tl l ++ [10]).flatten := by
  unfold txt
  rw [join_eq, tl_join, tl_em, joinL_nil, List.map_map]
  congr 1
  refine List.map_congr_left fun l _ => ?_
  show tl (l ++ "\n") = _
  rw [tl_append, tl_nl]
theorem joinL_lines : ∀ ls : List (List Nat), joinL [10] (ls ++ [[]]) = (ls.map fun l => l ++ [10]).flatten
  | [] => rfl
  | l :: ls => by
    have : joinL [10] (l :: (ls ++ [[]])) = l ++ ([10] ++ joinL [10] (ls ++ [[]])) := by
      cases ls <;> rfl
    show joinL [10] (l :: (ls ++ [[]])) = _
    rw [this, joinL_lines ls, List.map_cons, List.flatten_cons, List.append_assoc]
theorem txt_lines (ls : List Str) : txt ls = Txt.join "\n" (ls ++ [("" : Str)]) := by
  refine txt_ext ?_
  rw [tl_txt, join_eq, tl_join, tl_nl, List.map_append]
  show _ = joinL [10] (ls.map tl ++ [tl ""])
  rw [tl_em, joinL_lines, List.map_map]
  rfl
theorem split_txt {ls : List Str} (h : ∀ l ∈ ls, 10 ∉ tl l) : Txt.split (txt ls) "\n" = ls ++ [("" : Str)] := by
  rw [txt_lines]
  refine split_join tl_nl (by decide +kernel) (by simp) fun p hp => ?_
  rcases List.mem_append.mp hp with m | m
  · exact h p m
  · rw [List.mem_singleton.mp m, tl_em]
    simp
theorem txt_snoc (ls : List Str) (l : Str) : txt (ls ++ [l]) = (txt ls ++ l) ++ "\n" := by
  refine txt_ext ?_
  rw [tl_txt, tl_append, tl_append, tl_txt, tl_nl, List.map_append, List.flatten_append]
  simp
theorem ends_txt {ls : List Str} (h : ls ≠ []) : Txt.endswith (txt ls) "\n" = true := by
  rcases List.eq_nil_or_concat ls with e | ⟨a, b, e⟩
  · exact absurd e h
  · rw [e, List.concat_eq_append, txt_snoc, PySem.W.KAf.ends_right (Nat.le_refl _)]
    decide +kernel
/-- the lines of a text -/
def lns (t : Str) : List Str := if tl ((Txt.split t "\n").getLastD "") = [] then (Txt.split t "\n").dropLast else Txt.split t "\n"
theorem lns_txt {ls : List Str} (h : ∀ l ∈ ls, 10 ∉ tl l) : lns (txt ls) = ls := by
  unfold lns
  rw [split_txt h]
  rw [show (ls ++ [("" : Str)]).getLastD "" = "" by simp, if_pos tl_em, List.dropLast_concat]
theorem split_ws {ws : List Str} (ne : ws ≠ []) (h : ∀ w ∈ ws, 32 ∉ tl w) : Txt.split (Txt.join " " ws) " " = ws := split_join tl_sp (by decide +kernel) ne h
/-- the sign of a number -/
def ns (i : Int) : Str := Str.ofString (toString i)
theorem tl_ns {i : Int} (h0 : 0 ≤ i) (h1 : i < 10) : tl (ns i) = [48 + i.toNat] := by
  obtain ⟨n, rfl⟩ := Int.eq_ofNat_of_zero_le h0
  unfold ns
  rw [tl_num, numL_lt (by omega)]
  rfl
def digB (w : Str) : Bool := match tl w with
  | [c] => decide (48 ≤ c ∧ c ≤ 57)
  | _ => false
def dv (w : Str) : Int := (((tl w).headD 48 - 48 : Nat) : Int)
theorem digB_ns {i : Int} (h0 : 0 ≤ i) (h1 : i < 10) : digB (ns i) = true ∧ dv (ns i) = i := by
  unfold digB dv
  rw [tl_ns h0 h1]
  refine ⟨decide_eq_true ⟨by omega, by omega⟩, ?_⟩
  show ((48 + i.toNat - 48 : Nat) : Int) = i
  omega
theorem dig_ns {w : Str} (h : digB w = true) : w = ns (dv w) ∧ 0 ≤ dv w ∧ dv w < 10 := by
  unfold digB at h
  split at h
  · rename_i c e
    have hc := of_decide_eq_true h
    have ev : dv w = ((c - 48 : Nat) : Int) := by
      unfold dv
      rw [e]
      rfl
    rw [ev]
    refine ⟨txt_ext ?_, by omega, by omega⟩
    rw [tl_ns (by omega) (by omega), e]
    congr 1
    omega
  · cases h
theorem int_dig {w : Str} (h : digB w = true) : intText? w = some (dv w) := by
  obtain ⟨e, h0, h1⟩ := dig_ns h
  obtain ⟨n, en⟩ := Int.eq_ofNat_of_zero_le h0
  rw [en] at e h1 ⊢
  rw [e]
  exact int_num (by rw [numL_lt (by omega)]; show 1 ≤ 4300; decide)
theorem dig_len {w : Str} (h : digB w = true) : w.length = 1 := by
  unfold digB at h
  split at h
  · rename_i c e
    rw [tl_len, e]
    rfl
  · cases h
/-- a line of words -/
def jw (ws : List Str) : Str := Txt.join " " ws
def hline (n : Int) : Str := jw ["rooms", ns n]
def dline (x : Int × Int) : Str := jw ["door", ns x.1, ns x.2]
def pline (z : Str) (a b : Int) : Str := jw [z, ns a, ns b]
theorem tl_jw2 (a b : Str) : tl (jw [a, b]) = tl a ++ (32 :: tl b) := by
  unfold jw
  rw [join_eq, tl_join, tl_sp]
  rfl
theorem tl_jw3 (a b c : Str) : tl (jw [a, b, c]) = tl a ++ (32 :: (tl b ++ (32 :: tl c))) := by
  unfold jw
  rw [join_eq, tl_join, tl_sp]
  rfl
def hls (n : Int) (D : List (Int × Int)) : List Str := hline n :: D.map dline
theorem tl_rooms : tl ("rooms" : Str) = [114, 111, 111, 109, 115] := by decide +kernel
theorem tl_door : tl ("door" : Str) = [100, 111, 111, 114] := by decide +kernel
theorem hline_free {n : Int} (h0 : 0 ≤ n) (h1 : n < 10) : 10 ∉ tl (hline n) := by
  unfold hline
  rw [tl_jw2, tl_rooms, tl_ns h0 h1]
  simp
  omega
theorem dline_free {x : Int × Int} (h : 0 ≤ x.1 ∧ x.1 < 10 ∧ 0 ≤ x.2 ∧ x.2 < 10) : 10 ∉ tl (dline x) := by
  unfold dline
  rw [tl_jw3, tl_door, tl_ns h.1 h.2.1, tl_ns h.2.2.1 h.2.2.2]
  simp
  omega
end Fw
set_option maxHeartbeats 2000000
namespace Fw
open TL
open PySem PySem.Spec PyProof.Rows L2
/-! lines made and read -/
theorem d_le (c : Nat) : (!decide (([c] : List Nat) < [48])) = decide (48 ≤ c) := by
  by_cases h : 48 ≤ c
  · rw [decide_eq_true h, decide_eq_false]
    · rfl
    · intro z
      rw [List.cons_lt_cons_iff] at z
      rcases z with z | z
      · omega
      · exact absurd z.2 (by simp)
  · rw [decide_eq_false h, decide_eq_true]
    · rfl
    · rw [List.cons_lt_cons_iff]
      exact .inl (by omega)
theorem d_ge (c : Nat) : (!decide (([57] : List Nat) < [c])) = decide (c ≤ 57) := by
  by_cases h : c ≤ 57
  · rw [decide_eq_true h, decide_eq_false]
    · rfl
    · intro z
      rw [List.cons_lt_cons_iff] at z
      rcases z with z | z
      · omega
      · exact absurd z.2 (by simp)
  · rw [decide_eq_false h, decide_eq_true]
    · rfl
    · rw [List.cons_lt_cons_iff]
      exact .inl (by omega)
theorem tl_0 : (Str.ofString "0").cps.toList = [48] := by decide +kernel
theorem tl_9 : (Str.ofString "9").cps.toList = [57] := by decide +kernel
theorem len_ns {i : Int} (h0 : 0 ≤ i) (h1 : i < 10) : (ns i).length = 1 := by
  rw [tl_len, tl_ns h0 h1]
  rfl
theorem cut_dl (xs : List V) (x : V) : cutV (xs ++ [x]) none (some (-1)) = xs := by
  unfold cutV
  show ((xs ++ [x]).drop 0).take (((-1 : Int) + ((xs ++ [x]).length : Nat)).toNat - 0) = _
  rw [List.length_append, show ((-1 : Int) + ((xs.length + [x].length : Nat) : Int)).toNat = xs.length by simp; omega, List.drop_zero, Nat.sub_zero, List.take_left']
  rfl
theorem tl_rooms' : tl ("rooms " : Str) = [114, 111, 111, 109, 115, 32] := by decide +kernel
theorem tl_door' : tl ("door " : Str) = [100, 111, 111, 114, 32] := by decide +kernel
theorem tl_empty : tl Str.empty = [] := rfl
theorem f_rooms (n : Int) : Str.empty ++ Str.ofString "rooms " ++ Str.ofString (toString n) = hline n := by
  refine txt_ext ?_
  unfold hline
  rw [tl_jw2, tl_append, tl_append, tl_empty, tl_rooms, tl_rooms']
  simp [ns]
theorem f_door (a b : Int) : Str.empty ++ Str.ofString "door " ++ Str.ofString (toString a) ++ Str.ofString " " ++ Str.ofString (toString b) = dline (a, b) := by
  refine txt_ext ?_
  unfold dline
  rw [tl_jw3, tl_append, tl_append, tl_append, tl_append, tl_empty, tl_door, tl_door', tl_sp]
  simp [ns]
theorem f_plc (z : Str) (a b : Int) : Str.empty ++ z ++ Str.ofString " " ++ Str.ofString (toString a) ++ Str.ofString " " ++ Str.ofString (toString b) = pline z a b := by
  refine txt_ext ?_
  unfold pline
  rw [tl_jw3, tl_append, tl_append, tl_append, tl_append, tl_append, tl_empty, tl_sp]
  simp [ns]
theorem len_hline {n : Int} (h0 : 0 ≤ n) (h1 : n < 10) : (hline n).length = 7 := by
  rw [tl_len]
  unfold hline
  rw [tl_jw2, tl_rooms, tl_ns h0 h1]
  rfl
theorem len_dline {x : Int × Int} (h : 0 ≤ x.1 ∧ x.1 < 10 ∧ 0 ≤ x.2 ∧ x.2 < 10) : (dline x).length = 8 := by
  rw [tl_len]
  unfold dline
  rw [tl_jw3, tl_door, tl_ns h.1 h.2.1, tl_ns h.2.2.1 h.2.2.2]
  rfl
theorem len_pline {z : Str} {a b : Int} (h : 0 ≤ a ∧ a < 10 ∧ 0 ≤ b ∧ b < 10) : (pline z a b).length = z.length + 4 := by
  rw [tl_len, tl_len z]
  unfold pline
  rw [tl_jw3, tl_ns h.1 h.2.1, tl_ns h.2.2.1 h.2.2.2, List.length_append]
  rfl
theorem len_hls {n : Int} {D : List (Int × Int)} (f : Forest n D) (n1 : 1 ≤ n) (n8 : n ≤ 8) : ∀ l ∈ hls n D, l.length ≤ 8 := fun l hl => by
  rcases List.mem_cons.mp hl with rfl | m
  · rw [len_hline (by omega) (by omega)]
    decide
  · obtain ⟨x, hx, rfl⟩ := List.mem_map.mp m
    have := f.ends (a := x.1) (b := x.2) hx
    rw [len_dline (by omega)]
    decide
def pls (P G : List (Str × Int)) : List Str := List.zipWith (fun x y => pline x.1 x.2 y.2) P G
theorem pls_at {P G : List (Str × Int)} {k : Nat} {z z' : Str} {a b : Int} (h : P[k]? = some (z, a)) (h' : G[k]? = some (z', b)) : (pls P G)[k]? = some (pline z a b) := by
  unfold pls
  rw [List.getElem?_zipWith, h, h']
theorem pls_len {P G : List (Str × Int)} (e : G.map (·.1) = P.map (·.1)) : (pls P G).length = P.length := by
  have := congrArg List.length e
  rw [List.length_map, List.length_map] at this
  unfold pls
  rw [List.length_zipWith]
  omega
theorem same_at {P G : List (Str × Int)} (e : G.map (·.1) = P.map (·.1)) {k : Nat} {z : Str} {a : Int} (h : P[k]? = some (z, a)) : ∃ b, G[k]? = some (z, b) := by
  have := congrArg (·[k]?) e
  simp only [List.getElem?_map, h, Option.map_some] at this
  cases g : G[k]? with
  | none => rw [g] at this; cases this
  | some x =>
    rw [g] at this
    obtain ⟨z', b⟩ := x
    have : z' = z := Option.some.inj this
    exact ⟨b, by rw [this]⟩
theorem pre_le {a b : Str} (h : (a ++ b).length ≤ 100) : (a ++ b).length ≤ sizeLine ∧ a.length ≤ 100 := by
  rw [PySem.Str.length_append] at h ⊢
  rw [sizeLine_eq]
  omega
/-- f'..', by a name -/
def tFs (ts : List TE) : TE := fun σ H Q => tJs ts Str.empty σ H fun out H1 => Q (.str out) H1
def rJoin (K : PySem.W.Frag) : V → List V → Hp → VK → Prop := fun x xs H Q => ∃ a p, ∃ ys : List Str, x = .str a ∧ xs = [.ref p] ∧ (SqL K H p (ys.map V.str) ∨ SqT K H p (ys.map V.str)) ∧ (ys.map (·.length)).sum + ys.length * a.length ≤ 16777216 ∧ Q (.str (Txt.join a ys)) H
theorem pe_joinK {X : Cx} (K : PySem.W.Frag) (hK : X.K = K) {o e : Expr} {to te : TE} {apos pos : Pos} (ho : PE X o to) (he : PE X e te) (hs : starEach [e] X.env = [(false, eval e X.env)] := by rfl) (hbase : attributeBase o "join" X.env (eval o X.env) = eval o X.env := by rfl) (hline : (apos.endLine == pos.line) = true := by rfl) :
    PE X (.Call (.Attribute o "join" apos) [e] [] pos) (tM1 (rJoin K) to te) := by
  subst hK
  exact pe_join ho he hs hbase hline
theorem pe_fsJ {X : Cx} {v1 v2 : Expr} {rest : List Expr} {ts : List TE} {pos : Pos} (h : PJ X (v1 :: v2 :: rest) ts) : PE X (.JoinedStr (v1 :: v2 :: rest) pos) (tFs ts) := pe_joined h
section
variable {P : Program} {w : World} {K : PySem.W.Frag} {mg : Str → Option Value} {base : Heap}
def spDig : Sp := fun vs H Q _ => ∃ w : Str, vs = [.str w] ∧ w.length ≤ sizeLine ∧ Q (.bl (digB w)) H
abbrev nDig : List Str := ["word"]
theorem scDig : FnScope nDig ["word"] (defScope sDig) := ⟨rfl, rfl, rfl, by decide +kernel, rfl, by decide +kernel, by decide +kernel⟩
theorem ok_dig {f : Addr} {fd : FuncData} {k : Nat} (F : Fun K "is_digit" "is_digit" sDig f fd) (T : Nm mg) : FnOk P w K mg base CX0 (k + 1) f fd ["word"] spDig := by
  refine F.ok scDig (fun vs H Q E h => ?_) (fun cdv A outer s H vs Q E hr h => ?_)
  · obtain ⟨w, rfl, _⟩ := h
    rfl
  · obtain ⟨w, rfl, hl, q⟩ := h
    refine ⟨_, (pss_one (ps_ret (pe_and (pe_cmpR op_eq (pe_callB call_len_str (by rfl) T.len (by decide +kernel) (pa_cons (pv 0) pa_nil)) pe_int (nomark _)) (pe_one (pe_chain op_le_str op_le_str pe_str (pv 0) pe_str))))), ?_⟩
    refine ⟨_, rfl, _, rfl, hl, rfl, ?_⟩
    have ll : w.length = (tl w).length := tl_len w
    by_cases l1 : w.length = 1
    · obtain ⟨c, hc⟩ : ∃ c, tl w = [c] := List.length_eq_one_iff.mp (by rw [← ll, l1])
      have eb : digB w = decide (48 ≤ c ∧ c ≤ 57) := by
        unfold digB
        rw [hc]
      rw [eb] at q
      rw [show decide (V.int ((w.length : Nat) : Int) = V.int 1) = true from decide_eq_true (by rw [l1]; rfl)]
      refine ⟨true, rfl, iteT ⟨_, rfl, _, _, rfl, rfl, _, rfl, ?_⟩⟩
      rw [show w.cps.toList = [c] from hc, tl_0, d_le]
      by_cases h1 : 48 ≤ c
      · rw [decide_eq_true h1]
        refine iteT ⟨_, _, rfl, rfl, ?_⟩
        rw [show w.cps.toList = [c] from hc, tl_9, d_ge]
        rw [show decide (48 ≤ c ∧ c ≤ 57) = decide (c ≤ 57) by rw [Bool.eq_iff_iff]; simp; omega] at q
        exact q
      · rw [decide_eq_false h1]
        rw [show decide (48 ≤ c ∧ c ≤ 57) = false by rw [decide_eq_false_iff_not]; omega] at q
        exact iteF q
    · have eb : digB w = false := by
        unfold digB
        split
        · rename_i c e
          rw [ll, e] at l1
          exact absurd rfl l1
        · rfl
      rw [eb] at q
      rw [show decide (V.int ((w.length : Nat) : Int) = V.int 1) = false from decide_eq_false fun z => l1 (by have := V.int.inj z; omega)]
      exact ⟨false, rfl, iteF q⟩
def spJoined (K : PySem.W.Frag) : Sp := fun vs H Q _ => ∃ (L : Addr) (ls : List Str), vs = [.ref L] ∧ SqL K H L (ls.map V.str) ∧ ls.length ≤ 1000 ∧ (∀ l ∈ ls, l.length ≤ 1000) ∧ ∀ H', Same H H' → Q (.str (txt ls)) H'
theorem sum_le {ls : List Str} (h : ∀ l ∈ ls, l.length ≤ 1000) : (((ls.map fun l => l ++ ("\n" : Str)).map (·.length)).sum) ≤ 1001 * ls.length := by
  induction ls with
  | nil => exact Nat.le_refl _
  | cons l ls ih =>
    have h1 := h l List.mem_cons_self
    have h2 := ih fun x hx => h x (List.mem_cons_of_mem _ hx)
    rw [List.map_cons, List.map_cons, List.sum_cons, List.length_cons, PySem.Str.length_append, show ("\n" : Str).length = 1 by decide +kernel]
    omega
abbrev nJnd : List Str := ["lines", "line"]
theorem scJnd : FnScope nJnd ["lines"] (defScope sJnd) := ⟨rfl, rfl, rfl, by decide +kernel, rfl, by decide +kernel, by decide +kernel⟩
theorem ok_jnd {f : Addr} {fd : FuncData} {k : Nat} (F : Fun K "joined" "joined" sJnd f fd) {tkL : Tok} (mLF : mg "LINE_FEED" = some (.str "\n" tkL)) : FnOk P w K mg base CX0 (k + 1) f fd ["lines"] (spJoined K) := by
  refine F.ok scJnd (fun vs H Q E h => ?_) (fun cdv A outer s H vs Q E hr h => ?_)
  · obtain ⟨L, ls, rfl, _⟩ := h
    rfl
  · obtain ⟨L, ls, rfl, hL, ll, lw, q⟩ := h
    refine ⟨_, (pss_one (ps_ret (pe_joinK K rfl pe_str (pe_lc (own := [("line", 1)]) (g := gName 1) (by rfl) scJnd.nd (pi_listK K rfl (pv 0))
 (blkOk_by (own := [("line", 1)]) (N := nJnd) (sc := defScope sJnd) (by decide +kernel))
 (fun _ _ _ _ _ => (pg_name (i := 1) scJnd.nd rfl (.inl rfl))) (fun _ _ _ _ _ => pts_nil) (fun _ _ _ _ _ => (pe_op op_add_str (pv 1) (pe_glob (v := .str "\n") (by rfl) mLF ⟨_, rfl⟩))))))), ?_⟩
    have sz := sizeLine_eq
    refine ⟨⟨_, rfl⟩, _, rfl, L, rfl, ⟨_, hL⟩, fun M hM => lc_list (K := K) (a := L) (xs := ls.map V.str) (fun i H' => Same H H' ∧ H' M = some (.lst (((ls.take i).map fun l => l ++ ("\n" : Str)).map V.str))) ⟨same_upd hM, upd_same⟩ (fun i H' _ hh => sqL_sm hh.1 hL) ?_ ?_⟩
    · rintro i x H' hx ⟨s', e'⟩
      obtain ⟨y, hy, rfl⟩ := get_vs hx
      refine ⟨rfl, ?_⟩
      unfold tYes
      have ly := lw y (List.mem_of_getElem? hy)
      refine iteT ⟨_, rfl, _, _, rfl, rfl, ?_, _, e', ?_, same_put s' hM, ?_⟩
      · rw [show (Str.ofString "\n").length = 1 by decide +kernel]
        omega
      · rw [List.length_map, List.length_map, List.length_take]
        omega
      · rw [upd_same, take_snoc hy, List.map_append, List.map_append]
        rfl
    · rintro H' ⟨s', e'⟩
      rw [List.length_map, List.take_length] at e'
      refine ⟨_, M, ls.map fun l => l ++ ("\n" : Str), rfl, rfl, .inl (SqL.of e'), ?_, q _ s'⟩
      have := sum_le lw
      rw [List.length_map, show (Str.ofString "").length = 0 by decide +kernel]
      omega
def spSplitLn (K : PySem.W.Frag) : Sp := fun vs H Q _ => ∃ t : Str, vs = [.str t] ∧ t.length ≤ 100000 ∧ ∀ H' L, Same H H' → H' L = some (.lst ((lns t).map V.str)) → Q (.ref L) H'
abbrev nSpLn : List Str := ["value", "lines"]
theorem scSpLn : FnScope nSpLn ["value"] (defScope sSpLn) := ⟨rfl, rfl, rfl, by decide +kernel, rfl, by decide +kernel, by decide +kernel⟩
theorem ok_spln {f : Addr} {fd : FuncData} {k : Nat} (F : Fun K "split_lines" "split_lines" sSpLn f fd) (T : Nm mg) {tkL : Tok} (mLF : mg "LINE_FEED" = some (.str "\n" tkL)) : FnOk P w K mg base CX0 (k + 1) f fd ["value"] (spSplitLn K) := by
  refine F.ok scSpLn (fun vs H Q E h => ?_) (fun cdv A outer s H vs Q E hr h => ?_)
  · obtain ⟨t, rfl, _⟩ := h
    rfl
  · obtain ⟨t, rfl, hl, q⟩ := h
    refine ⟨_, (pss_cons (ps_if (pt_not (pt_val (pe_callB call_isi (by rfl) T.isinstance (by decide +kernel) (pa_cons (pv 0) (pa_cons (pe_bltn (v := .ty "str") (by rfl) T.str (by decide +kernel) rfl) pa_nil)))))
      pss_never
      pss_nil)
      (pss_cons (ps_set (i := 1) scSpLn.nd rfl (.inl rfl) (pe_split (pv 0) (pe_glob (v := .str "\n") (by rfl) mLF ⟨_, rfl⟩)))
      (pss_one (ps_ret (pe_ifExp (pt_truthK K rfl (pe_ix (ix_listK K rfl) (pv 1) (pe_un un_neg pe_int) (fun _ _ => rfl)) (by intro _; rfl)) (pv 1) (pe_slice sl_list (pv 1) po_none (po_some (pe_un un_neg pe_int)))))))), ?_⟩
    have sz := sizeLine_eq
    refine ⟨_, rfl, _, _, _, _, _, rfl, .ty _, .base (.str _), kit_ty k_ss, _, rfl, iteF ?_⟩
    refine ⟨_, rfl, ⟨_, rfl⟩, t, "\n", rfl, rfl, by decide +kernel, by omega, fun L hL => ?_⟩
    have s1 := same_upd (o := .lst ((Txt.split t "\n").map V.str)) hL
    have e1 : (upd H L (.lst ((Txt.split t "\n").map V.str))) L = some (.lst ((Txt.split t "\n").map V.str)) := upd_same
    generalize upd H L (.lst ((Txt.split t "\n").map V.str)) = H1 at *
    have np := PyProof.Rows.split_pos t "\n"
    rcases List.eq_nil_or_concat (Txt.split t "\n") with e | ⟨a, b, e⟩
    · rw [e] at np
      exact absurd np (by decide)
    rw [List.concat_eq_append] at e
    have lb : b.length ≤ t.length := PyProof.Rows.part_short (y := "\n") (by rw [e]; simp)
    have el : lns t = if tl b = [] then a else a ++ [b] := by
      unfold lns
      rw [e, List.dropLast_concat]
      simp
    rw [e, List.map_append] at e1
    refine ⟨_, rfl, _, rfl, L, _, _, _, rfl, rfl, SqL.of e1, atI_last _ _, _, ⟨by omega, rfl⟩, ?_⟩
    by_cases z : tl b = []
    · rw [if_pos z] at el
      have : b.length = 0 := by rw [tl_len, z]; rfl
      rw [this]
      refine iteF ⟨_, rfl, _, rfl, _, rfl, L, _, rfl, SqL.of e1, fun p hp => ?_⟩
      show Q (.ref p) _
      rw [show (List.map V.str a ++ List.map V.str [b]) = List.map V.str a ++ [V.str b] from rfl, cut_dl]
      exact q _ _ (s1.trans (same_upd hp)) (by rw [el]; exact upd_same)
    · rw [if_neg z] at el
      have : b.length ≠ 0 := fun y => z (List.eq_nil_of_length_eq_zero (by rw [← tl_len, y]))
      have tr : (((b.length : Nat) : Int) != 0) = true := by
        rw [bne_iff_ne]
        omega
      rw [tr]
      exact iteT ⟨_, rfl, q _ _ s1 (by rw [el, List.map_append]; exact e1)⟩
def spFmtH (K : PySem.W.Frag) : Sp := fun vs H Q _ => ∃ (h : Addr) (n : Int) (D : List (Int × Int)), vs = [.ref h] ∧ HouseQ K H h n D ∧ Forest n D ∧ 1 ≤ n ∧ n ≤ 8 ∧ ∀ H', Same H H' → Q (.str (txt (hls n D))) H'
abbrev nFmtH : List Str := ["house", "rooms", "doors", "a", "b"]
theorem scFmtH : FnScope nFmtH ["house"] (defScope sFmtH) := ⟨rfl, rfl, rfl, by decide +kernel, rfl, by decide +kernel, by decide +kernel⟩
theorem ok_fmth {f : Addr} {fd : FuncData} {k : Nat} (F : Fun K "format_house" "format_house" sFmtH f fd) (Cjoined : Cal P w K mg base k "joined" ["lines"] (spJoined K)) : FnOk P w K mg base CX0 (k + 1) f fd ["house"] (spFmtH K) := by
  refine F.ok scFmtH (fun vs H Q E h => ?_) (fun cdv A outer s H vs Q E hr h => ?_)
  · obtain ⟨h, n, D, rfl, _⟩ := h
    rfl
  · obtain ⟨h, n, D, rfl, hH, hF, n1, n8, q⟩ := h
    refine ⟨_, (pss_cons (ps_asg (pv 0) (pg_tup (by rfl) (pgs_cons (pg_name (i := 1) scFmtH.nd rfl (.inl rfl)) (pgs_cons (pg_name (i := 2) scFmtH.nd rfl (.inl rfl)) pgs_nil))))
      (pss_one (ps_ret (pe_cal Cjoined hr (by rfl) (pa_cons (pe_op op_cat (pe_lst (pa_cons (pe_fsJ (PJ.cons pe_str (PJ.cons (pe_fmt (pv 1)) PJ.nil))) pa_nil)) (pe_lc (own := [("a", 3), ("b", 4)]) (g := gTup K 2 (gCons (gName 3) (gCons (gName 4) gNil))) (by rfl) scFmtH.nd (pi_tupK K rfl (pv 2))
 (blkOk_by (own := [("a", 3), ("b", 4)]) (N := nFmtH) (sc := defScope sFmtH) (by decide +kernel))
 (fun _ _ _ _ _ => (pg_tup (by rfl) (pgs_cons (pg_name (i := 3) scFmtH.nd rfl (.inl rfl)) (pgs_cons (pg_name (i := 4) scFmtH.nd rfl (.inl rfl)) pgs_nil)))) (fun _ _ _ _ _ => pts_nil) (fun _ _ _ _ _ => (pe_fsJ (PJ.cons pe_str (PJ.cons (pe_fmt (pv 3)) (PJ.cons pe_str (PJ.cons (pe_fmt (pv 4)) PJ.nil)))))))) pa_nil))))), ?_⟩
    have sz := sizeLine_eq
    obtain ⟨qd, ps, h1, h2, eD, h4⟩ := hH
    refine ⟨_, rfl, h, _, rfl, h1, rfl, _, _, rfl, _, _, rfl, rfl, ?_⟩
    have ln := len_ns (i := n) (by omega) (by omega)
    have lh := pre_le (a := Str.empty ++ Str.ofString "rooms ") (b := Str.ofString (toString n)) (by rw [f_rooms, len_hline (by omega) (by omega)]; decide)
    refine ⟨_, rfl, Nat.le_trans lh.2 (by omega), _, rfl, .inr ⟨n, rfl, log_small (by omega) (by omega), _, rfl, lh.1, ?_⟩⟩
    rw [f_rooms]
    refine ⟨by show 1 ≤ sizeLine; omega, fun L1 hL1 => ?_⟩
    have s1 := same_upd (o := .lst [.str (hline n)]) hL1
    have e1 : (upd H L1 (.lst [.str (hline n)])) L1 = some (.lst [.str (hline n)]) := upd_same
    generalize upd H L1 (.lst [.str (hline n)]) = H1 at *
    have h21 := sqT_sm s1 h2
    refine ⟨_, rfl, qd, rfl, ⟨_, h21⟩, fun N hN => lc_tup (K := K) (a := qd) (xs := ps.map fun p => V.ref p.1) (fun i H' => Same H1 H' ∧ H' N = some (.lst (((D.take i).map dline).map V.str))) ⟨same_upd hN, upd_same⟩ (fun i H' _ hh => sqT_sm hh.1 h21) ?_ ?_⟩
    · rintro i x H' hx ⟨s', e'⟩
      obtain ⟨p, hp, rfl⟩ := get_ref hx
      have ed : D[i]? = some p.2 := by rw [eD, List.getElem?_map, hp]; rfl
      have en := hF.ends (a := p.2.1) (b := p.2.2) (List.mem_of_getElem? ed)
      refine ⟨p.1, _, rfl, sqT_sm (s1.trans s') (h4 p (List.mem_of_getElem? hp)), rfl, _, _, rfl, _, _, rfl, rfl, rfl, ?_⟩
      unfold tYes
      have ld := pre_le (a := Str.empty ++ Str.ofString "door " ++ Str.ofString (toString p.2.1) ++ Str.ofString " ") (b := Str.ofString (toString p.2.2)) (by rw [f_door, len_dline (by omega)]; decide)
      have l2 := pre_le ld.2
      have l3 := pre_le l2.2
      refine iteT ⟨_, rfl, Nat.le_trans l3.2 (by omega), _, rfl, .inr ⟨p.2.1, rfl, log_small (by omega) (by omega), _, rfl, l3.1, _, rfl, l2.1, _, rfl, .inr ⟨p.2.2, rfl, log_small (by omega) (by omega), _, rfl, ld.1, ?_⟩⟩⟩
      rw [f_door]
      refine ⟨_, e', ?_, same_put s' hN, ?_⟩
      · have := hF.len
        rw [List.length_map, List.length_map, List.length_take]
        omega
      · rw [upd_same, take_snoc ed, List.map_append, List.map_append]
        rfl
    rintro H2 ⟨s2, e2⟩
    rw [List.length_map, show ps.length = D.length by rw [eD, List.length_map], List.take_length] at e2
    have lD := hF.len
    refine ⟨L1, N, _, _, rfl, rfl, s2 _ _ e1, e2, by rw [List.length_map, List.length_map]; show 1 + D.length ≤ sizeLine; omega, fun M hM => ?_⟩
    have s3 := (s1.trans s2).trans (same_upd (o := .lst ([.str (hline n)] ++ (D.map dline).map V.str)) hM)
    exact ⟨M, hls n D, rfl, SqL.of upd_same, by show (D.map dline).length + 1 ≤ 1000; rw [List.length_map]; omega, fun l hl => Nat.le_trans (len_hls hF n1 n8 l hl) (by decide), fun H' s' => q _ (s3.trans s')⟩
def spFmtP : Sp := fun vs H Q _ => ∃ (p g : Addr) (PP GG : List (Str × Int)), vs = [.ref p, .ref g] ∧ PlAt H p PP ∧ PlAt H g GG ∧ GG.map (·.1) = PP.map (·.1) ∧ (PP.map (·.1)).Nodup ∧ (∀ x ∈ PP, x.1.length ≤ 20 ∧ 0 ≤ x.2 ∧ x.2 < 10) ∧ (∀ x ∈ GG, 0 ≤ x.2 ∧ x.2 < 10) ∧ PP.length ≤ 100 ∧
  ∀ H', Same H H' → Q (.str (txt (pls PP GG))) H'
abbrev nFmtP : List Str := ["placement", "target", "name", "room"]
theorem scFmtP : FnScope nFmtP ["placement", "target"] (defScope sFmtP) := ⟨rfl, rfl, rfl, by decide +kernel, rfl, by decide +kernel, by decide +kernel⟩
theorem ok_fmtp {f : Addr} {fd : FuncData} {k : Nat} (F : Fun K "format_placement" "format_placement" sFmtP f fd) (Cjoined : Cal P w K mg base k "joined" ["lines"] (spJoined K)) (Croom_of : Cal P w K mg base k "room_of" pRoomOf spRoomOf) : FnOk P w K mg base CX0 (k + 1) f fd ["placement", "target"] spFmtP := by
  refine F.ok scFmtP (fun vs H Q E h => ?_) (fun cdv A outer s H vs Q E hr h => ?_)
  · obtain ⟨p, g, PP, GG, rfl, _⟩ := h
    rfl
  · obtain ⟨p, g, PP, GG, rfl, hP, hG, e, nd, bP, bG, lP, q⟩ := h
    refine ⟨_, (pss_one (ps_ret (pe_cal Cjoined hr (by rfl) (pa_cons (pe_lc (own := [("name", 2), ("room", 3)]) (g := gTup K 2 (gCons (gName 2) (gCons (gName 3) gNil))) (by rfl) scFmtP.nd (pi_tupK K rfl (pv 0))
 (blkOk_by (own := [("name", 2), ("room", 3)]) (N := nFmtP) (sc := defScope sFmtP) (by decide +kernel))
 (fun _ _ _ _ _ => (pg_tup (by rfl) (pgs_cons (pg_name (i := 2) scFmtP.nd rfl (.inl rfl)) (pgs_cons (pg_name (i := 3) scFmtP.nd rfl (.inl rfl)) pgs_nil)))) (fun _ _ _ _ _ => pts_nil) (fun _ _ _ _ _ => (pe_fsJ (PJ.cons (pe_fmt (pv 2)) (PJ.cons pe_str (PJ.cons (pe_fmt (pv 3)) (PJ.cons pe_str (PJ.cons (pe_fmt (pe_cal Croom_of hr (by rfl) (pa_cons (pv 1) (pa_cons (pv 2) pa_nil)))) PJ.nil)))))))) pa_nil)))), ?_⟩
    have sz := sizeLine_eq
    have ndG : (GG.map (·.1)).Nodup := by rw [e]; exact nd
    refine ⟨_, rfl, p, rfl, hP.sq, fun L hL => lc_pl hP (fun i H' => Same H H' ∧ H' L = some (.lst (((pls PP GG).take i).map V.str))) ⟨same_upd hL, upd_same⟩ (fun _ _ h => Tk.of h.1) ?_ ?_⟩
    · rintro k nm r H' hk ⟨s', e'⟩
      obtain ⟨b, hb⟩ := same_at e hk
      have b1 : nm.length ≤ 20 ∧ 0 ≤ r ∧ r < 10 := bP _ (List.mem_of_getElem? hk)
      have b2 : 0 ≤ b ∧ b < 10 := bG _ (List.mem_of_getElem? hb)
      have ld := pre_le (a := Str.empty ++ nm ++ Str.ofString " " ++ Str.ofString (toString r) ++ Str.ofString " ") (b := Str.ofString (toString b)) (by rw [f_plc, len_pline ⟨b1.2.1, b1.2.2, b2.1, b2.2⟩]; omega)
      have l2 := pre_le ld.2
      have l3 := pre_le l2.2
      have l4 := pre_le l3.2
      refine ⟨rfl, ?_⟩
      unfold tYes
      refine iteT ⟨_, rfl, .inl ⟨nm, rfl, by omega, _, rfl, Nat.le_trans l4.2 (by omega), _, rfl, l4.1, _, rfl, .inr ⟨r, rfl, log_small (by omega) (by omega), _, rfl, l3.1, _, rfl, l2.1, ?_⟩⟩⟩
      refine ⟨_, rfl, _, rfl, g, GG, nm, b, rfl, hG.same s', List.mem_of_getElem? hb, ndG, .inr ⟨b, rfl, log_small (by omega) (by omega), _, rfl, ld.1, ?_⟩⟩
      rw [f_plc]
      refine ⟨_, e', ?_, same_put s' hL, ?_⟩
      · rw [List.length_map, List.length_take, pls_len e]
        omega
      · rw [upd_same, take_snoc (pls_at hk hb), List.map_append]
        rfl
    rintro H2 ⟨s2, e2⟩
    rw [← pls_len e, List.take_length] at e2
    refine ⟨L, pls PP GG, rfl, SqL.of e2, by rw [pls_len e]; omega, fun l hl => ?_, fun H' s' => q _ (s2.trans s')⟩
    obtain ⟨k, hk, rfl⟩ := List.mem_iff_getElem.mp hl
    have hk' : k < PP.length := by rw [pls_len e] at hk; exact hk
    have h1 : PP[k]? = some (PP[k].1, PP[k].2) := List.getElem?_eq_getElem hk'
    obtain ⟨b, hb⟩ := same_at e h1
    have h3 := pls_at h1 hb
    rw [List.getElem?_eq_getElem hk] at h3
    rw [Option.some.inj h3]
    have b1 := bP _ (List.mem_of_getElem? h1)
    have b2 : 0 ≤ b ∧ b < 10 := bG _ (List.mem_of_getElem? hb)
    dsimp only at b1
    rw [len_pline ⟨b1.2.1, b1.2.2, b2.1, b2.2⟩]
    omega
def spTxt : Sp := fun vs H Q _ => ∃ (s A B : Addr) (c : Nat), vs = [.ref s] ∧ StreamAt H s A B c ∧ c < 2 ^ 28 ∧
  ∀ H' L h p g n D PP GG, StreamAt H' s A B (c + 112) → Fr s A H H' → H' L = some (.lst [.ref h, .ref p, .ref g]) → HouseAt H' h n D → Forest n D → 1 ≤ n → n ≤ 8 → PlD H' p PP → Pl n PP → PlD H' g GG → Pl n GG → GG.map (·.1) = PP.map (·.1) → PP.length ≤ 12 → Q (.ref L) H'
abbrev nLTxt : List Str := ["_law_stream_here", "_law_house_here", "_law_placement_here", "_law_target", "_law_name", "_law_room"]
theorem scLTxt : FnScope nLTxt ["_law_stream_here"] (defScope sLTxt) := ⟨rfl, rfl, rfl, by decide +kernel, rfl, by decide +kernel, by decide +kernel⟩
theorem ok_ltxt {f : Addr} {fd : FuncData} {k : Nat} (F : Fun K "_law_text_case" "_law_text_case" sLTxt f fd) (T : Nm mg) (C_law_draw : Cal P w K mg base k "_law_draw" ["_law_stream_here", "_law_many"] spDraw) (C_law_house : Cal P w K mg base k "_law_house" ["_law_stream_here", "_law_least", "_law_most"] spHouse) (C_law_placement : Cal P w K mg base k "_law_placement" ["_law_stream_here", "_law_house_here", "_law_most"] spPl) : FnOk P w K mg base CX0 (k + 1) f fd ["_law_stream_here"] spTxt := by
  refine F.ok scLTxt (fun vs H Q E h => ?_) (fun cdv A outer s H vs Q E hr h => ?_)
  · obtain ⟨s, A, B, c, rfl, _⟩ := h
    rfl
  · obtain ⟨st, SA, SB, c, rfl, hS, hc, q⟩ := h
    refine ⟨_, (pss_cons (ps_set (i := 1) scLTxt.nd rfl (.inr rfl) (pe_cal C_law_house hr (by rfl) (pa_cons (pv 0) (pa_cons pe_int (pa_cons pe_int pa_nil)))))
      (pss_cons (ps_set (i := 2) scLTxt.nd rfl (.inl rfl) (pe_cal C_law_placement hr (by rfl) (pa_cons (pv 0) (pa_cons (pv 1) (pa_cons pe_int pa_nil)))))
      (pss_cons (ps_set (i := 3) scLTxt.nd rfl (.inl rfl) (pe_callTy (call_tupleF K rfl) (by rfl) T.tuple (by decide +kernel) (pa_cons (pe_lc (own := [("_law_name", 4), ("_law_room", 5)]) (g := gTup K 2 (gCons (gName 4) (gCons (gName 5) gNil))) (by rfl) scLTxt.nd (pi_tupK K rfl (pv 2))
 (blkOk_by (own := [("_law_name", 4), ("_law_room", 5)]) (N := nLTxt) (sc := defScope sLTxt) (by decide +kernel))
 (fun _ _ _ _ _ => (pg_tup (by rfl) (pgs_cons (pg_name (i := 4) scLTxt.nd rfl (.inl rfl)) (pgs_cons (pg_name (i := 5) scLTxt.nd rfl (.inl rfl)) pgs_nil)))) (fun _ _ _ _ _ => pts_nil) (fun _ _ _ _ _ => (pe_tup (pa_cons (pv 4) (pa_cons (pe_cal C_law_draw hr (by rfl) (pa_cons (pv 0) (pa_cons (pe_ix (ix_tupK K rfl) (pv 1) pe_int (fun _ _ => rfl)) pa_nil))) pa_nil))))) pa_nil)))
      (pss_one (ps_ret (pe_lst (pa_cons (pv 1) (pa_cons (pv 2) (pa_cons (pv 3) pa_nil))))))))), ?_⟩
    refine ⟨_, rfl, st, SA, SB, c, 1, 8, rfl, hS, by omega, by decide, by decide, by decide, fun H1 h n D hS1 fr1 hH1 hF n1 n8 => ?_⟩
    refine ⟨_, rfl, _, rfl, st, SA, SB, h, c + 40, n, D, 12, rfl, hS1, by omega, hH1, by omega, n8, by decide, by decide, fun H2 p PP hS2 fr2 hP2 pl lP => ?_⟩
    have lP : PP.length ≤ 12 := lP
    have hH2 := hH1.fr hS1 fr2
    have fr02 := fr1.trans fr2
    obtain ⟨qd, e0⟩ := hH2.room0
    have sz := sizeLine_eq
    refine ⟨_, rfl, p, rfl, hP2.pl.sq, fun L hL => ?_⟩
    have zL := hS2.ne hL
    refine lc_pl hP2.pl (fun k H' => StreamAt H' st SA SB (c + 100 + k) ∧ Fr st SA H2 H' ∧ ∃ G, LsAt H' L G ∧ G.map (·.1) = (PP.take k).map (·.1) ∧ ∀ x ∈ G, 0 ≤ x.2 ∧ x.2 < n) ⟨(hS2.same (same_upd hL)).mono (by omega), Fr.of (same_upd hL), [], .nil upd_same, rfl, fun x hx => (by cases hx)⟩ (fun k H' hh => Tk.fr hh.2.1 hS2) ?_ ?_
    · rintro k nm r H' hk ⟨hS', fr', G, eG, nG, bG⟩
      have lk := lt_of_get hk
      refine ⟨rfl, ?_⟩
      unfold tYes
      refine iteT ⟨_, rfl, _, rfl, _, rfl, h, _, _, _, rfl, rfl, SqT.of (fr'.tup hS2 e0), atI0, st, SA, SB, c + 100 + k, n, rfl, hS', by omega, by omega, by omega, fun H4 b hS4 fr4 b0 b1 => ⟨by show 2 ≤ sizeLine; omega, fun t ht => ?_⟩⟩
      have eG4 := (eG.fr hS' fr4 zL).same (same_upd (o := .tup [.str nm, .int b]) ht)
      obtain ⟨acc, a1, a2, a3⟩ := eG4.snoc (t := t) upd_same
      refine ⟨acc, a1, ?_, ((hS4.same (same_upd ht)).put zL).mono (by omega), ((fr'.trans fr4).trans (Fr.of (same_upd ht))).put hL, G ++ [(nm, b)], a3, ?_, fun x hx => ?_⟩
      · have := congrArg List.length nG
        rw [List.length_map, List.length_map, List.length_take] at this
        omega
      · rw [take_snoc hk, List.map_append, List.map_append, nG]
        rfl
      · rcases List.mem_append.mp hx with m | m
        · exact bG x m
        · rw [List.mem_singleton.mp m]
          exact ⟨b0, b1⟩
    · rintro H3 ⟨hS3, fr3, G, eG, nG, bG⟩
      rw [List.take_length] at nG
      obtain ⟨xs, x1, x2⟩ := eG.tup
      refine ⟨L, xs, rfl, SqL.of x1, fun t ob ht hob => ?_⟩
      have hG := x2 t ob ht hob
      have s4 := same_upd (o := .frz ob (.tup xs)) ht
      refine ⟨_, rfl, _, rfl, _, rfl, by show 3 ≤ sizeLine; omega, fun M hM => ?_⟩
      have s5 := s4.trans (same_upd (o := .lst [.ref h, .ref p, .ref t]) hM)
      exact q _ M h p t n D PP G ((hS3.same s5).mono (by omega)) (fr02.trans (fr3.trans (Fr.of s5))) upd_same ((hH2.fr hS2 fr3).same s5) hF n1 n8 ((hP2.fr hS2 fr3).same s5) pl (hG.same (same_upd hM)) ⟨by rw [nG]; exact pl.nm, bG⟩ nG lP
end
end Fw
set_option maxHeartbeats 2000000
namespace Fw
open TL
open PySem PySem.Spec PyProof.Rows L2
/-! a house's text -/
def nums (ws : List Str) : List Int := (ws.drop 1).map dv
def hwD (oh : Option (Int × List (Int × Int))) (ws : List Str) : PyData :=
  if (ws.drop 1).all digB = true then match oh with
    | none => if ws.head? = some "rooms" then .tuple ((nums ws).map PyData.int ++ [.tuple []]) else .none
    | some x => if ws.head? = some "door" then .tuple [.int x.1, .tuple (x.2.map drd ++ [.tuple ((nums ws).map PyData.int)])] else .none
  else .none
open Classical in
noncomputable def rdH (d : PyData) : Option (Int × List (Int × Int)) := if h : ∃ x : Int × List (Int × Int), d = hsd x.1 x.2 ∧ 1 ≤ x.1 ∧ x.1 ≤ 8 ∧ Forest x.1 x.2 then some h.choose else none
theorem rdH_some {n : Int} {D : List (Int × Int)} (h1 : 1 ≤ n) (h2 : n ≤ 8) (f : Forest n D) : rdH (hsd n D) = some (n, D) := by
  have h : ∃ x : Int × List (Int × Int), hsd n D = hsd x.1 x.2 ∧ 1 ≤ x.1 ∧ x.1 ≤ 8 ∧ Forest x.1 x.2 := ⟨(n, D), rfl, h1, h2, f⟩
  unfold rdH
  rw [dif_pos h]
  obtain ⟨e1, e2⟩ := hsd_inj2 h.choose_spec.1
  exact congrArg some (Prod.ext e1.symm (drds_inj e2.symm))
theorem rdH_none {d : PyData} (h : hsB d = false) : rdH d = none := by
  unfold rdH
  rw [dif_neg]
  rintro ⟨x, e, h1, h2, f⟩
  rw [hsB_iff.mpr ⟨x.1, x.2, e, h1, h2, f⟩] at h
  cases h
theorem hsB_non : hsB .none = false := hsB_no fun ⟨_, _, e, _⟩ => by
  unfold hsd at e
  cases e
/-- a house or None -/
def IsH (K : PySem.W.Frag) (H : Hp) (v : V) : Option (Int × List (Int × Int)) → Prop
  | none => v = .non
  | some x => ∃ h, v = .ref h ∧ HouseQ K H h x.1 x.2 ∧ Forest x.1 x.2 ∧ 1 ≤ x.1 ∧ x.1 ≤ 8
theorem IsH.same {K : PySem.W.Frag} {H H' : Hp} {v : V} : ∀ {o : Option (Int × List (Int × Int))}, IsH K H v o → Same H H' → IsH K H' v o
  | none, h, _ => h
  | some _, ⟨h, e, a, b⟩, s => ⟨h, e, a.same s, b⟩
theorem HouseQ.of_dx {K : PySem.W.Frag} {av : List Addr} {H : Hp} {v : V} {n : Int} {D : List (Int × Int)} (x : Dx K av H v (hsd n D)) : ∃ h, v = .ref h ∧ HouseQ K H h n D := by
  cases x with
  | @tup a xs ds sq da =>
    cases da with
    | @cons x0 _ _ _ h0 da =>
    cases da with
    | @cons x1 _ _ _ h1 da =>
    cases da
    cases h0
    cases h1 with
    | @tup t ys es sq2 db =>
      obtain ⟨ps, e1, e2, e3⟩ := dx_doors db
      exact ⟨a, rfl, t, ps, sq, by rw [← e1]; exact sq2, e2, e3⟩
noncomputable def hwl (oh : Option (Int × List (Int × Int))) (line : Str) : Option (Int × List (Int × Int)) := rdH (hwD oh (Txt.split line " "))
theorem int_gdb {i : Int} (h : i.natAbs ≤ 1000) : Gd 0 0 0 (.int i) := by
  refine ⟨decide_eq_true ?_, Nat.zero_le _, Nat.zero_le _⟩
  have : (1000 : Nat) ≤ 10 ^ 59 := by decide +kernel
  omega
theorem dvs_gd : ∀ {ws : List Str}, (∀ w ∈ ws, digB w = true) → GdA 0 0 ws.length ((ws.map dv).map PyData.int)
  | [], _ => GdA.nil
  | w :: ws, h => by
    obtain ⟨_, h0, h1⟩ := dig_ns (h w List.mem_cons_self)
    exact (GdA.cons (int_gdb (by omega)) (dvs_gd fun x hx => h x (List.mem_cons_of_mem _ hx))).up (Nat.le_refl _) (Nat.le_refl _) (by rw [List.length_cons]; omega)
theorem dxA_ints {K : PySem.W.Frag} {av : List Addr} {H : Hp} : ∀ {cs : List Int}, DxAll K av H (vi cs) (cs.map PyData.int)
  | [] => .nil
  | _ :: _ => .cons (.int _) dxA_ints
theorem dxA_drds {K : PySem.W.Frag} {av : List Addr} {H : Hp} : ∀ {ps : List (Addr × Int × Int)}, (∀ p ∈ ps, SqT K H p.1 [.int p.2.1, .int p.2.2]) → DxAll K av H (ps.map fun p => V.ref p.1) ((ps.map (·.2)).map drd)
  | [], _ => .nil
  | p :: ps, h => .cons (.tup (h p List.mem_cons_self) (.cons (.int _) (.cons (.int _) .nil))) (dxA_drds fun x hx => h x (List.mem_cons_of_mem _ hx))
theorem drdz_gd : ∀ {D : List (Int × Int)}, (∀ x ∈ D, x.1.natAbs ≤ 1000 ∧ x.2.natAbs ≤ 1000) → GdA 0 1 (3 * D.length) (D.map drd)
  | [], _ => GdA.nil.up (Nat.le_refl _) (Nat.zero_le _) (Nat.zero_le _)
  | d :: D, h => by
    have h1 := h d List.mem_cons_self
    have a : Gd 0 1 2 (drd d) := Gd.tup (GdA.cons (int_gdb h1.1) (GdA.cons (int_gdb h1.2) (GdA.nil (n := 0))))
    exact (GdA.cons a (drdz_gd fun x hx => h x (List.mem_cons_of_mem _ hx))).up (Nat.le_refl _) (Nat.le_refl _) (by rw [List.length_cons]; omega)
section
variable {P : Program} {w : World} {K : PySem.W.Frag} {mg : Str → Option Value} {base : Heap}
def spHwl (K : PySem.W.Frag) : Sp := fun vs H Q _ => ∃ (hv : V) (line : Str) (oh : Option (Int × List (Int × Int))), vs = [hv, .str line] ∧ IsH K H hv oh ∧ line.length ≤ 1000 ∧ ∀ H' v, Same H H' → IsH K H' v (hwl oh line) → Q v H'
abbrev nHwl : List Str := ["house", "line", "words", "word", "numbers", "found"]
theorem scHwl : FnScope nHwl ["house", "line"] (defScope sHwl) := ⟨rfl, rfl, rfl, by decide +kernel, rfl, by decide +kernel, by decide +kernel⟩
theorem ok_hwl {f : Addr} {fd : FuncData} {k : Nat} (F : Fun K "house_with_line" "house_with_line" sHwl f fd) (T : Nm mg) (Cis_digit : Cal P w K mg base k "is_digit" ["word"] spDig) (Cis_house : Cal P w K mg base k "is_house" ["value"] (spHouseA K)) : FnOk P w K mg base CX0 (k + 1) f fd ["house", "line"] (spHwl K) := by
  refine F.ok scHwl (fun vs H Q E h => ?_) (fun cdv A outer s H vs Q E hr h => ?_)
  · obtain ⟨hv, line, oh, rfl, _⟩ := h
    rfl
  · obtain ⟨hv, line, oh, rfl, hI, ll, q⟩ := h
    refine ⟨_, (pss_cons (ps_set (i := 2) scHwl.nd rfl (.inl rfl) (pe_split (pv 1) pe_str))
      (pss_cons (ps_if (pt_not (pt_val (pe_callB (cr_all rfl) (by rfl) T.all (by decide +kernel) (pa_cons (pe_lc (own := [("word", 3)]) (g := gName 3) (by rfl) scHwl.nd (pi_listK K rfl (pe_slice sl_list (pv 2) (po_some pe_int) po_none))
 (blkOk_by (own := [("word", 3)]) (N := nHwl) (sc := defScope sHwl) (by decide +kernel))
 (fun _ _ _ _ _ => (pg_name (i := 3) scHwl.nd rfl (.inl rfl))) (fun _ _ _ _ _ => pts_nil) (fun _ _ _ _ _ => (pe_cal Cis_digit hr (by rfl) (pa_cons (pv 3) pa_nil)))) pa_nil))))
      (pss_one (ps_ret pe_non))
      pss_nil)
      (pss_cons (ps_set (i := 4) scHwl.nd rfl (.inl rfl) (pe_callTy (call_tupleK K rfl) (by rfl) T.tuple (by decide +kernel) (pa_cons (pe_lc (own := [("word", 3)]) (g := gName 3) (by rfl) scHwl.nd (pi_listK K rfl (pe_slice sl_list (pv 2) (po_some pe_int) po_none))
 (blkOk_by (own := [("word", 3)]) (N := nHwl) (sc := defScope sHwl) (by decide +kernel))
 (fun _ _ _ _ _ => (pg_name (i := 3) scHwl.nd rfl (.inl rfl))) (fun _ _ _ _ _ => pts_nil) (fun _ _ _ _ _ => (pe_callTy call_int_str (by rfl) T.int (by decide +kernel) (pa_cons (pv 3) pa_nil)))) pa_nil)))
      (pss_cons (ps_if (pt_cmp (pc_isN (pv 0)))
      (pss_one (ps_set (i := 5) scHwl.nd rfl (.inl rfl) (pe_ifExp (pt_cmpR op_eq (pe_ix (ix_listK K rfl) (pv 2) pe_int (fun _ _ => rfl)) pe_str (nomark _)) (pe_tup (StX.pa_star (pv 4) (pa_cons (pe_tup pa_nil) pa_nil))) pe_non)))
      (pss_one (ps_set (i := 5) scHwl.nd rfl (.inl rfl) (pe_ifExp (pt_cmpR op_eq (pe_ix (ix_listK K rfl) (pv 2) pe_int (fun _ _ => rfl)) pe_str (nomark _)) (pe_tup (pa_cons (pe_ix (ix_tupK K rfl) (pv 0) pe_int (fun _ _ => rfl)) (pa_cons (pe_tup (StX.pa_star (pe_ix (ix_tupK K rfl) (pv 0) pe_int (fun _ _ => rfl)) (pa_cons (pv 4) pa_nil))) pa_nil))) pe_non))))
      (pss_one (ps_ret (pe_ifExp (pt_val (pe_cal Cis_house hr (by rfl) (pa_cons (pv 5) pa_nil))) (pv 5) pe_non))))))), ?_⟩
    have sz := sizeLine_eq
    refine ⟨_, rfl, ⟨_, rfl⟩, line, " ", rfl, rfl, by decide +kernel, by omega, fun W hW => ?_⟩
    have np := PyProof.Rows.split_pos line " "
    have nl := PyProof.Rows.split_le line " "
    have sh : ∀ x ∈ Txt.split line " ", x.length ≤ line.length := fun x hx => PyProof.Rows.part_short hx
    have q : ∀ H' v, Same H H' → IsH K H' v (rdH (hwD oh (Txt.split line " "))) → Q v H' := q
    generalize Txt.split line " " = ws at *
    match ws, np with
    | w0 :: wr, _ =>
    have s1 := same_upd (o := .lst ((w0 :: wr).map V.str)) hW
    have e1 : (upd H W (.lst ((w0 :: wr).map V.str))) W = some (.lst ((w0 :: wr).map V.str)) := upd_same
    generalize upd H W (.lst ((w0 :: wr).map V.str)) = H1 at *
    have lw : wr.length ≤ 1001 := by
      rw [List.length_cons] at nl
      omega
    refine ⟨_, rfl, 1, rfl, W, _, rfl, SqL.of e1, fun S hS => ?_⟩
    have ec : cutV ((w0 :: wr).map V.str) (some 1) none = wr.map V.str := by
      rw [cut1]
      rfl
    rw [ec]
    have s2 := same_upd (o := .lst (wr.map V.str)) hS
    have e2 : (upd H1 S (.lst (wr.map V.str))) S = some (.lst (wr.map V.str)) := upd_same
    have e12 := s2 _ _ e1
    generalize upd H1 S (.lst (wr.map V.str)) = H2 at *
    refine ⟨S, rfl, ⟨_, SqL.of e2⟩, fun B hB => lc_list (K := K) (a := S) (xs := wr.map V.str) (fun i H' => Same H2 H' ∧ H' B = some (.lst (((wr.take i).map digB).map V.bl))) ⟨same_upd hB, upd_same⟩ (fun i H' _ hh => SqL.of (hh.1 _ _ e2)) ?_ ?_⟩
    · rintro i x H' hx ⟨s', e'⟩
      obtain ⟨y, hy, rfl⟩ := get_vs hx
      refine ⟨rfl, ?_⟩
      unfold tYes
      have ly := sh y (List.mem_cons_of_mem _ (List.mem_of_getElem? hy))
      refine iteT ⟨_, rfl, y, rfl, by omega, _, e', ?_, same_put s' hB, ?_⟩
      · rw [List.length_map, List.length_map, List.length_take]
        omega
      · rw [upd_same, take_snoc hy, List.map_append, List.map_append]
        rfl
    rintro H3 ⟨s3, e3⟩
    rw [List.length_map, List.take_length] at e3
    refine ⟨B, _, rfl, SqL.of e3, ?_⟩
    have ea : (wr.map digB).all id = wr.all digB := by rw [List.all_map]; rfl
    rw [ea]
    have s13 := (s1.trans s2).trans s3
    have e13 := s3 _ _ e12
    cases hall : wr.all digB with
    | false =>
      refine ⟨false, rfl, iteT ?_⟩
      have : hwD oh (w0 :: wr) = .none := by
        unfold hwD
        rw [show ((w0 :: wr).drop 1).all digB = false from hall, if_neg (by decide)]
      exact q _ _ s13 (by rw [this, rdH_none hsB_non]; rfl)
    | true =>
      refine ⟨true, rfl, iteF ?_⟩
      have dg : ∀ x ∈ wr, digB x = true := fun x hx => List.all_eq_true.mp hall x hx
      refine ⟨_, rfl, 1, rfl, W, _, rfl, SqL.of e13, fun S2 hS2 => ?_⟩
      rw [ec]
      have s4 := same_upd (o := .lst (wr.map V.str)) hS2
      have e4 : (upd H3 S2 (.lst (wr.map V.str))) S2 = some (.lst (wr.map V.str)) := upd_same
      have e14 := s4 _ _ e13
      generalize upd H3 S2 (.lst (wr.map V.str)) = H4 at *
      refine ⟨S2, rfl, ⟨_, SqL.of e4⟩, fun C hC => lc_list (K := K) (a := S2) (xs := wr.map V.str) (fun i H' => Same H4 H' ∧ H' C = some (.lst (vi ((wr.take i).map dv)))) ⟨same_upd hC, upd_same⟩ (fun i H' _ hh => SqL.of (hh.1 _ _ e4)) ?_ ?_⟩
      · rintro i x H' hx ⟨s', e'⟩
        obtain ⟨y, hy, rfl⟩ := get_vs hx
        refine ⟨rfl, ?_⟩
        unfold tYes
        have my := dg y (List.mem_of_getElem? hy)
        refine iteT ⟨_, rfl, y, _, rfl, int_dig my, by rw [dig_len my]; decide, _, e', ?_, same_put s' hC, ?_⟩
        · rw [List.length_map, List.length_map, List.length_take]
          omega
        · rw [upd_same, take_snoc hy, List.map_append, vi_app]
          rfl
      rintro H5 ⟨s5, e5⟩
      rw [List.length_map, List.take_length] at e5
      refine ⟨C, _, rfl, .inl ⟨SqL.of e5, fun N hN => ?_⟩⟩
      have s6 := same_upd (o := .tup (vi (wr.map dv))) hN
      have e6 : (upd H5 N (.tup (vi (wr.map dv)))) N = some (.tup (vi (wr.map dv))) := upd_same
      have s16 := (s13.trans s4).trans (s5.trans s6)
      have e16 := s6 _ _ (s5 _ _ e14)
      generalize upd H5 N (.tup (vi (wr.map dv))) = H6 at *
      have xN : Dx K [] H6 (.ref N) (.tuple ((nums (w0 :: wr)).map PyData.int)) := .tup (SqT.of e6) dxA_ints
      have gN := dvs_gd dg
      have hI6 := hI.same s16
      clear hI s1 s2 s3 s4 s5 s6 e1 e2 e3 e4 e5 e12 e13 e14 s13 hW hS hB hS2 hC hN
      cases oh with
      | none =>
        obtain rfl : hv = .non := hI6
        refine ⟨_, rfl, _, rfl, iteT ?_⟩
        refine ⟨_, rfl, W, _, _, _, rfl, rfl, SqL.of e16, atI0, rfl, ?_⟩
        by_cases hw : w0 = "rooms"
        · rw [show decide (V.str w0 = V.str (Str.ofString "rooms")) = true from decide_eq_true (by rw [hw])]
          refine ⟨_, rfl, iteT ?_⟩
          refine ⟨_, rfl, N, _, rfl, .inl (SqT.of e6), Nat.zero_le _, fun z hz => ⟨by rw [List.length_append, List.length_map, List.length_map]; show wr.length + 1 ≤ sizeLine; omega, fun R hR => ?_⟩⟩
          have s7 := (same_upd (o := .tup []) hz).trans (same_upd (o := .tup (vi (wr.map dv) ++ [.ref z])) hR)
          have ez : (upd (upd H6 z (.tup [])) R (.tup (vi (wr.map dv) ++ [.ref z]))) z = some (.tup []) := same_upd hR _ _ upd_same
          have eR : (upd (upd H6 z (.tup [])) R (.tup (vi (wr.map dv) ++ [.ref z]))) R = some (.tup (vi (wr.map dv) ++ [.ref z])) := upd_same
          generalize upd (upd H6 z (.tup [])) R (.tup (vi (wr.map dv) ++ [.ref z])) = H7 at *
          have ed : hwD none (w0 :: wr) = .tuple ((nums (w0 :: wr)).map PyData.int ++ [.tuple []]) := by
            unfold hwD
            rw [show ((w0 :: wr).drop 1).all digB = true from hall, if_pos rfl, hw]
            rfl
          have xR : Dx K [] H7 (.ref R) (.tuple ((nums (w0 :: wr)).map PyData.int ++ [.tuple []])) := .tup (SqT.of eR) (DxAll.app dxA_ints (.cons (.tup (SqT.of ez) .nil) .nil))
          have gR : Gd 0 2 (wr.length + 1) (.tuple ((nums (w0 :: wr)).map PyData.int ++ [.tuple []])) := (Gd.tup (GdA.app (GdA.cons (Gd.tup (GdA.nil (b := 0) (k := 0) (n := 0))) (GdA.nil (n := 0))) (gN.up (Nat.le_refl _) (Nat.zero_le 1) (Nat.le_refl _)))).up (Nat.le_refl _) (by omega) (by omega)
          refine ⟨_, rfl, .ref R, .tuple ((nums (w0 :: wr)).map PyData.int ++ [.tuple []]), _, _, _, rfl, xR, gR, by omega, fun H8 s8 => ⟨_, rfl, ?_⟩⟩
          have sZ := s16.trans s7
          cases e : hsB (.tuple ((nums (w0 :: wr)).map PyData.int ++ [.tuple []])) with
          | false => exact iteF (q _ _ (sZ.trans s8) (by rw [ed, rdH_none e]; rfl))
          | true =>
            obtain ⟨m, D', e2, m1, m8, f⟩ := hsB_iff.mp e
            have xx := xR
            rw [e2] at xx
            obtain ⟨hh, eh, hq⟩ := HouseQ.of_dx xx
            exact iteT ⟨_, rfl, q _ _ (sZ.trans s8) (by rw [ed, e2, rdH_some m1 m8 f]; exact ⟨hh, eh, hq.same s8, f, m1, m8⟩)⟩
        · rw [show decide (V.str w0 = V.str (Str.ofString "rooms")) = false from decide_eq_false fun y => hw (V.str.inj y)]
          refine ⟨_, rfl, iteF ?_⟩
          have ed : hwD none (w0 :: wr) = .none := by
            unfold hwD
            rw [show ((w0 :: wr).drop 1).all digB = true from hall, if_pos rfl]
            exact if_neg fun y => hw (Option.some.inj y)
          have gR : Gd 0 0 0 PyData.none := ⟨rfl, Nat.zero_le _, Nat.zero_le _⟩
          refine ⟨_, rfl, .non, .none, _, _, _, rfl, .non, gR, by omega, fun H8 s8 => ⟨_, rfl, ?_⟩⟩
          rw [hsB_non]
          exact iteF (q _ _ (s16.trans s8) (by rw [ed, rdH_none hsB_non]; rfl))
      | some x =>
        obtain ⟨n, D⟩ := x
        obtain ⟨h, rfl, hQ, hF, n1, n8⟩ := hI6
        refine ⟨_, rfl, _, rfl, iteF ?_⟩
        refine ⟨_, rfl, W, _, _, _, rfl, rfl, SqL.of e16, atI0, rfl, ?_⟩
        by_cases hw : w0 = "door"
        · rw [show decide (V.str w0 = V.str (Str.ofString "door")) = true from decide_eq_true (by rw [hw])]
          refine ⟨_, rfl, iteT ?_⟩
          obtain ⟨qd, ps, h1, h2, eD, h4⟩ := hQ
          have lD : D.length ≤ 8 := hF.len
          have lps : ps.length ≤ 8 := by
            have := congrArg List.length eD
            rw [List.length_map] at this
            dsimp only at this
            omega
          refine ⟨_, rfl, h, _, _, _, rfl, rfl, h1, atI0, _, rfl, h, _, _, _, rfl, rfl, h1, atI1, qd, _, rfl, .inl h2, _, rfl, by rw [List.length_append, List.length_map]; show ps.length + 1 ≤ sizeLine; omega, fun U hU => ⟨by show 2 ≤ sizeLine; omega, fun R hR => ?_⟩⟩
          have s7 := (same_upd (o := .tup ((ps.map fun p => V.ref p.1) ++ [.ref N])) hU).trans (same_upd (o := .tup [.int n, .ref U]) hR)
          have eU : (upd (upd H6 U (.tup ((ps.map fun p => V.ref p.1) ++ [.ref N]))) R (.tup [.int n, .ref U])) U = some (.tup ((ps.map fun p => V.ref p.1) ++ [.ref N])) := same_upd hR _ _ upd_same
          have eR : (upd (upd H6 U (.tup ((ps.map fun p => V.ref p.1) ++ [.ref N]))) R (.tup [.int n, .ref U])) R = some (.tup [.int n, .ref U]) := upd_same
          generalize upd (upd H6 U (.tup ((ps.map fun p => V.ref p.1) ++ [.ref N]))) R (.tup [.int n, .ref U]) = H7 at *
          have ed : hwD (some (n, D)) (w0 :: wr) = .tuple [.int n, .tuple (D.map drd ++ [.tuple ((nums (w0 :: wr)).map PyData.int)])] := by
            unfold hwD
            rw [show ((w0 :: wr).drop 1).all digB = true from hall, if_pos rfl, hw]
            rfl
          have xR : Dx K [] H7 (.ref R) (.tuple [.int n, .tuple (D.map drd ++ [.tuple ((nums (w0 :: wr)).map PyData.int)])]) := by
            refine .tup (SqT.of eR) (.cons (.int _) (.cons (.tup (SqT.of eU) (DxAll.app ?_ (.cons (dx_sm s7 xN) .nil))) .nil))
            rw [show D = ps.map (·.2) from eD]
            exact dxA_drds fun p hp => sqT_sm s7 (h4 p hp)
          have gR : Gd 0 3 (wr.length + 100) (.tuple [.int n, .tuple (D.map drd ++ [.tuple ((nums (w0 :: wr)).map PyData.int)])]) := by
            have g1 : GdA 0 1 (3 * D.length) (D.map drd) := drdz_gd fun x hx => by
              have := hF.ends (a := x.1) (b := x.2) hx
              dsimp only at n8
              omega
            have g2 := Gd.tup (GdA.app (GdA.cons (Gd.tup gN) (GdA.nil (n := 0))) g1)
            exact (Gd.tup (GdA.cons ((int_gdb (i := n) (by dsimp only at n1 n8; omega)).up (Nat.le_refl _) (Nat.zero_le 2) (Nat.le_refl _)) (GdA.cons g2 (GdA.nil (n := 0))))).up (Nat.le_refl _) (Nat.le_refl _) (by omega)
          refine ⟨_, rfl, .ref R, .tuple [.int n, .tuple (D.map drd ++ [.tuple ((nums (w0 :: wr)).map PyData.int)])], _, _, _, rfl, xR, gR, by omega, fun H8 s8 => ⟨_, rfl, ?_⟩⟩
          have sZ := s16.trans s7
          cases e : hsB (.tuple [.int n, .tuple (D.map drd ++ [.tuple ((nums (w0 :: wr)).map PyData.int)])]) with
          | false => exact iteF (q _ _ (sZ.trans s8) (by rw [ed, rdH_none e]; rfl))
          | true =>
            obtain ⟨m, D', e2, m1, m8, f⟩ := hsB_iff.mp e
            have xx := xR
            rw [e2] at xx
            obtain ⟨hh, eh, hq⟩ := HouseQ.of_dx xx
            exact iteT ⟨_, rfl, q _ _ (sZ.trans s8) (by rw [ed, e2, rdH_some m1 m8 f]; exact ⟨hh, eh, hq.same s8, f, m1, m8⟩)⟩
        · rw [show decide (V.str w0 = V.str (Str.ofString "door")) = false from decide_eq_false fun y => hw (V.str.inj y)]
          refine ⟨_, rfl, iteF ?_⟩
          have ed : hwD (some (n, D)) (w0 :: wr) = .none := by
            unfold hwD
            rw [show ((w0 :: wr).drop 1).all digB = true from hall, if_pos rfl]
            exact if_neg fun y => hw (Option.some.inj y)
          have gR : Gd 0 0 0 PyData.none := ⟨rfl, Nat.zero_le _, Nat.zero_le _⟩
          refine ⟨_, rfl, .non, .none, _, _, _, rfl, .non, gR, by omega, fun H8 s8 => ⟨_, rfl, ?_⟩⟩
          rw [hsB_non]
          exact iteF (q _ _ (s16.trans s8) (by rw [ed, rdH_none hsB_non]; rfl))
noncomputable def goH : Nat → Option (Int × List (Int × Int)) → List Str → Option (Int × List (Int × Int)) ⊕ Nat
  | _, oh, [] => .inl oh
  | i, oh, l :: ls => match hwl oh l with
    | none => .inr i
    | some x => goH (i + 1) (some x) ls
noncomputable def parH (t : Str) : Option (Int × List (Int × Int)) ⊕ Nat := match goH 0 none (lns t) with
  | .inr i => .inr i
  | .inl o => if Txt.endswith t "\n" = true then .inl o else .inr (lns t).length
theorem goH_at {i : Nat} {oh : Option (Int × List (Int × Int))} {ls : List Str} {l : Str} (h : ls[i]? = some l) : goH i oh (ls.drop i) = match hwl oh l with
    | none => .inr i
    | some x => goH (i + 1) (some x) (ls.drop (i + 1)) := by
  have lt := lt_of_get h
  rw [List.drop_eq_getElem_cons lt, goH]
  rw [List.getElem?_eq_getElem lt] at h
  rw [Option.some.inj h]
def spParH (K : PySem.W.Frag) (C : Addr) : Sp := fun vs H Q E => ∃ t : Str, vs = [.str t] ∧ t.length ≤ 1000 ∧ (∀ o, parH t = .inl o → ∀ H' v, Same H H' → IsH K H' v o → Q v H') ∧
  (∀ i : Nat, parH t = .inr i → ∀ dx H', Same H H' → H' dx = some (.xd [("position", .int i)]) → E (.ref C) (some dx) H')
theorem lns_short {t : Str} : ∀ l ∈ lns t, l.length ≤ t.length := fun l hl => by
  unfold lns at hl
  split at hl
  · exact PyProof.Rows.part_short ((List.dropLast_sublist _).subset hl)
  · exact PyProof.Rows.part_short hl
theorem lns_len (t : Str) : (lns t).length ≤ t.length + 2 := by
  have := PyProof.Rows.split_le t "\n"
  unfold lns
  split
  · rw [List.length_dropLast]
    omega
  · exact this
abbrev nParH : List Str := ["value", "lines", "house", "position", "line"]
theorem scParH : FnScope nParH ["value"] (defScope sParH) := ⟨rfl, rfl, rfl, by decide +kernel, rfl, by decide +kernel, by decide +kernel⟩
theorem ok_parh {f : Addr} {fd : FuncData} {k : Nat} {E0 C : Addr} (F : Fun K "parse_house" "parse_house" sParH f fd) (T : Nm mg) (Ten : mg "enumerate" = none) {tkL : Tok} (mLF : mg "LINE_FEED" = some (.str "\n" tkL)) (Csplit_lines : Cal P w K mg base (k + 4) "split_lines" ["value"] (spSplitLn K)) (Chouse_with_line : Cal P w K mg base (k + 4) "house_with_line" ["house", "line"] (spHwl K)) (RI : ErR P w K mg base "InvalidText" "position" E0 C) : FnOk P w K mg base (L2.CX P w) (k + 5) f fd ["value"] (spParH K C) := by
  refine F.okX scParH (fun vs H Q E h => ?_) (fun cdv A outer s H vs Q E hr h => ?_)
  · obtain ⟨t, rfl, _⟩ := h
    rfl
  · obtain ⟨t, rfl, lt, q, qE⟩ := h
    refine ⟨_, (pss_cons (ps_set (i := 1) scParH.nd rfl (.inl rfl) (pe_cal Csplit_lines hr (by rfl) (pa_cons (pv 0) pa_nil)))
      (pss_cons (ps_set (i := 2) scParH.nd rfl (.inl rfl) pe_non)
      (pss_cons (ps_for (passes_of rfl) rfl (pi_enum (by rfl) Ten (pa_cons (pv 1) pa_nil)) (pg_tup (by rfl) (pgs_cons (pg_name (i := 3) scParH.nd rfl (.inl rfl)) (pgs_cons (pg_name (i := 4) scParH.nd rfl (.inl rfl)) pgs_nil)))
      (pss_cons (ps_set (i := 2) scParH.nd rfl (.inl rfl) (pe_cal Chouse_with_line hr (by rfl) (pa_cons (pv 2) (pa_cons (pv 4) pa_nil))))
       (pss_one (ps_if (pt_cmp (pc_isN (pv 2)))
       (pss_one (ps_raise rfl (takes_of rfl rfl rfl rfl) (pmk_er RI hr (by rfl) (pv 3))))
       pss_nil))))
      (pss_cons (ps_if (pt_not (pt_val (pe_m1 PySem.F.slot_str_endswith PySem.F.type_str_endswith mt_endswith (pv 0) (pe_glob (v := .str "\n") (by rfl) mLF ⟨_, rfl⟩))))
      (pss_one (ps_raise rfl (takes_of rfl rfl rfl rfl) (pmk_er RI hr (by rfl) (pe_callB (call_lenK K rfl) (by rfl) T.len (by decide +kernel) (pa_cons (pv 1) pa_nil)))))
      pss_nil)
      (pss_one (ps_ret (pv 2))))))), ?_⟩
    have sz := sizeLine_eq
    refine ⟨_, rfl, t, rfl, by omega, fun H1 L s1 e1 => ?_⟩
    have ll := lns_len t
    refine ⟨_, rfl, L, _, rfl, SqL.of e1, for_it (walk_enum (K := K) (a := L) (xs := (lns t).map V.str)) (fun i σ' H' => ∃ (oh : Option (Int × List (Int × Int))) (hv : V) (y3 y4 : Option V), σ' = [some (.str t), some (.ref L), some hv, y3, y4] ∧ Same H1 H' ∧ IsH K H' hv oh ∧ goH 0 none (lns t) = goH i oh ((lns t).drop i))
      ⟨none, .non, _, _, rfl, Same.refl _, rfl, rfl⟩ (fun i σ' H' _ hh => ?_) ?_ ?_⟩
    · obtain ⟨_, _, _, _, _, s', _⟩ := hh
      exact SqL.of (s' _ _ e1)
    · rintro i _ σ' H' _ lt' ⟨oh, hv, y3, y4, rfl, s', hI, eg⟩ ⟨T1, x, y, rfl, ht1, rfl, ex, ey⟩
      cases ex
      obtain ⟨l, hl, rfl⟩ := get_vs ey
      rw [goH_at hl] at eg
      have s2 := s'.trans (same_upd (o := .tup [V.int (i : Nat), V.str l]) ht1)
      have hI2 := hI.same (same_upd (o := .tup [V.int (i : Nat), V.str l]) ht1)
      have eT : (upd H' T1 (.tup [V.int (i : Nat), V.str l])) T1 = some (.tup [V.int (i : Nat), V.str l]) := upd_same
      generalize upd H' T1 (.tup [V.int (i : Nat), V.str l]) = H2 at *
      refine ⟨T1, _, rfl, SqT.of eT, rfl, _, _, rfl, _, _, rfl, rfl, ?_⟩
      refine ⟨_, rfl, _, rfl, hv, l, oh, rfl, hI2, Nat.le_trans (lns_short l (List.mem_of_getElem? hl)) lt, fun H3 v s3 hI3 => ?_⟩
      have s13 := s2.trans s3
      cases hw : hwl oh l with
      | none =>
        rw [hw] at hI3 eg
        obtain rfl : v = .non := hI3
        have bad : parH t = .inr i := by
          unfold parH
          rw [eg]
        exact ⟨_, rfl, _, rfl, iteT ⟨_, rfl, raise_end fun dx H'' s4 e4 => qE i bad dx H'' (s1.trans (s13.trans s4)) e4⟩⟩
      | some x =>
        rw [hw] at hI3 eg
        obtain ⟨h3, rfl, rest⟩ := hI3
        exact ⟨_, rfl, _, rfl, iteF ⟨some x, _, _, _, rfl, s13, ⟨h3, rfl, rest⟩, eg⟩⟩
    · rintro σ' H' ⟨oh, hv, y3, y4, rfl, s', hI, eg⟩
      rw [List.length_map, List.drop_of_length_le (Nat.le_refl _)] at eg
      have eg : goH 0 none (lns t) = .inl oh := eg
      have ep : parH t = if Txt.endswith t "\n" = true then .inl oh else .inr (lns t).length := by
        unfold parH
        rw [eg]
      refine ⟨_, rfl, ⟨_, rfl⟩, t, "\n", rfl, rfl, _, rfl, ?_⟩
      cases he : Txt.endswith t "\n" with
      | false =>
        rw [he, if_neg (by decide)] at ep
        refine iteT ⟨_, rfl, L, _, rfl, .inl (SqL.of (s' _ _ e1)), raise_end fun dx H'' s4 e4 => qE _ ep dx H'' (s1.trans (s'.trans s4)) ?_⟩
        rw [List.length_map] at e4
        exact e4
      | true =>
        rw [he, if_pos rfl] at ep
        exact iteF ⟨_, rfl, q oh ep H' hv (s1.trans s') hI⟩
end
end Fw
set_option maxHeartbeats 2000000
namespace Fw
open TL
open PySem PySem.Spec PyProof.Rows L2
/-! a placement's text -/
noncomputable def stepP (n : Int) (x : List (Str × Int) × List (Str × Int)) (ws : List Str) : Option (List (Str × Int) × List (Str × Int)) := match ws with
  | [w0, w1, w2] => if (digB w1 && digB w2 && plB n (pld (x.1 ++ [(w0, dv w1)])) && plB n (pld (x.2 ++ [(w0, dv w2)]))) = true then some (x.1 ++ [(w0, dv w1)], x.2 ++ [(w0, dv w2)]) else none
  | _ => none
noncomputable def goP (n : Int) : Nat → List (Str × Int) × List (Str × Int) → List Str → List (Str × Int) × List (Str × Int) ⊕ Nat
  | _, x, [] => .inl x
  | i, x, l :: ls => match stepP n x (Txt.split l " ") with
    | none => .inr i
    | some y => goP n (i + 1) y ls
noncomputable def parP (n : Int) (t : Str) : List (Str × Int) × List (Str × Int) ⊕ Nat := match goP n 0 ([], []) (lns t) with
  | .inr i => .inr i
  | .inl x => if ((!(lns t).isEmpty) && !(Txt.endswith t "\n")) = true then .inr (lns t).length else .inl x
theorem goP_at {n : Int} {i : Nat} {x : List (Str × Int) × List (Str × Int)} {ls : List Str} {l : Str} (h : ls[i]? = some l) : goP n i x (ls.drop i) = match stepP n x (Txt.split l " ") with
    | none => .inr i
    | some y => goP n (i + 1) y (ls.drop (i + 1)) := by
  have lt := lt_of_get h
  rw [List.drop_eq_getElem_cons lt, goP]
  rw [List.getElem?_eq_getElem lt] at h
  rw [Option.some.inj h]
theorem stepP_len {n : Int} {x y : List (Str × Int) × List (Str × Int)} {ws : List Str} (h : stepP n x ws = some y) : y.1.length ≤ 12 ∧ y.2.length ≤ 12 := by
  unfold stepP at h
  split at h
  · split at h
    · rename_i c
      rw [Bool.and_eq_true, Bool.and_eq_true] at c
      obtain rfl := Option.some.inj h
      obtain ⟨A, e1, l1, _⟩ := plB_iff.mp c.1.2
      obtain ⟨B, e2, l2, _⟩ := plB_iff.mp c.2
      have p1 : (pld A) = pld _ := e1.symm
      have f1 := congrArg List.length (PyData.tuple.inj e1)
      have f2 := congrArg List.length (PyData.tuple.inj e2)
      rw [List.length_map, List.length_map] at f1 f2
      exact ⟨by rw [f1]; exact l1, by rw [f2]; exact l2⟩
    · cases h
  · cases h
theorem mem_joinL {S : List Nat} {c : Nat} : ∀ {ps : List (List Nat)} {p : List Nat}, p ∈ ps → c ∈ p → c ∈ joinL S ps
  | [p], q, h, hc => by
    rw [List.mem_singleton.mp h] at hc
    exact hc
  | p :: q :: r, z, h, hc => by
    show c ∈ p ++ (S ++ joinL S (q :: r))
    rcases List.mem_cons.mp h with rfl | m
    · exact List.mem_append.mpr (.inl hc)
    · exact List.mem_append.mpr (.inr (List.mem_append.mpr (.inr (mem_joinL m hc))))
theorem mem_split {x y p : Str} {c : Nat} (h : p ∈ Txt.split x y) (hc : c ∈ tl p) : c ∈ tl x := by
  have e := congrArg tl (PySem.StrLaws.join_split x y)
  rw [tl_join] at e
  rw [← e]
  exact mem_joinL (List.mem_map_of_mem h) hc
theorem mem_lns {t l : Str} {c : Nat} (h : l ∈ lns t) (hc : c ∈ tl l) : c ∈ tl t := by
  unfold lns at h
  split at h
  · exact mem_split ((List.dropLast_sublist _).subset h) hc
  · exact mem_split h hc
def Okt (t : Str) : Prop := ∀ c ∈ tl t, c < 1114112
theorem Okt.i {t : Str} (h : Okt t) : okI 0 (.str t) = true := by
  show (t.cps.toList.all fun c => decide (c < 1114112)) = true
  rw [List.all_eq_true]
  exact fun c hc => decide_eq_true (h c hc)
def Wds (P : List (Str × Int)) : Prop := ∀ x ∈ P, Okt x.1 ∧ x.1.length ≤ 1000 ∧ x.2.natAbs ≤ 1000
theorem wds_gd : ∀ {P : List (Str × Int)}, Wds P → GdA 0 1 (1010 * P.length) (P.map pp)
  | [], _ => GdA.nil.up (Nat.le_refl _) (Nat.zero_le _) (Nat.zero_le _)
  | x :: P, h => by
    obtain ⟨h1, h2, h3⟩ := h x List.mem_cons_self
    have a : Gd 0 0 x.1.length (.str x.1) := ⟨h1.i, Nat.zero_le _, Nat.le_refl _⟩
    have b := int_gdb (i := x.2) h3
    have c : Gd 0 1 _ (pp x) := Gd.tup (GdA.cons a (GdA.cons b (GdA.nil (n := 0))))
    exact (GdA.cons c (wds_gd fun y hy => h y (List.mem_cons_of_mem _ hy))).up (Nat.le_refl _) (Nat.le_refl _) (by rw [List.length_cons]; omega)
theorem dxA_ppz {K : PySem.W.Frag} {av : List Addr} {H : Hp} : ∀ {ps : List (Addr × Str × Int)}, (∀ p ∈ ps, H p.1 = some (.tup [.str p.2.1, .int p.2.2])) → DxAll K av H (ps.map fun p => V.ref p.1) ((ps.map (·.2)).map pp)
  | [], _ => .nil
  | p :: ps, h => .cons (.tup (SqT.of (h p (List.mem_cons_self ..))) (.cons (.str _) (.cons (.int _) .nil))) (dxA_ppz fun q hq => h q (List.mem_cons_of_mem _ hq))
theorem PlAt.dxz {K : PySem.W.Frag} {av : List Addr} {H : Hp} {p : Addr} {P : List (Str × Int)} (x : PlAt H p P) : Dx K av H (.ref p) (pld P) := by
  obtain ⟨ps, h1, h2, h3⟩ := x
  rw [h2]
  exact .tup h1.sq (dxA_ppz h3)
section
variable {P : Program} {w : World} {K : PySem.W.Frag} {mg : Str → Option Value} {base : Heap}
def spParP (C : Addr) : Sp := fun vs H Q E => ∃ (h : Addr) (n : Int) (D : List (Int × Int)) (t : Str), vs = [.ref h, .str t] ∧ HouseAt H h n D ∧ t.length ≤ 1000 ∧ Okt t ∧
  (∀ x, parP n t = .inl x → ∀ H' u p g, Same H H' → H' u = some (.tup [.ref p, .ref g]) → PlAt H' p x.1 → PlAt H' g x.2 → Q (.ref u) H') ∧
  (∀ i : Nat, parP n t = .inr i → ∀ dx H', Same H H' → H' dx = some (.xd [("position", .int i)]) → E (.ref C) (some dx) H')
abbrev nParP : List Str := ["house", "value", "lines", "placement", "target", "position", "line", "words"]
theorem scParP : FnScope nParP ["house", "value"] (defScope sParP) := ⟨rfl, rfl, rfl, by decide +kernel, rfl, by decide +kernel, by decide +kernel⟩
theorem ok_parp {f : Addr} {fd : FuncData} {k : Nat} {E0 C : Addr} (F : Fun K "parse_placement" "parse_placement" sParP f fd) (T : Nm mg) (Ten : mg "enumerate" = none) {tkL : Tok} (mLF : mg "LINE_FEED" = some (.str "\n" tkL)) (Csplit_lines : Cal P w K mg base (k + 4) "split_lines" ["value"] (spSplitLn K)) (Cis_digit : Cal P w K mg base (k + 4) "is_digit" ["word"] spDig) (Cis_placement : Cal P w K mg base (k + 4) "is_placement" pIsRoom (spIsPlA K)) (RI : ErR P w K mg base "InvalidText" "position" E0 C) : FnOk P w K mg base (L2.CX P w) (k + 5) f fd ["house", "value"] (spParP C) := by
  refine F.okX scParP (fun vs H Q E h => ?_) (fun cdv A outer s H vs Q E hr h => ?_)
  · obtain ⟨h, n, D, t, rfl, _⟩ := h
    rfl
  · obtain ⟨h, n, D, t, rfl, hH, lt, ok, q, qE⟩ := h
    refine ⟨_, (pss_cons (ps_set (i := 2) scParP.nd rfl (.inl rfl) (pe_cal Csplit_lines hr (by rfl) (pa_cons (pv 1) pa_nil)))
      (pss_cons (ps_asg (pe_tup (pa_cons (pe_tup pa_nil) (pa_cons (pe_tup pa_nil) pa_nil))) (pg_tup (by rfl) (pgs_cons (pg_name (i := 3) scParP.nd rfl (.inl rfl)) (pgs_cons (pg_name (i := 4) scParP.nd rfl (.inl rfl)) pgs_nil))))
      (pss_cons (ps_for (passes_of rfl) rfl (pi_enum (by rfl) Ten (pa_cons (pv 2) pa_nil)) (pg_tup (by rfl) (pgs_cons (pg_name (i := 5) scParP.nd rfl (.inl rfl)) (pgs_cons (pg_name (i := 6) scParP.nd rfl (.inl rfl)) pgs_nil)))
      (pss_cons (ps_set (i := 7) scParP.nd rfl (.inl rfl) (pe_split (pv 6) pe_str))
       (pss_cons (ps_if (PW.pt (pw_or (pt_cmpR op_ne (pe_callB (call_lenK K rfl) (by rfl) T.len (by decide +kernel) (pa_cons (pv 7) pa_nil)) pe_int (nomark _)) (pw_or (pt_not (pt_val (pe_cal Cis_digit hr (by rfl) (pa_cons (pe_ix (ix_listK K rfl) (pv 7) pe_int (fun _ _ => rfl)) pa_nil)))) (pw_or1 (pt_not (pt_val (pe_cal Cis_digit hr (by rfl) (pa_cons (pe_ix (ix_listK K rfl) (pv 7) pe_int (fun _ _ => rfl)) pa_nil))))))))
       (pss_one (ps_raise rfl (takes_of rfl rfl rfl rfl) (pmk_er RI hr (by rfl) (pv 5))))
       pss_nil)
       (pss_cons (ps_set (i := 3) scParP.nd rfl (.inl rfl) (pe_tup (StX.pa_star (pv 3) (pa_cons (pe_tup (pa_cons (pe_ix (ix_listK K rfl) (pv 7) pe_int (fun _ _ => rfl)) (pa_cons (pe_callTy call_int_str (by rfl) T.int (by decide +kernel) (pa_cons (pe_ix (ix_listK K rfl) (pv 7) pe_int (fun _ _ => rfl)) pa_nil)) pa_nil))) pa_nil))))
       (pss_cons (ps_set (i := 4) scParP.nd rfl (.inl rfl) (pe_tup (StX.pa_star (pv 4) (pa_cons (pe_tup (pa_cons (pe_ix (ix_listK K rfl) (pv 7) pe_int (fun _ _ => rfl)) (pa_cons (pe_callTy call_int_str (by rfl) T.int (by decide +kernel) (pa_cons (pe_ix (ix_listK K rfl) (pv 7) pe_int (fun _ _ => rfl)) pa_nil)) pa_nil))) pa_nil))))
       (pss_one (ps_if (PW.pt (pw_or (pt_not (pt_val (pe_cal Cis_placement hr (by rfl) (pa_cons (pv 0) (pa_cons (pv 3) pa_nil))))) (pw_or1 (pt_not (pt_val (pe_cal Cis_placement hr (by rfl) (pa_cons (pv 0) (pa_cons (pv 4) pa_nil))))))))
       (pss_one (ps_raise rfl (takes_of rfl rfl rfl rfl) (pmk_er RI hr (by rfl) (pv 5))))
       pss_nil)))))))
      (pss_cons (ps_if (PW.pt (pw_and (pt_truthK K rfl (pv 2) (by intro _; rfl)) (pw_and1 (pt_not (pt_val (pe_m1 PySem.F.slot_str_endswith PySem.F.type_str_endswith mt_endswith (pv 1) (pe_glob (v := .str "\n") (by rfl) mLF ⟨_, rfl⟩)))))))
      (pss_one (ps_raise rfl (takes_of rfl rfl rfl rfl) (pmk_er RI hr (by rfl) (pe_callB (call_lenK K rfl) (by rfl) T.len (by decide +kernel) (pa_cons (pv 2) pa_nil)))))
      pss_nil)
      (pss_one (ps_ret (pe_tup (pa_cons (pv 3) (pa_cons (pv 4) pa_nil))))))))), ?_⟩
    have sz := sizeLine_eq
    refine ⟨_, rfl, t, rfl, by omega, fun H1 L s1 e1 => ?_⟩
    have ll := lns_len t
    have hH1 := hH.same s1
    refine ⟨Nat.zero_le _, fun u0 hu0 => ⟨Nat.zero_le _, fun u1 hu1 => ⟨by show 2 ≤ sizeLine; omega, fun uu huu => ?_⟩⟩⟩
    have s2 := ((same_upd (o := .tup []) hu0).trans (same_upd (o := .tup []) hu1)).trans (same_upd (o := .tup [.ref u0, .ref u1]) huu)
    have a0 : (upd (upd (upd H1 u0 (.tup [])) u1 (.tup [])) uu (.tup [.ref u0, .ref u1])) u0 = some (.tup []) := same_upd huu _ _ (same_upd hu1 _ _ upd_same)
    have a1 : (upd (upd (upd H1 u0 (.tup [])) u1 (.tup [])) uu (.tup [.ref u0, .ref u1])) u1 = some (.tup []) := same_upd huu _ _ upd_same
    have au : (upd (upd (upd H1 u0 (.tup [])) u1 (.tup [])) uu (.tup [.ref u0, .ref u1])) uu = some (.tup [.ref u0, .ref u1]) := upd_same
    generalize upd (upd (upd H1 u0 (.tup [])) u1 (.tup [])) uu (.tup [.ref u0, .ref u1]) = H2 at *
    refine ⟨uu, _, rfl, SqT.of au, rfl, _, _, rfl, _, _, rfl, rfl, ?_⟩
    have e2 := s2 _ _ e1
    have hH2 := hH1.same s2
    have s12 := s1.trans s2
    clear s1 s2 e1 hH1 hu0 hu1 huu hH
    refine ⟨_, rfl, L, _, rfl, SqL.of e2, for_it (walk_enum (K := K) (a := L) (xs := (lns t).map V.str)) (fun i σ' H' => ∃ (p g : Addr) (x : List (Str × Int) × List (Str × Int)) (y5 y6 y7 : Option V), σ' = [some (.ref h), some (.str t), some (.ref L), some (.ref p), some (.ref g), y5, y6, y7] ∧ Same H2 H' ∧ PlAt H' p x.1 ∧ PlAt H' g x.2 ∧ x.1.length ≤ 12 ∧ x.2.length ≤ 12 ∧ Wds x.1 ∧ Wds x.2 ∧ goP n 0 ([], []) (lns t) = goP n i x ((lns t).drop i))
      ⟨u0, u1, ([], []), _, _, _, rfl, Same.refl _, ⟨[], .inl a0, rfl, fun q hq => (by cases hq)⟩, ⟨[], .inl a1, rfl, fun q hq => (by cases hq)⟩, Nat.zero_le _, Nat.zero_le _, fun x hx => (by cases hx), fun x hx => (by cases hx), rfl⟩ (fun i σ' H' _ hh => ?_) ?_ ?_⟩
    · obtain ⟨_, _, _, _, _, _, _, s', _⟩ := hh
      exact SqL.of (s' _ _ e2)
    · rintro i _ σ' H' _ lt' ⟨p, g, x, y5, y6, y7, rfl, s', hp, hg, l1, l2, wd1, wd2, eg⟩ ⟨T1, _, y, rfl, ht1, rfl, ex, ey⟩
      cases ex
      obtain ⟨l, hl, rfl⟩ := get_vs ey
      rw [goP_at hl] at eg
      have ml := List.mem_of_getElem? hl
      have s2 := s'.trans (same_upd (o := .tup [V.int (i : Nat), V.str l]) ht1)
      have hp2 := hp.same (same_upd (o := .tup [V.int (i : Nat), V.str l]) ht1)
      have hg2 := hg.same (same_upd (o := .tup [V.int (i : Nat), V.str l]) ht1)
      have eT : (upd H' T1 (.tup [V.int (i : Nat), V.str l])) T1 = some (.tup [V.int (i : Nat), V.str l]) := upd_same
      generalize upd H' T1 (.tup [V.int (i : Nat), V.str l]) = H3 at *
      refine ⟨T1, _, rfl, SqT.of eT, rfl, _, _, rfl, _, _, rfl, rfl, ?_⟩
      have lsl := lns_short l ml
      refine ⟨_, rfl, ⟨_, rfl⟩, l, " ", rfl, rfl, by decide +kernel, by omega, fun W hW => ?_⟩
      have okw : ∀ z ∈ Txt.split l " ", Okt z ∧ z.length ≤ 1000 := fun z hz => ⟨fun c hc => ok c (mem_lns ml (mem_split hz hc)), by have := PyProof.Rows.part_short hz; omega⟩
      have bad : ∀ J : Hp, Same H3 J → stepP n x (Txt.split l " ") = none → ∀ dx H'', Same J H'' → H'' dx = some (.xd [("position", .int (i : Nat))]) → E (.ref C) (some dx) H'' := fun J sJ no dx H'' s4 e4 => by
        rw [no] at eg
        exact qE i (by unfold parP; rw [eg]) dx H'' (s12.trans (s2.trans (sJ.trans s4))) e4
      generalize Txt.split l " " = ws at *
      have sW := same_upd (o := .lst (ws.map V.str)) hW
      have eW : (upd H3 W (.lst (ws.map V.str))) W = some (.lst (ws.map V.str)) := upd_same
      generalize upd H3 W (.lst (ws.map V.str)) = H4 at *
      refine ⟨_, rfl, W, _, rfl, .inl (SqL.of eW), rfl, _, rfl, ?_⟩
      by_cases l3 : ws.length = 3
      rotate_left
      · rw [show (!decide (V.int (((ws.map V.str).length : Nat) : Int) = V.int 3)) = true by
          rw [List.length_map, decide_eq_false]
          · rfl
          · intro z
            have := V.int.inj z
            omega]
        refine iteT (iteT ⟨_, rfl, raise_end fun dx H'' s4 e4 => bad _ sW ?_ dx H'' s4 e4⟩)
        unfold stepP
        split
        · exact absurd rfl l3
        · rfl
      obtain ⟨w0, w1, w2, rfl⟩ : ∃ a b c, ws = [a, b, c] := by
        match ws, l3 with
        | [a, b, c], _ => exact ⟨a, b, c, rfl⟩
      have hs : stepP n x [w0, w1, w2] = if (digB w1 && digB w2 && plB n (pld (x.1 ++ [(w0, dv w1)])) && plB n (pld (x.2 ++ [(w0, dv w2)]))) = true then some (x.1 ++ [(w0, dv w1)], x.2 ++ [(w0, dv w2)]) else none := rfl
      have k0 := okw w0 (by simp)
      have k1 := okw w1 (by simp)
      have k2 := okw w2 (by simp)
      refine iteF ?_
      refine ⟨_, rfl, W, _, _, _, rfl, rfl, SqL.of eW, atI1, w1, rfl, by omega, _, rfl, ?_⟩
      cases d1 : digB w1 with
      | false => exact iteT (iteT ⟨_, rfl, raise_end fun dx H'' s4 e4 => bad _ sW (by rw [hs, d1]; rfl) dx H'' s4 e4⟩)
      | true =>
      refine iteF ?_
      refine ⟨_, rfl, W, _, _, _, rfl, rfl, SqL.of eW, atI2, w2, rfl, by omega, _, rfl, ?_⟩
      cases d2 : digB w2 with
      | false => exact iteT ⟨_, rfl, raise_end fun dx H'' s4 e4 => bad _ sW (by rw [hs, d1, d2]; rfl) dx H'' s4 e4⟩
      | true =>
      refine iteF ?_
      rw [d1, d2] at hs
      have v1 := (dig_ns d1).2
      have v2 := (dig_ns d2).2
      obtain ⟨ps, tp, ep, hps⟩ := hp2.same sW
      obtain ⟨gs, tg, eq', hgs⟩ := hg2.same sW
      have lps : ps.length ≤ 12 := by
        rw [ep, List.length_map] at l1
        exact l1
      have lgs : gs.length ≤ 12 := by
        rw [eq', List.length_map] at l2
        exact l2
      refine ⟨_, rfl, p, _, rfl, .inl tp.sq, _, rfl, W, _, _, _, rfl, rfl, SqL.of eW, atI0, _, rfl, W, _, _, _, rfl, rfl, SqL.of eW, atI1, w1, _, rfl, int_dig d1, by rw [dig_len d1]; decide, by show 2 ≤ sizeLine; omega, fun t1 ht1 => ⟨by rw [List.length_append, List.length_map]; show ps.length + 1 ≤ sizeLine; omega, fun p2 hp2' => ?_⟩⟩
      have s5 := (same_upd (o := .tup [.str w0, .int (dv w1)]) ht1).trans (same_upd (o := .tup ((ps.map fun q => V.ref q.1) ++ [.ref t1])) hp2')
      have et1 : (upd (upd H4 t1 (.tup [.str w0, .int (dv w1)])) p2 (.tup ((ps.map fun q => V.ref q.1) ++ [.ref t1]))) t1 = some (.tup [.str w0, .int (dv w1)]) := same_upd hp2' _ _ upd_same
      have ep2 : (upd (upd H4 t1 (.tup [.str w0, .int (dv w1)])) p2 (.tup ((ps.map fun q => V.ref q.1) ++ [.ref t1]))) p2 = some (.tup ((ps.map fun q => V.ref q.1) ++ [.ref t1])) := upd_same
      generalize upd (upd H4 t1 (.tup [.str w0, .int (dv w1)])) p2 (.tup ((ps.map fun q => V.ref q.1) ++ [.ref t1])) = H5 at *
      have hP5 : PlAt H5 p2 (x.1 ++ [(w0, dv w1)]) := ⟨ps ++ [(t1, w0, dv w1)], .inl (by rw [List.map_append]; exact ep2), by rw [ep, List.map_append]; rfl, fun q hq => by
        rcases List.mem_append.mp hq with m | m
        · exact s5 _ _ (hps q m)
        · rw [List.mem_singleton.mp m]
          exact et1⟩
      have eW5 := s5 _ _ eW
      have tg5 : SqT K H5 g (gs.map fun q => V.ref q.1) := sqT_sm s5 tg.sq
      refine ⟨_, rfl, g, _, rfl, .inl tg5, _, rfl, W, _, _, _, rfl, rfl, SqL.of eW5, atI0, _, rfl, W, _, _, _, rfl, rfl, SqL.of eW5, atI2, w2, _, rfl, int_dig d2, by rw [dig_len d2]; decide, by show 2 ≤ sizeLine; omega, fun t2 ht2 => ⟨by rw [List.length_append, List.length_map]; show gs.length + 1 ≤ sizeLine; omega, fun g2 hg2' => ?_⟩⟩
      have s6 := (same_upd (o := .tup [.str w0, .int (dv w2)]) ht2).trans (same_upd (o := .tup ((gs.map fun q => V.ref q.1) ++ [.ref t2])) hg2')
      have et2 : (upd (upd H5 t2 (.tup [.str w0, .int (dv w2)])) g2 (.tup ((gs.map fun q => V.ref q.1) ++ [.ref t2]))) t2 = some (.tup [.str w0, .int (dv w2)]) := same_upd hg2' _ _ upd_same
      have eg2 : (upd (upd H5 t2 (.tup [.str w0, .int (dv w2)])) g2 (.tup ((gs.map fun q => V.ref q.1) ++ [.ref t2]))) g2 = some (.tup ((gs.map fun q => V.ref q.1) ++ [.ref t2])) := upd_same
      generalize upd (upd H5 t2 (.tup [.str w0, .int (dv w2)])) g2 (.tup ((gs.map fun q => V.ref q.1) ++ [.ref t2])) = H6 at *
      have hG6 : PlAt H6 g2 (x.2 ++ [(w0, dv w2)]) := ⟨gs ++ [(t2, w0, dv w2)], .inl (by rw [List.map_append]; exact eg2), by rw [eq', List.map_append]; rfl, fun q hq => by
        rcases List.mem_append.mp hq with m | m
        · exact (s5.trans s6) _ _ (hgs q m)
        · rw [List.mem_singleton.mp m]
          exact et2⟩
      have hP6 := hP5.same s6
      have s36 := sW.trans (s5.trans s6)
      have hH6 := hH2.same (s2.trans s36)
      have wd3 : Wds (x.1 ++ [(w0, dv w1)]) := fun y hy => by
        rcases List.mem_append.mp hy with m | m
        · exact wd1 y m
        · rw [List.mem_singleton.mp m]
          exact ⟨k0.1, k0.2, by show (dv w1).natAbs ≤ 1000; omega⟩
      have wd4 : Wds (x.2 ++ [(w0, dv w2)]) := fun y hy => by
        rcases List.mem_append.mp hy with m | m
        · exact wd2 y m
        · rw [List.mem_singleton.mp m]
          exact ⟨k0.1, k0.2, by show (dv w2).natAbs ≤ 1000; omega⟩
      refine ⟨_, rfl, _, rfl, h, n, D, .ref p2, _, _, _, _, rfl, hH6, hP6.dxz, Gd.tup (wds_gd wd3), by rw [List.length_append]; show 1010 * (x.1.length + 1) ≤ 100000; omega, fun H7 s7 => ⟨_, rfl, ?_⟩⟩
      cases c1 : plB n (pld (x.1 ++ [(w0, dv w1)])) with
      | false => exact iteT (iteT ⟨_, rfl, raise_end fun dx H'' s4 e4 => bad _ (s36.trans s7) (by rw [hs, c1]; rfl) dx H'' s4 e4⟩)
      | true =>
      refine iteF ?_
      refine ⟨_, rfl, _, rfl, h, n, D, .ref g2, _, _, _, _, rfl, hH6.same s7, (hG6.same s7).dxz, Gd.tup (wds_gd wd4), by rw [List.length_append]; show 1010 * (x.2.length + 1) ≤ 100000; omega, fun H8 s8 => ⟨_, rfl, ?_⟩⟩
      cases c2 : plB n (pld (x.2 ++ [(w0, dv w2)])) with
      | false => exact iteT ⟨_, rfl, raise_end fun dx H'' s4 e4 => bad _ (s36.trans (s7.trans s8)) (by rw [hs, c1, c2]; rfl) dx H'' s4 e4⟩
      | true =>
      rw [c1, c2, if_pos (by rfl)] at hs
      rw [hs] at eg
      have ln := stepP_len hs
      exact iteF ⟨p2, g2, _, _, _, _, rfl, s2.trans (s36.trans (s7.trans s8)), hP6.same (s7.trans s8), hG6.same (s7.trans s8), ln.1, ln.2, wd3, wd4, eg⟩
    · rintro σ' H' ⟨p, g, x, y5, y6, y7, rfl, s', hp, hg, l1, l2, wd1, wd2, eg⟩
      rw [List.length_map, List.drop_of_length_le (Nat.le_refl _)] at eg
      have eg : goP n 0 ([], []) (lns t) = .inl x := eg
      have ep : parP n t = if ((!(lns t).isEmpty) && !(Txt.endswith t "\n")) = true then .inr (lns t).length else .inl x := by
        unfold parP
        rw [eg]
      have eL := s' _ _ e2
      refine ⟨_, rfl, _, .inl ⟨_, SqL.of eL, rfl⟩, ?_⟩
      rw [show ((lns t).map V.str).isEmpty = (lns t).isEmpty by cases lns t <;> rfl]
      cases ce : (lns t).isEmpty with
      | true =>
        rw [ce] at ep
        refine iteF (iteF ⟨_, rfl, _, rfl, by show 2 ≤ sizeLine; omega, fun u hu => ?_⟩)
        have su := same_upd (o := .tup [.ref p, .ref g]) hu
        exact q x ep _ u p g (s12.trans (s'.trans su)) upd_same (hp.same su) (hg.same su)
      | false =>
        rw [ce] at ep
        refine iteT ⟨_, rfl, ⟨_, rfl⟩, t, "\n", rfl, rfl, _, rfl, ?_⟩
        cases he : Txt.endswith t "\n" with
        | false =>
          rw [he] at ep
          refine iteT ⟨_, rfl, L, _, rfl, .inl (SqL.of eL), raise_end fun dx H'' s4 e4 => qE _ ep dx H'' (s12.trans (s'.trans s4)) ?_⟩
          rw [List.length_map] at e4
          exact e4
        | true =>
          rw [he] at ep
          refine iteF ⟨_, rfl, _, rfl, by show 2 ≤ sizeLine; omega, fun u hu => ?_⟩
          have su := same_upd (o := .tup [.ref p, .ref g]) hu
          exact q x ep _ u p g (s12.trans (s'.trans su)) upd_same (hp.same su) (hg.same su)
end
end Fw
set_option maxHeartbeats 1000000
namespace Fw
open TL
open PySem PySem.Spec PyProof.Rows L2
/-! texts read and written again -/
theorem joinL_last : ∀ (a : List (List Nat)) (b : List Nat), joinL [10] (a ++ [b]) = (a.map fun l => l ++ [10]).flatten ++ b
  | [], b => rfl
  | l :: a, b => by
    have : joinL [10] (l :: (a ++ [b])) = l ++ ([10] ++ joinL [10] (a ++ [b])) := by
      cases a <;> rfl
    show joinL [10] (l :: (a ++ [b])) = _
    rw [this, joinL_last a b, List.map_cons, List.flatten_cons, List.append_assoc, List.append_assoc]
theorem tl_parts {t : Str} {a : List Str} {b : Str} (e : Txt.split t "\n" = a ++ [b]) : tl t = tl (txt a) ++ tl b := by
  have j := congrArg tl (PySem.StrLaws.join_split t "\n")
  rw [e, tl_join, tl_nl, List.map_append] at j
  rw [← j]
  show joinL [10] (a.map tl ++ [tl b]) = _
  rw [joinL_last, tl_txt, List.map_map]
  rfl
theorem parts_free {t p : Str} (h : p ∈ Txt.split t "\n") : 10 ∉ tl p := by
  have e : ("\n" : Str) = ⟨#[10]⟩ := by decide +kernel
  rw [e] at h
  exact PySem.StrLaws.split_free t 10 p h
theorem ends_tl {t : Str} (h : Txt.endswith t "\n" = true) : ∃ u, tl t = u ++ [10] := by
  unfold Txt.endswith at h
  rw [Bool.and_eq_true, PySem.StrLaws.subAt_eq] at h
  have l1 : ("\n" : Str).length = 1 := by decide +kernel
  have h1 := of_decide_eq_true h.1
  rw [l1] at h1
  have h2 := eq_of_beq h.2
  rw [l1, show (Str.ofString "\n").cps.toList = [10] from tl_nl] at h2
  refine ⟨(tl t).take (t.length - 1), ?_⟩
  have e := List.take_append_drop (t.length - 1) (tl t)
  have l : ((tl t).drop (t.length - 1)).length ≤ 1 := by
    rw [List.length_drop, ← tl_len]
    omega
  rw [List.take_of_length_le l] at h2
  rw [← h2, e]
theorem lns_of {t : Str} : ∃ a b, Txt.split t "\n" = a ++ [b] ∧ lns t = if tl b = [] then a else a ++ [b] := by
  have np := PyProof.Rows.split_pos t "\n"
  rcases List.eq_nil_or_concat (Txt.split t "\n") with e | ⟨a, b, e⟩
  · rw [e] at np
    exact absurd np (by decide)
  · rw [List.concat_eq_append] at e
    refine ⟨a, b, e, ?_⟩
    unfold lns
    rw [e, List.dropLast_concat]
    simp
theorem txt_lns {t : Str} (h : Txt.endswith t "\n" = true) : t = txt (lns t) := by
  obtain ⟨a, b, e, el⟩ := lns_of (t := t)
  have et := tl_parts e
  obtain ⟨u, hu⟩ := ends_tl h
  have fb := parts_free (t := t) (p := b) (by rw [e]; simp)
  have nb : tl b = [] := by
    rcases List.eq_nil_or_concat (tl b) with z | ⟨c, d, z⟩
    · exact z
    · rw [z, List.concat_eq_append, ← List.append_assoc, hu] at et
      have := (List.append_inj' et rfl).2
      have d10 : d = 10 := (List.cons.inj this).1.symm
      rw [z, List.concat_eq_append, d10] at fb
      exact absurd (by simp) fb
  rw [if_pos nb] at el
  refine txt_ext ?_
  rw [et, nb, List.append_nil, el]
theorem lns_nil {t : Str} (h : lns t = []) : t = "" := by
  obtain ⟨a, b, e, el⟩ := lns_of (t := t)
  have et := tl_parts e
  rw [h] at el
  split at el
  · rename_i nb
    refine txt_ext ?_
    rw [et, nb, ← el, List.append_nil, tl_txt, tl_em]
    rfl
  · cases a <;> cases el
theorem words_of (l : Str) : l = jw (Txt.split l " ") := by
  unfold jw
  rw [join_eq, PySem.StrLaws.join_split]
theorem ints_inj : ∀ {xs ys : List Int}, xs.map PyData.int = ys.map PyData.int → xs = ys
  | [], [], _ => rfl
  | [], _ :: _, h => by cases h
  | _ :: _, [], h => by cases h
  | x :: xs, y :: ys, h => by
    rw [List.map_cons, List.map_cons] at h
    obtain ⟨e1, e2⟩ := List.cons.inj h
    rw [PyData.int.inj e1, ints_inj e2]
theorem rdH_inv {d : PyData} {n : Int} {D : List (Int × Int)} (h : rdH d = some (n, D)) : d = hsd n D ∧ 1 ≤ n ∧ n ≤ 8 ∧ Forest n D := by
  unfold rdH at h
  split at h
  · rename_i c
    have s := c.choose_spec
    rw [Option.some.inj h] at s
    exact s
  · cases h
theorem map_dv {ws : List Str} (h : ws.all digB = true) : ws = (ws.map dv).map ns := by
  induction ws with
  | nil => rfl
  | cons w ws ih =>
    rw [List.all_cons, Bool.and_eq_true] at h
    rw [List.map_cons, List.map_cons, ← ih h.2, ← (dig_ns h.1).1]
/-- the line of a house that was taken -/
theorem hwl_inv0 {l : Str} {n : Int} {D : List (Int × Int)} (h : hwl none l = some (n, D)) : D = [] ∧ l = hline n := by
  obtain ⟨e, n1, n8, f⟩ := rdH_inv h
  have el := words_of l
  unfold hwD at e
  split at e
  · rename_i c
    dsimp only at e
    split at e
    · rename_i c2
      cases hw : Txt.split l " " with
      | nil => rw [hw] at c2; cases c2
      | cons w wr =>
        rw [hw] at c c2 e el
        have e0 : w = "rooms" := Option.some.inj c2
        have e1 := PyData.tuple.inj e
        have e2 : (wr.map dv).map PyData.int ++ [PyData.tuple []] = [PyData.int n] ++ [PyData.tuple (D.map drd)] := e1
        have e3 := List.append_inj' e2 rfl
        have e4 : wr.map dv = [n] := ints_inj (ys := [n]) e3.1
        have e5 := PyData.tuple.inj (List.cons.inj e3.2).1
        have e6 : wr = [ns n] := by
          rw [map_dv (ws := wr) c, e4]
          rfl
        refine ⟨List.map_eq_nil_iff.mp e5.symm, ?_⟩
        rw [el, e0, e6]
        rfl
    · unfold hsd at e
      cases e
  · unfold hsd at e
    cases e
theorem hwl_inv1 {l : Str} {m n : Int} {D0 D : List (Int × Int)} (h : hwl (some (m, D0)) l = some (n, D)) : m = n ∧ ∃ x, D = D0 ++ [x] ∧ l = dline x := by
  obtain ⟨e, n1, n8, f⟩ := rdH_inv h
  have el := words_of l
  unfold hwD at e
  split at e
  · rename_i c
    dsimp only at e
    split at e
    · rename_i c2
      cases hw : Txt.split l " " with
      | nil => rw [hw] at c2; cases c2
      | cons w wr =>
        rw [hw] at c c2 e el
        have e0 : w = "door" := Option.some.inj c2
        have e1 := PyData.tuple.inj e
        obtain ⟨e2, e3⟩ := List.cons.inj e1
        have e4 := PyData.tuple.inj (List.cons.inj e3).1
        have e4 : D0.map drd ++ [PyData.tuple ((wr.map dv).map PyData.int)] = D.map drd := e4
        rcases List.eq_nil_or_concat D with z | ⟨E, x, z⟩
        · rw [z] at e4
          simp at e4
        · rw [z, List.concat_eq_append, List.map_append] at e4
          have e5 := List.append_inj' e4 rfl
          have e6 : D0 = E := drds_inj e5.1
          have e7 := PyData.tuple.inj (List.cons.inj e5.2).1
          have e8 : wr.map dv = [x.1, x.2] := ints_inj (ys := [x.1, x.2]) e7
          have e9 : wr = [ns x.1, ns x.2] := by
            rw [map_dv (ws := wr) c, e8]
            rfl
          refine ⟨PyData.int.inj e2, x, by rw [z, List.concat_eq_append, e6], ?_⟩
          rw [el, e0, e9]
          rfl
    · unfold hsd at e
      cases e
  · unfold hsd at e
    cases e
theorem goH_inv : ∀ {ls : List Str} {i : Nat} {m n : Int} {D0 D : List (Int × Int)}, goH i (some (m, D0)) ls = .inl (some (n, D)) → m = n ∧ ∃ E, D = D0 ++ E ∧ ls = E.map dline
  | [], i, m, n, D0, D, h => by
    have h : (Sum.inl (some (m, D0)) : Option (Int × List (Int × Int)) ⊕ Nat) = .inl (some (n, D)) := h
    have := Option.some.inj (Sum.inl.inj h)
    exact ⟨congrArg Prod.fst this, [], by rw [List.append_nil]; exact (congrArg Prod.snd this).symm, rfl⟩
  | l :: ls, i, m, n, D0, D, h => by
    rw [goH] at h
    cases hw : hwl (some (m, D0)) l with
    | none => rw [hw] at h; cases h
    | some x =>
      rw [hw] at h
      obtain ⟨n2, D2⟩ := x
      obtain ⟨e1, y, e2, e3⟩ := hwl_inv1 hw
      obtain ⟨e4, E, e5, e6⟩ := goH_inv h
      exact ⟨e1.trans e4, y :: E, by rw [e5, e2, List.append_assoc]; rfl, by rw [List.map_cons, ← e3, ← e6]⟩
theorem goH_none : ∀ {ls : List Str} {i : Nat} {x : Int × List (Int × Int)}, goH i (some x) ls ≠ .inl none
  | [], _, _, h => by cases h
  | l :: ls, i, x, h => by
    rw [goH] at h
    cases hw : hwl (some x) l with
    | none => rw [hw] at h; cases h
    | some y =>
      rw [hw] at h
      exact goH_none h
theorem goH_forest : ∀ {ls : List Str} {i : Nat} {oh : Option (Int × List (Int × Int))} {n : Int} {D : List (Int × Int)}, (∀ m E, oh = some (m, E) → 1 ≤ m ∧ m ≤ 8 ∧ Forest m E) → goH i oh ls = .inl (some (n, D)) → 1 ≤ n ∧ n ≤ 8 ∧ Forest n D
  | [], i, oh, n, D, ho, h => ho n D (Sum.inl.inj h)
  | l :: ls, i, oh, n, D, ho, h => by
    rw [goH] at h
    cases hw : hwl oh l with
    | none => rw [hw] at h; cases h
    | some y =>
      rw [hw] at h
      refine goH_forest (fun m E e => ?_) h
      rw [Option.some.inj e] at hw
      exact (rdH_inv hw).2
/-- what is read is what was written -/
theorem parH_inv {t : Str} {o : Option (Int × List (Int × Int))} (h : parH t = .inl o) : ∃ n D, o = some (n, D) ∧ t = txt (hls n D) ∧ 1 ≤ n ∧ n ≤ 8 ∧ Forest n D := by
  unfold parH at h
  cases g : goH 0 none (lns t) with
  | inr i => rw [g] at h; cases h
  | inl o' =>
    rw [g] at h
    dsimp only at h
    split at h
    · rename_i c
      have et := txt_lns c
      have eo : o' = o := Sum.inl.inj h
      rw [eo] at g
      cases el : lns t with
      | nil =>
        rw [lns_nil el] at c
        exact absurd c (by decide +kernel)
      | cons l ls =>
        rw [el, goH] at g
        cases hw : hwl none l with
        | none => rw [hw] at g; cases g
        | some x =>
          rw [hw] at g
          obtain ⟨m, D0⟩ := x
          obtain ⟨e1, e2⟩ := hwl_inv0 hw
          cases o with
          | none => exact absurd g goH_none
          | some y =>
            obtain ⟨n, D⟩ := y
            obtain ⟨e3, E, e4, e5⟩ := goH_inv g
            have ff := goH_forest (fun m' E' e => by rw [Option.some.inj e] at hw; exact (rdH_inv hw).2) g
            refine ⟨n, D, rfl, ?_, ff⟩
            rw [et, el, e2, e5, e3, e4, e1]
            rfl
    · cases h
/-- one line of a placement that was taken -/
theorem stepP_inv {n : Int} {x y : List (Str × Int) × List (Str × Int)} {l : Str} (h : stepP n x (Txt.split l " ") = some y) : ∃ z a b, y = (x.1 ++ [(z, a)], x.2 ++ [(z, b)]) ∧ l = pline z a b ∧ plB n (pld y.1) = true ∧ plB n (pld y.2) = true := by
  have el := words_of l
  generalize Txt.split l " " = ws at *
  unfold stepP at h
  split at h
  · rename_i w0 w1 w2
    split at h
    · rename_i c
      rw [Bool.and_eq_true, Bool.and_eq_true, Bool.and_eq_true] at c
      have ey := (Option.some.inj h).symm
      refine ⟨w0, dv w1, dv w2, ey, ?_, by rw [ey]; exact c.1.2, by rw [ey]; exact c.2⟩
      rw [el]
      unfold pline
      rw [← (dig_ns c.1.1.1).1, ← (dig_ns c.1.1.2).1]
    · cases h
  · cases h
theorem goP_inv {n : Int} : ∀ {ls : List Str} {i : Nat} {x y : List (Str × Int) × List (Str × Int)}, goP n i x ls = .inl y → ∃ P2 G2, y = (x.1 ++ P2, x.2 ++ G2) ∧ ls = pls P2 G2 ∧ G2.map (·.1) = P2.map (·.1)
  | [], i, x, y, h => by
    have h : (Sum.inl x : List (Str × Int) × List (Str × Int) ⊕ Nat) = .inl y := h
    refine ⟨[], [], ?_, rfl, rfl⟩
    rw [List.append_nil, List.append_nil]
    exact (Sum.inl.inj h).symm
  | l :: ls, i, x, y, h => by
    rw [goP] at h
    cases hw : stepP n x (Txt.split l " ") with
    | none => rw [hw] at h; cases h
    | some u =>
      rw [hw] at h
      obtain ⟨z, a, b, e1, e2, _, _⟩ := stepP_inv hw
      obtain ⟨P2, G2, e3, e4, e5⟩ := goP_inv h
      refine ⟨(z, a) :: P2, (z, b) :: G2, ?_, ?_, ?_⟩
      · rw [e3, e1]
        simp
      · rw [e2, e4]
        rfl
      · rw [List.map_cons, List.map_cons, e5]
theorem goP_plB {n : Int} : ∀ {ls : List Str} {i : Nat} {x y : List (Str × Int) × List (Str × Int)}, plB n (pld x.1) = true ∧ plB n (pld x.2) = true → goP n i x ls = .inl y → plB n (pld y.1) = true ∧ plB n (pld y.2) = true
  | [], i, x, y, hx, h => by
    have h : (Sum.inl x : List (Str × Int) × List (Str × Int) ⊕ Nat) = .inl y := h
    rw [← Sum.inl.inj h]
    exact hx
  | l :: ls, i, x, y, hx, h => by
    rw [goP] at h
    cases hw : stepP n x (Txt.split l " ") with
    | none => rw [hw] at h; cases h
    | some u =>
      rw [hw] at h
      obtain ⟨z, a, b, e1, e2, k1, k2⟩ := stepP_inv hw
      exact goP_plB ⟨k1, k2⟩ h
theorem plB_nil (n : Int) : plB n (pld []) = true := plB_yes ⟨[], rfl, Nat.zero_le _, fun x hx => (by cases hx), List.Pairwise.nil⟩
theorem txt_nil0 : txt [] = ("" : Str) := txt_ext (by rw [tl_txt, tl_em]; rfl)
theorem parP_inv {n : Int} {t : Str} {x : List (Str × Int) × List (Str × Int)} (h : parP n t = .inl x) : t = txt (pls x.1 x.2) ∧ x.2.map (·.1) = x.1.map (·.1) ∧ plB n (pld x.1) = true ∧ plB n (pld x.2) = true := by
  unfold parP at h
  cases g : goP n 0 ([], []) (lns t) with
  | inr i => rw [g] at h; cases h
  | inl y =>
    rw [g] at h
    dsimp only at h
    split at h
    · cases h
    · rename_i c
      have ey : y = x := Sum.inl.inj h
      rw [ey] at g
      obtain ⟨P2, G2, e1, e2, e3⟩ := goP_inv g
      have k := goP_plB ⟨plB_nil n, plB_nil n⟩ g
      have x1 : x.1 = P2 := by rw [e1]; rfl
      have x2 : x.2 = G2 := by rw [e1]; rfl
      rw [x1, x2] at k ⊢
      refine ⟨?_, e3, k⟩
      rw [← e2]
      cases el : lns t with
      | nil => rw [lns_nil el, txt_nil0]
      | cons l ls =>
        rw [el] at c
        have he : Txt.endswith t "\n" = true := by
          cases z : Txt.endswith t "\n" with
          | true => rfl
          | false => rw [z] at c; exact absurd rfl c
        rw [← el]
        exact txt_lns he
/-! a text cut within its last line -/
theorem goH_app : ∀ {as bs : List Str} {i : Nat} {oh o : Option (Int × List (Int × Int))}, goH i oh as = .inl o → goH i oh (as ++ bs) = goH (i + as.length) o bs
  | [], bs, i, oh, o, h => by
    have h : (Sum.inl oh : Option (Int × List (Int × Int)) ⊕ Nat) = .inl o := h
    rw [Sum.inl.inj h]
    rfl
  | l :: as, bs, i, oh, o, h => by
    rw [goH] at h
    rw [List.cons_append, goH]
    cases hw : hwl oh l with
    | none => rw [hw] at h; cases h
    | some x =>
      rw [hw] at h
      dsimp only
      rw [goH_app h, List.length_cons]
      congr 1
      omega
theorem goP_app {n : Int} : ∀ {as bs : List Str} {i : Nat} {x y : List (Str × Int) × List (Str × Int)}, goP n i x as = .inl y → goP n i x (as ++ bs) = goP n (i + as.length) y bs
  | [], bs, i, x, y, h => by
    have h : (Sum.inl x : List (Str × Int) × List (Str × Int) ⊕ Nat) = .inl y := h
    rw [Sum.inl.inj h]
    rfl
  | l :: as, bs, i, x, y, h => by
    rw [goP] at h
    rw [List.cons_append, goP]
    cases hw : stepP n x (Txt.split l " ") with
    | none => rw [hw] at h; cases h
    | some z =>
      rw [hw] at h
      dsimp only
      rw [goP_app h, List.length_cons]
      congr 1
      omega
theorem cut_lns {ls : List Str} {p : Str} (h : ∀ l ∈ ls, 10 ∉ tl l) (hp : 10 ∉ tl p) (ne : tl p ≠ []) : lns (txt ls ++ p) = ls ++ [p] ∧ Txt.endswith (txt ls ++ p) "\n" = false := by
  have ej : txt ls ++ p = Txt.join "\n" (ls ++ [p]) := by
    refine txt_ext ?_
    rw [tl_append, join_eq, tl_join, tl_nl, List.map_append]
    show _ = joinL [10] (ls.map tl ++ [tl p])
    rw [joinL_last, tl_txt, List.map_map]
    rfl
  have es : Txt.split (txt ls ++ p) "\n" = ls ++ [p] := by
    rw [ej]
    refine split_join tl_nl (by decide +kernel) (by simp) fun q hq => ?_
    rcases List.mem_append.mp hq with m | m
    · exact h q m
    · rw [List.mem_singleton.mp m]
      exact hp
  constructor
  · unfold lns
    rw [es, if_neg]
    simpa using ne
  · cases z : Txt.endswith (txt ls ++ p) "\n" with
    | false => rfl
    | true =>
      obtain ⟨u, hu⟩ := ends_tl z
      rcases List.eq_nil_or_concat (tl p) with y | ⟨c, d, y⟩
      · exact absurd y ne
      · rw [tl_append, y, List.concat_eq_append, ← List.append_assoc] at hu
        have d10 : d = 10 := (List.cons.inj (List.append_inj' hu rfl).2).1
        rw [y, List.concat_eq_append, d10] at hp
        exact absurd (by simp) hp
theorem parH_cut {ls : List Str} {p : Str} {o : Option (Int × List (Int × Int))} (h : ∀ l ∈ ls, 10 ∉ tl l) (hp : 10 ∉ tl p) (ne : tl p ≠ []) (g : goH 0 none ls = .inl o) : parH (txt ls ++ p) = .inr ls.length ∨ parH (txt ls ++ p) = .inr (ls.length + 1) := by
  obtain ⟨e1, e2⟩ := cut_lns h hp ne
  unfold parH
  rw [e1, e2, goH_app g, Nat.zero_add, goH]
  cases hw : hwl o p with
  | none => exact .inl rfl
  | some x =>
    right
    dsimp only
    rw [show goH (ls.length + 1) (some x) [] = .inl (some x) from rfl]
    dsimp only
    rw [if_neg (by decide), List.length_append]
    rfl
theorem parP_cut {n : Int} {ls : List Str} {p : Str} {y : List (Str × Int) × List (Str × Int)} (h : ∀ l ∈ ls, 10 ∉ tl l) (hp : 10 ∉ tl p) (ne : tl p ≠ []) (g : goP n 0 ([], []) ls = .inl y) : parP n (txt ls ++ p) = .inr ls.length ∨ parP n (txt ls ++ p) = .inr (ls.length + 1) := by
  obtain ⟨e1, e2⟩ := cut_lns h hp ne
  unfold parP
  rw [e1, e2, goP_app g, Nat.zero_add, goP]
  cases hw : stepP n y (Txt.split p " ") with
  | none => exact .inl rfl
  | some x =>
    right
    dsimp only
    rw [show goP n (ls.length + 1) x [] = .inl x from rfl]
    dsimp only
    rw [if_pos, List.length_append]
    · rfl
    · cases ls <;> rfl
end Fw
namespace Fw
open PySem PySem.Spec PyProof.Rows L2
/-! sorted of anything that reads as data -/
/-! text * number -/
def repS (z : Str) (k : Nat) : Str := ⟨(List.replicate k z.cps).foldl (· ++ ·) #[]⟩
theorem op_mulS {X : Cx} : OpR X (binaryOp .Mult) (fun x y H Q => ∃ (z : Str) (k : Int), x = .str z ∧ y = .int k ∧ 2 ≤ k ∧ k ≤ 1000 ∧ 1 ≤ z.length ∧ z.length ≤ 1000 ∧ (repS z k.toNat).length ≤ sizeLine ∧ Q (.str (repS z k.toNat)) H) := by
  rintro pins s σ H x y v u Q I rx ry ⟨z, k, rfl, rfl, k0, k1, z0, z1, zz, q⟩
  obtain ⟨t, rfl⟩ := rx
  obtain ⟨t', rfl⟩ := ry
  have b : ¬ k < 1 := by omega
  have e : (k == 1 || z.length == 0) = false := by
    rw [beq_eq_false_iff_ne.mpr (show k ≠ 1 by omega), beq_eq_false_iff_ne.mpr (show z.length ≠ 0 by omega)]
    rfl
  refine P.mul_str (by rw [decide_eq_false (by omega), decide_eq_false (by omega)]; rfl) (fun _ _ => ?_) (fun _ _ => ?_) ?_
  · have h1 : (z.length : Int) * k ≤ 1000 * 1000 := Int.mul_le_mul (by omega) k1 (by omega) (by omega)
    have h2 : (z.length : Int) ≤ (2 ^ 63 - 1) / k := (Int.le_ediv_iff_mul_le (by omega)).mpr (by omega)
    omega
  · unfold Builtin.Str.tooLong
    have h1 : z.length * k.toNat ≤ 1000 * 1000 := Nat.mul_le_mul z1 (by omega)
    have := sizeLine_eq
    exact decide_eq_false (by omega)
  · rw [if_neg b, e, if_neg (by decide)]
    exact ⟨zz, .str (repS z k.toNat), H, I.tok _, ⟨_, rfl⟩, q⟩
/-! a placement, sorted -/
end Fw
set_option maxHeartbeats 1000000
namespace Fw
open TL
open PySem PySem.Spec PyProof.Rows L2
/-! how long a changed text is, and its signs -/
theorem cutS_mem {z : Str} {lo hi : Option Int} {c : Nat} (h : c ∈ tl (cutS z lo hi)) : c ∈ tl z := by
  unfold cutS at h
  exact List.mem_of_mem_drop (List.mem_of_mem_take h)
theorem cutS_le (z : Str) (lo hi : Option Int) : (cutS z lo hi).length ≤ z.length := by
  rw [tl_len, tl_len z]
  unfold cutS
  show ((z.cps.toList.drop _).take _).length ≤ _
  rw [List.length_take, List.length_drop]
  have : (tl z).length = z.cps.toList.length := rfl
  omega
theorem Okt.cut {z : Str} (h : Okt z) (lo hi : Option Int) : Okt (cutS z lo hi) := fun c hc => h c (cutS_mem hc)
theorem Okt.app {x y : Str} (hx : Okt x) (hy : Okt y) : Okt (x ++ y) := fun c hc => by
  rw [tl_append] at hc
  exact (List.mem_append.mp hc).elim (hx c) (hy c)
theorem Okt.low {x : Str} (h : (tl x).all (· < 1114112) = true) : Okt x := fun c hc => of_decide_eq_true (List.all_eq_true.mp h c hc)
def Wt (ls : List Str) : Nat := (ls.map fun l => l.length + 1).sum
theorem Wt_app (a b : List Str) : Wt (a ++ b) = Wt a + Wt b := by
  unfold Wt
  rw [List.map_append, List.sum_append]
theorem Wt_cons (l : Str) (ls : List Str) : Wt (l :: ls) = l.length + 1 + Wt ls := by
  unfold Wt
  rw [List.map_cons, List.sum_cons]
theorem Wt_take (ls : List Str) (k : Nat) : Wt (ls.take k) + Wt (ls.drop k) = Wt ls := by
  rw [← Wt_app, List.take_append_drop]
theorem Wt_rev : ∀ ls : List Str, Wt ls.reverse = Wt ls
  | [] => rfl
  | l :: ls => by
    rw [List.reverse_cons, Wt_app, Wt_rev ls, Wt_cons, Wt_cons]
    show Wt ls + (l.length + 1 + 0) = _
    omega
theorem Wt_mem {l : Str} : ∀ {ls : List Str}, l ∈ ls → l.length + 1 ≤ Wt ls
  | x :: ls, h => by
    rw [Wt_cons]
    rcases List.mem_cons.mp h with rfl | m
    · omega
    · have := Wt_mem m
      omega
theorem join_len {y : Str} (hy : y.length = 1) : ∀ ls : List Str, (Str.join y ls).length ≤ Wt ls ∧ Wt ls ≤ (Str.join y ls).length + 1
  | [] => ⟨Nat.zero_le _, Nat.zero_le _⟩
  | [p] => by
    rw [Wt_cons]
    show p.length ≤ p.length + 1 + 0 ∧ p.length + 1 + 0 ≤ p.length + 1
    omega
  | p :: q :: r => by
    have ih := join_len hy (q :: r)
    have e : (Str.join y (p :: q :: r)).length = p.length + y.length + (Str.join y (q :: r)).length := by
      show (p ++ y ++ Str.join y (q :: r)).length = _
      rw [PySem.Str.length_append, PySem.Str.length_append]
    rw [e, Wt_cons, hy]
    omega
theorem Wt_split {t y : Str} (hy : y.length = 1) : Wt (Txt.split t y) ≤ t.length + 1 := by
  have := (join_len hy (Txt.split t y)).2
  rwa [PySem.StrLaws.join_split] at this
theorem mem_join {y : Str} {c : Nat} : ∀ {ls : List Str}, c ∈ tl (Str.join y ls) → c ∈ tl y ∨ ∃ l ∈ ls, c ∈ tl l
  | [], h => by cases h
  | [p], h => .inr ⟨p, List.mem_singleton_self _, h⟩
  | p :: q :: r, h => by
    have h : c ∈ tl (p ++ y ++ Str.join y (q :: r)) := h
    rw [tl_append, tl_append] at h
    rcases List.mem_append.mp h with m | m
    · rcases List.mem_append.mp m with m | m
      · exact .inr ⟨p, List.mem_cons_self, m⟩
      · exact .inl m
    · rcases mem_join m with m | ⟨l, hl, m⟩
      · exact .inl m
      · exact .inr ⟨l, List.mem_cons_of_mem _ hl, m⟩
theorem Okt.join {y : Str} {ls : List Str} (hy : Okt y) (h : ∀ l ∈ ls, Okt l) : Okt (Txt.join y ls) := fun c hc => by
  rw [join_eq] at hc
  rcases mem_join hc with m | ⟨l, hl, m⟩
  · exact hy c m
  · exact h l hl c m
theorem Okt.split {t y : Str} (h : Okt t) : ∀ p ∈ Txt.split t y, Okt p := fun p hp c hc => h c (mem_split hp hc)
theorem txt_join_len {y : Str} (hy : y.length = 1) (ls : List Str) : (Txt.join y ls).length ≤ Wt ls := by
  rw [join_eq]
  exact (join_len hy ls).1
theorem Wt_set {l : Str} : ∀ {ls : List Str} {k : Nat}, Wt (ls.set k l) ≤ Wt ls + (l.length + 1)
  | [], _ => by
    rw [List.set_nil]
    omega
  | x :: ls, 0 => by
    rw [List.set_cons_zero, Wt_cons, Wt_cons]
    omega
  | x :: ls, k + 1 => by
    have := Wt_set (l := l) (ls := ls) (k := k)
    rw [List.set_cons_succ, Wt_cons, Wt_cons]
    omega
end Fw
set_option maxHeartbeats 2000000
namespace Fw
open TL
open PySem PySem.Spec PyProof.Rows L2
/-! what a text is read as; changed texts -/
theorem nmOk_nam {z : Str} (h : nmOk z = true) : Nam z := by
  unfold nmOk letr at h
  rw [Bool.and_eq_true, List.all_eq_true] at h
  have l := of_decide_eq_true h.1
  exact ⟨l.1, l.2, fun c hc => of_decide_eq_true (h.2 c hc)⟩
theorem HouseQ.dxy {K : PySem.W.Frag} {av : List Addr} {H : Hp} {h : Addr} {n : Int} {D : List (Int × Int)} (x : HouseQ K H h n D) : Dx K av H (.ref h) (hsd n D) := by
  obtain ⟨q, ps, h1, h2, rfl, h4⟩ := x
  exact .tup h1 (.cons (.int _) (.cons (.tup h2 (dxA_drds h4)) .nil))
theorem hsd_gdy {n : Int} {D : List (Int × Int)} (f : Forest n D) (n1 : 1 ≤ n) (n8 : n ≤ 8) : Gd 0 3 60 (hsd n D) := by
  have l := f.len
  have a := Gd.tup (drdz_gd fun x hx => by
    have := f.ends (a := x.1) (b := x.2) hx
    omega)
  exact (Gd.tup (GdA.cons ((int_gdb (i := n) (by omega)).up (Nat.le_refl 0) (Nat.zero_le 2) (Nat.le_refl 0)) (GdA.cons a (GdA.nil (n := 0))))).up (Nat.le_refl _) (Nat.le_refl _) (by omega)
theorem Pl.wdz {n : Int} {P : List (Str × Int)} (h : Pl n P) (n8 : n ≤ 8) : Wds P := fun x hx => by
  have r := h.rm x hx
  have z := h.nm.nam x.1 (List.mem_map_of_mem (f := (·.1)) hx)
  have := z.2.1
  exact ⟨fun c hc => by have := z.2.2 c hc; omega, by omega, by omega⟩
theorem pl_of_plB {n : Int} {X : List (Str × Int)} (h : plB n (pld X) = true) : Pl n X ∧ X.length ≤ 12 := by
  obtain ⟨Y, e, l, r, up⟩ := plB_iff.mp h
  have e : X = Y := pps_inj (PyData.tuple.inj e)
  rw [e]
  refine ⟨⟨⟨fun x hx => ?_, up⟩, fun x hx => (r x hx).2⟩, l⟩
  obtain ⟨y, hy, rfl⟩ := List.mem_map.mp hx
  exact nmOk_nam (r y hy).1
section
variable {P : Program} {w : World} {K : PySem.W.Frag} {mg : Str → Option Value} {base : Heap}
def spPO (K : PySem.W.Frag) : Sp := fun vs H Q _ => ∃ (kd : Int) (h : Addr) (n : Int) (D : List (Int × Int)) (t : Str), vs = [.int kd, .ref h, .str t] ∧ HouseAt H h n D ∧ t.length ≤ 1000 ∧ Okt t ∧
  (kd = 0 → (∀ o, parH t = .inl o → ∀ H' u v, Same H H' → H' u = some (.tup [.str "value", v]) → IsH K H' v o → Q (.ref u) H') ∧ (∀ i : Nat, parH t = .inr i → ∀ H' u, Same H H' → H' u = some (.tup [.str "InvalidText", .int i]) → Q (.ref u) H')) ∧
  (kd ≠ 0 → (∀ x, parP n t = .inl x → ∀ H' u w p g, Same H H' → H' u = some (.tup [.str "value", .ref w]) → H' w = some (.tup [.ref p, .ref g]) → PlAt H' p x.1 → PlAt H' g x.2 → Q (.ref u) H') ∧ (∀ i : Nat, parP n t = .inr i → ∀ H' u, Same H H' → H' u = some (.tup [.str "InvalidText", .int i]) → Q (.ref u) H'))
abbrev nLPOut : List Str := ["_law_kind", "_law_house_here", "_law_text", "_law_e"]
theorem scLPOut : FnScope nLPOut ["_law_kind", "_law_house_here", "_law_text"] (defScope sLPOut) := ⟨rfl, rfl, rfl, by decide +kernel, rfl, by decide +kernel, by decide +kernel⟩
theorem ok_po {f : Addr} {fd : FuncData} {k : Nat} {E C : Addr} (F : Fun K "_law_parse_outcome" "_law_parse_outcome" sLPOut f fd) (RInvalidText : Er1 P w K mg base "InvalidText" "InvalidText.__init__" "position" E C) (Cparse_house : CalX P w K mg base (k + 7) "parse_house" ["value"] (spParH K C)) (Cparse_placement : CalX P w K mg base (k + 7) "parse_placement" ["house", "value"] (spParP C)) (C_law_error_class : CalE P w K mg base (k + 7) "_law_error_class" ["_law_e"] (spLEC C "InvalidText")) : FnOk P w K mg base CX0 (k + 8) f fd ["_law_kind", "_law_house_here", "_law_text"] (spPO K) := by
  refine F.ok scLPOut (fun vs H Q E h => ?_) (fun cdv A outer s H vs Q E h0 h => ?_)
  · obtain ⟨kd, h, n, D, t, rfl, _⟩ := h
    rfl
  · obtain ⟨kd, h, n, D, t, rfl, hH, lt, ok, q0, q1⟩ := h
    have hr := h0
    refine ⟨_, (pss_one (ps_try_as (i := 3) rfl rfl scLPOut.nd rfl rfl ⟨by rfl, by decide, .inl RInvalidText.r.g⟩ takes0 (fun W pn xe tk _ => (pss_cons (ps_if (pt_cmpR op_eq (pv 0) pe_int (nomark _))
       (pss_one (ps_ret (pe_tup (pa_cons pe_str (pa_cons (pe_calX Cparse_house tk hr (by rfl) (pa_cons (pv 2) pa_nil)) pa_nil)))))
       pss_nil)
       (pss_one (ps_ret (pe_tup (pa_cons pe_str (pa_cons (pe_calX Cparse_placement tk hr (by rfl) (pa_cons (pv 1) (pa_cons (pv 2) pa_nil))) pa_nil)))))))
      (fun a oe cls d pn hz hf => (pss_one (ps_ret (pe_tup (pa_cons (pe_calE hz hf C_law_error_class hr (by rfl) (pa_cons (pv 3) pa_nil)) (pa_cons (pe_xf RInvalidText.r.e.x RInvalidText.r.no hz hf (pv 3)) pa_nil)))))))), ?_⟩
    have fail : ∀ (qE : Nat → Hp → Addr → Prop), True := fun _ => trivial
    refine ⟨_, rfl, rfl, _, rfl, ?_⟩
    by_cases z : kd = 0
    · rw [decide_eq_true (by rw [z])]
      obtain ⟨qa, qb⟩ := q0 z
      refine iteT ⟨_, rfl, t, rfl, lt, fun o ho H' v s' hv => ⟨by show 2 ≤ sizeLine; decide, fun u hu => qa o ho _ u v (s'.trans (same_upd hu)) upd_same (hv.same (same_upd hu))⟩, fun i hi d H1 s1 ed => ⟨true, (exm_ref RInvalidText.r.mro RInvalidText.r.e).trans (congrArg some (decide_eq_true (.inl rfl))), fun _ a ha => ?_, fun z => nomatch z⟩⟩
      refine ⟨_, rfl, rfl, rfl, fun dx hx => by cases hx; exact ⟨_, ed⟩, fun H2 s2 => ?_⟩
      exact ⟨_, rfl, rfl, rfl, d, _, _, rfl, s2 _ _ ed, rfl, by show 2 ≤ sizeLine; decide, fun u hu => qb i hi _ u (s1.trans (s2.trans (same_upd hu))) upd_same⟩
    · rw [decide_eq_false fun y => z (V.int.inj y)]
      obtain ⟨qa, qb⟩ := q1 z
      refine iteF ⟨_, rfl, _, rfl, h, n, D, t, rfl, hH, lt, ok, fun x hx H' w p g s' ew ep eg => ⟨by show 2 ≤ sizeLine; decide, fun u hu => qa x hx _ u w p g (s'.trans (same_upd hu)) upd_same (same_upd hu _ _ ew) (ep.same (same_upd hu)) (eg.same (same_upd hu))⟩, fun i hi d H1 s1 ed => ⟨true, (exm_ref RInvalidText.r.mro RInvalidText.r.e).trans (congrArg some (decide_eq_true (.inl rfl))), fun _ a ha => ?_, fun z => nomatch z⟩⟩
      refine ⟨_, rfl, rfl, rfl, fun dx hx => by cases hx; exact ⟨_, ed⟩, fun H2 s2 => ?_⟩
      exact ⟨_, rfl, rfl, rfl, d, _, _, rfl, s2 _ _ ed, rfl, by show 2 ≤ sizeLine; decide, fun u hu => qb i hi _ u (s1.trans (s2.trans (same_upd hu))) upd_same⟩
def spChT : Sp := fun vs H Q _ => ∃ (st SA SB : Addr) (c : Nat) (t : Str), vs = [.ref st, .str t] ∧ StreamAt H st SA SB c ∧ c < 2 ^ 28 ∧ t.length ≤ 1000 ∧ Okt t ∧
  ∀ H' t', StreamAt H' st SA SB (c + 6) → Fr st SA H H' → t'.length ≤ 2 * t.length + 40 → Okt t' → Q (.str t') H'
theorem sgn_len : (Str.ofString " \n-0123456789adorsz,A_+").length = 23 := by decide +kernel
theorem sgn_ok : Okt (Str.ofString " \n-0123456789adorsz,A_+") := .low (by decide +kernel)
def odd1 : List Str := [Str.ofString "0", Str.ofString "1", Str.ofString "00", Str.ofString "9", Str.ofString "8", Str.ofString "7", Str.ofString "-1", Str.ofString "", Str.ofString "rooms", Str.ofString "door", Str.ofString "a", Str.ofString "zz", Str.ofString "abcdefghi", repS (Str.ofString "9") 31, Str.ofString "07", Str.ofString "1.0"]
def odd2 : List Str := [Str.ofString "+1", Str.ofString "0_"]
theorem odd_ok : (odd1 ++ odd2).all (fun o => decide (o.length ≤ 31) && (tl o).all (· < 1114112)) = true := by decide +kernel
theorem odd_of {o : Str} (h : o ∈ odd1 ++ odd2) : o.length ≤ 31 ∧ Okt o := by
  have := List.all_eq_true.mp odd_ok o h
  rw [Bool.and_eq_true] at this
  exact ⟨of_decide_eq_true this.1, .low this.2⟩
theorem mem_set {ls : List Str} {l x : Str} : ∀ {k : Nat}, x ∈ ls.set k l → x ∈ ls ∨ x = l := fun h => List.mem_or_eq_of_mem_set h
theorem ixN_of {n : Nat} {i : Int} (h0 : 0 ≤ i) (h1 : i < (n : Nat)) : ixN n i = some i.toNat := by
  unfold ixN
  rw [if_pos h0, if_pos h1]
theorem strs_at {ls : List Str} {i : Int} (h0 : 0 ≤ i) (h1 : i < (ls.length : Nat)) : ∃ l, ls[i.toNat]? = some l ∧ atI (ls.map V.str) i = some (.str l) := by
  refine ⟨_, List.getElem?_eq_getElem (show i.toNat < ls.length by omega), ?_⟩
  have := atI_nat (xs := ls.map V.str) (j := i.toNat) (v := .str (ls[i.toNat]'(by omega))) (by rw [List.getElem?_map, List.getElem?_eq_getElem (show i.toNat < ls.length by omega)]; rfl)
  rw [show ((i.toNat : Nat) : Int) = i by omega] at this
  exact this
theorem cut_toG {xs : List V} {i : Int} (h0 : 0 ≤ i) : cutV xs none (some i) = xs.take i.toNat := by
  unfold cutV
  show (xs.drop 0).take ((if i < 0 then (i + (xs.length : Nat)).toNat else min i.toNat xs.length) - 0) = _
  rw [if_neg (by omega), List.drop_zero, Nat.sub_zero]
  by_cases h : i.toNat ≤ xs.length
  · rw [Nat.min_eq_left h]
  · rw [Nat.min_eq_right (by omega), List.take_of_length_le (Nat.le_refl _), List.take_of_length_le (by omega)]
theorem cut_fromG {xs : List V} {i : Int} (h0 : 0 ≤ i) : cutV xs (some i) none = xs.drop i.toNat := by
  unfold cutV
  show (xs.drop (if i < 0 then (i + (xs.length : Nat)).toNat else min i.toNat xs.length)).take (xs.length - (if i < 0 then (i + (xs.length : Nat)).toNat else min i.toNat xs.length)) = _
  rw [if_neg (by omega)]
  by_cases h : i.toNat ≤ xs.length
  · rw [Nat.min_eq_left h, List.take_of_length_le (by rw [List.length_drop]; exact Nat.le_refl _)]
  · rw [Nat.min_eq_right (by omega), List.drop_of_length_le (Nat.le_refl _), List.drop_of_length_le (show xs.length ≤ i.toNat by omega), List.take_nil]
theorem cut_two {xs : List V} {i : Int} (h0 : 0 ≤ i) (h1 : i < (xs.length : Nat)) : cutV xs (some i) (some (i + 2)) = (xs.drop i.toNat).take 2 := by
  unfold cutV
  show (xs.drop (if i < 0 then (i + (xs.length : Nat)).toNat else min i.toNat xs.length)).take ((if i + 2 < 0 then (i + 2 + (xs.length : Nat)).toNat else min (i + 2).toNat xs.length) - (if i < 0 then (i + (xs.length : Nat)).toNat else min i.toNat xs.length)) = _
  rw [if_neg (by omega), if_neg (by omega), Nat.min_eq_left (show i.toNat ≤ xs.length by omega)]
  by_cases h : (i + 2).toNat ≤ xs.length
  · rw [Nat.min_eq_left h, show (i + 2).toNat - i.toNat = 2 by omega]
  · rw [Nat.min_eq_right (by omega), List.take_of_length_le (by rw [List.length_drop]; exact Nat.le_refl _), List.take_of_length_le (by rw [List.length_drop]; omega)]
theorem sum_wt (ls : List Str) : (ls.map (·.length)).sum + ls.length = Wt ls := by
  induction ls with
  | nil => rfl
  | cons l ls ih =>
    rw [Wt_cons, ← ih, List.map_cons, List.sum_cons, List.length_cons]
    omega
abbrev nLChT : List Str := ["_law_stream_here", "_law_text", "_law_choice", "_law_position", "_law_signs", "_law_lines", "_law_k", "_law_words", "_law_odd", "_law_exchanged", "_law_found"]
theorem scLChT : FnScope nLChT ["_law_stream_here", "_law_text"] (defScope sLChT) := ⟨rfl, rfl, rfl, by decide +kernel, rfl, by decide +kernel, by decide +kernel⟩
theorem ok_cht {f : Addr} {fd : FuncData} {k : Nat} (F : Fun K "_law_changed_text" "_law_changed_text" sLChT f fd) (T : Nm mg) (C_law_draw : Cal P w K mg base k "_law_draw" ["_law_stream_here", "_law_many"] spDraw) : FnOk P w K mg base CX0 (k + 1) f fd ["_law_stream_here", "_law_text"] spChT := by
  refine F.ok scLChT (fun vs H Q E h => ?_) (fun cdv A outer s H vs Q E hr h => ?_)
  · obtain ⟨st, SA, SB, c, t, rfl, _⟩ := h
    rfl
  · obtain ⟨st, SA, SB, c, t, rfl, hS, hc, lt, ok, q⟩ := h
    refine ⟨_, (pss_cons (ps_set (i := 2) scLChT.nd rfl (.inl rfl) (pe_cal C_law_draw hr (by rfl) (pa_cons (pv 0) (pa_cons pe_int pa_nil))))
      (pss_cons (ps_set (i := 3) scLChT.nd rfl (.inl rfl) (pe_cal C_law_draw hr (by rfl) (pa_cons (pv 0) (pa_cons (pe_op op_add (pe_callB call_len_str (by rfl) T.len (by decide +kernel) (pa_cons (pv 1) pa_nil)) pe_int) pa_nil))))
      (pss_cons (ps_set (i := 4) scLChT.nd rfl (.inl rfl) pe_str)
      (pss_cons (ps_if (pt_cmpR op_eq (pv 2) pe_int (nomark _))
      (pss_one (ps_ret (pe_op op_add_str (pe_op op_add_str (pe_slice sl_str (pv 1) po_none (po_some (pv 3))) (pe_ix ix_str (pv 4) (pe_cal C_law_draw hr (by rfl) (pa_cons (pv 0) (pa_cons (pe_callB call_len_str (by rfl) T.len (by decide +kernel) (pa_cons (pv 4) pa_nil)) pa_nil))) (fun _ _ => rfl))) (pe_slice sl_str (pv 1) (po_some (pv 3)) po_none))))
      pss_nil)
      (pss_cons (ps_if (pt_cmpR op_eq (pv 2) pe_int (nomark _))
      (pss_one (ps_ret (pe_op op_add_str (pe_slice sl_str (pv 1) po_none (po_some (pv 3))) (pe_slice sl_str (pv 1) (po_some (pe_op op_add (pv 3) pe_int)) po_none))))
      pss_nil)
      (pss_cons (ps_set (i := 5) scLChT.nd rfl (.inl rfl) (pe_split (pv 1) pe_str))
      (pss_cons (ps_set (i := 6) scLChT.nd rfl (.inl rfl) (pe_cal C_law_draw hr (by rfl) (pa_cons (pv 0) (pa_cons (pe_callB (call_lenK K rfl) (by rfl) T.len (by decide +kernel) (pa_cons (pv 5) pa_nil)) pa_nil))))
      (pss_cons (ps_if (pt_cmpR op_lt (pv 2) pe_int (nomark _))
      (pss_cons (ps_set (i := 7) scLChT.nd rfl (.inl rfl) (pe_split (pe_ix (ix_listK K rfl) (pv 5) (pv 6) (fun _ _ => rfl)) pe_str))
       (pss_cons (ps_set (i := 8) scLChT.nd rfl (.inl rfl) (pe_lst (pa_cons pe_str (pa_cons pe_str (pa_cons pe_str (pa_cons pe_str (pa_cons pe_str (pa_cons pe_str (pa_cons pe_str (pa_cons pe_str (pa_cons pe_str (pa_cons pe_str (pa_cons pe_str (pa_cons pe_str (pa_cons pe_str (pa_cons (pe_op op_mulS pe_str pe_int) (pa_cons pe_str (pa_cons pe_str pa_nil))))))))))))))))))
       (pss_cons (ps_set (i := 8) scLChT.nd rfl (.inl rfl) (pe_op op_cat (pv 8) (pe_lst (pa_cons pe_str (pa_cons pe_str pa_nil)))))
       (pss_cons (ps_asg (pe_ix (ix_listK K rfl) (pv 8) (pe_cal C_law_draw hr (by rfl) (pa_cons (pv 0) (pa_cons pe_int pa_nil))) (fun _ _ => rfl)) (pg_sub (pv 7) (pe_cal C_law_draw hr (by rfl) (pa_cons (pv 0) (pa_cons (pe_callB (call_lenK K rfl) (by rfl) T.len (by decide +kernel) (pa_cons (pv 7) pa_nil)) pa_nil))) set_list))
       (pss_one (ps_asg (pe_joinK K rfl pe_str (pv 7)) (pg_sub (pv 5) (pv 6) set_list)))))))
      (pss_cons (ps_set (i := 9) scLChT.nd rfl (.inl rfl) (pe_op op_cat (pe_op op_cat (pe_slice sl_list (pv 5) po_none (po_some (pv 6))) (pe_revL (pe_slice sl_list (pv 5) (po_some (pv 6)) (po_some (pe_op op_add (pv 6) pe_int))))) (pe_slice sl_list (pv 5) (po_some (pe_op op_add (pv 6) pe_int)) po_none)))
       (pss_cons (ps_set (i := 10) scLChT.nd rfl (.inl rfl) (pe_lst (pa_cons (pe_op op_cat (pe_slice sl_list (pv 5) po_none (po_some (pv 6))) (pe_slice sl_list (pv 5) (po_some (pe_op op_add (pv 6) pe_int)) po_none)) (pa_cons (pe_op op_cat (pe_slice sl_list (pv 5) po_none (po_some (pe_op op_add (pv 6) pe_int))) (pe_slice sl_list (pv 5) (po_some (pv 6)) po_none)) (pa_cons (pv 9) (pa_cons (pe_op op_cat (pe_slice sl_list (pv 5) (po_some (pv 6)) po_none) (pe_slice sl_list (pv 5) po_none (po_some (pv 6)))) pa_nil))))))
       (pss_one (ps_set (i := 5) scLChT.nd rfl (.inl rfl) (pe_ix (ix_listK K rfl) (pv 10) (pe_op op_sub (pv 2) pe_int) (fun _ _ => rfl)))))))
      (pss_one (ps_ret (pe_joinK K rfl pe_str (pv 5)))))))))))), ?_⟩
    have sz := sizeLine_eq
    refine ⟨_, rfl, st, SA, SB, c, 9, rfl, hS, by omega, by decide, by decide, fun H1 ch hS1 fr1 c0 c1 => ?_⟩
    refine ⟨_, rfl, _, rfl, _, rfl, by omega, _, _, rfl, rfl, st, SA, SB, c + 1, _, rfl, hS1, by omega, by omega, by omega, fun H2 ps hS2 fr2 p0 p1 => ?_⟩
    have fr12 := fr1.trans fr2
    refine ⟨_, rfl, rfl, _, rfl, ?_⟩
    by_cases z0 : ch = 0
    · rw [decide_eq_true (by rw [z0])]
      refine iteT ?_
      have l1 := cutS_le t none (some ps)
      have l2 := cutS_le t (some ps) none
      refine ⟨_, rfl, _, rfl, ps, rfl, t, rfl, by omega, _, rfl, _, rfl, _, rfl, _, rfl, by rw [sgn_len]; omega, st, SA, SB, c + 2, _, rfl, hS2, by omega, by rw [sgn_len]; decide, by rw [sgn_len]; decide, fun H3 r hS3 fr3 r0 r1 => ?_⟩
      rw [sgn_len] at r1
      obtain ⟨d, hd⟩ : ∃ d, (tl (Str.ofString " \n-0123456789adorsz,A_+"))[r.toNat]? = some d := ⟨_, List.getElem?_eq_getElem (by rw [← tl_len, sgn_len]; omega)⟩
      have at1 := atI_nat (xs := tl (Str.ofString " \n-0123456789adorsz,A_+")) (j := r.toNat) (v := d) hd
      rw [show ((r.toNat : Nat) : Int) = r by omega] at at1
      have okd' : Okt ⟨#[d]⟩ := fun x hx => by
        have : x = d := by simpa using hx
        rw [this]
        exact sgn_ok d (List.mem_of_getElem? hd)
      refine ⟨_, _, d, rfl, rfl, by rw [sgn_len]; omega, at1, _, _, rfl, rfl, ?_, ?_⟩
      · show (cutS t none (some ps)).length + 1 ≤ sizeLine
        omega
      refine ⟨_, rfl, _, rfl, ps, rfl, t, rfl, by omega, _, _, rfl, rfl, ?_, ?_⟩
      · rw [PySem.Str.length_append]
        show (cutS t none (some ps)).length + 1 + (cutS t (some ps) none).length ≤ sizeLine
        omega
      refine q _ _ (hS3.mono (by omega)) (fr12.trans fr3) ?_ (((ok.cut _ _).app okd').app (ok.cut _ _))
      rw [PySem.Str.length_append, PySem.Str.length_append]
      show (cutS t none (some ps)).length + 1 + (cutS t (some ps) none).length ≤ _
      omega
    rw [decide_eq_false fun y => z0 (V.int.inj y)]
    refine iteF ?_
    refine ⟨_, rfl, rfl, _, rfl, ?_⟩
    by_cases z1 : ch = 1
    · rw [decide_eq_true (by rw [z1])]
      have l1 := cutS_le t none (some ps)
      have l2 := cutS_le t (some (ps + 1)) none
      refine iteT ⟨_, rfl, _, rfl, ps, rfl, t, rfl, by omega, _, rfl, _, rfl, _, _, rfl, rfl, ps + 1, rfl, t, rfl, by omega, _, _, rfl, rfl, by omega, ?_⟩
      refine q _ _ (hS2.mono (by omega)) fr12 ?_ ((ok.cut _ _).app (ok.cut _ _))
      rw [PySem.Str.length_append]
      omega
    rw [decide_eq_false fun y => z1 (V.int.inj y)]
    refine iteF ?_
    have W0 := Wt_split (t := t) (y := "\n") (by decide +kernel)
    have np := PyProof.Rows.split_pos t "\n"
    have n2 := PyProof.Rows.split_le t "\n"
    have ok0 := ok.split (y := "\n")
    refine ⟨_, rfl, ⟨_, rfl⟩, t, "\n", rfl, rfl, by decide +kernel, by omega, fun L hL => ?_⟩
    generalize Txt.split t "\n" = ls at *
    have sL := same_upd (o := .lst (ls.map V.str)) hL
    have zL := hS2.ne hL
    have eL : (upd H2 L (.lst (ls.map V.str))) L = some (.lst (ls.map V.str)) := upd_same
    have hS3 := hS2.same sL
    have fr3 := fr12.trans (Fr.of sL)
    generalize upd H2 L (.lst (ls.map V.str)) = H3 at *
    refine ⟨_, rfl, _, rfl, L, _, rfl, .inl (SqL.of eL), st, SA, SB, c + 2, _, rfl, hS3, by omega, by rw [List.length_map]; omega, by rw [List.length_map]; omega, fun H4 kk hS4 fr4 k0 k1 => ?_⟩
    rw [List.length_map] at k1
    have eL4 := fr4 _ _ zL.1.symm zL.2.1.symm eL
    have fr4 := fr3.trans fr4
    obtain ⟨l, hl, at1⟩ := strs_at k0 k1
    have ml := List.mem_of_getElem? hl
    have wl := Wt_mem ml
    have jn : (Str.ofString "\n").length = 1 := by decide +kernel
    have js : (Str.ofString " ").length = 1 := by decide +kernel
    have okn : Okt (Str.ofString "\n") := .low (by decide +kernel)
    have oks : Okt (Str.ofString " ") := .low (by decide +kernel)
    refine ⟨_, rfl, _, _, rfl, rfl, _, rfl, ?_⟩
    by_cases z5 : ch < 5
    · rw [decide_eq_true z5]
      refine iteT ?_
      have okw := (ok0 l ml).split (y := " ")
      have Ww := Wt_split (t := l) (y := " ") js
      have nw := PyProof.Rows.split_pos l " "
      have n3 := PyProof.Rows.split_le l " "
      refine ⟨_, rfl, _, rfl, L, _, _, _, rfl, rfl, SqL.of eL4, at1, ⟨_, rfl⟩, l, " ", rfl, rfl, by decide +kernel, by omega, fun M hM => ?_⟩
      generalize Txt.split l " " = ws at *
      have zM := hS4.ne hM
      have sM := same_upd (o := .lst (ws.map V.str)) hM
      have eM : (upd H4 M (.lst (ws.map V.str))) M = some (.lst (ws.map V.str)) := upd_same
      have eL5 := sM _ _ eL4
      have LM : L ≠ M := fun e => by rw [e, hM] at eL4; cases eL4
      have hS5 := hS4.same sM
      have fr5 := fr4.trans (Fr.of sM)
      generalize upd H4 M (.lst (ws.map V.str)) = H5 at *
      refine ⟨_, _, rfl, rfl, by decide, by decide, by decide +kernel, by decide +kernel, by decide +kernel, by show 16 ≤ sizeLine; omega, fun O1 hO1 => ?_⟩
      have s6 := same_upd (o := .lst [.str (Str.ofString "0"), .str (Str.ofString "1"), .str (Str.ofString "00"), .str (Str.ofString "9"), .str (Str.ofString "8"), .str (Str.ofString "7"), .str (Str.ofString "-1"), .str (Str.ofString ""), .str (Str.ofString "rooms"), .str (Str.ofString "door"), .str (Str.ofString "a"), .str (Str.ofString "zz"), .str (Str.ofString "abcdefghi"), .str (repS (Str.ofString "9") (31 : Int).toNat), .str (Str.ofString "07"), .str (Str.ofString "1.0")]) hO1
      have e6 : (upd H5 O1 (.lst [.str (Str.ofString "0"), .str (Str.ofString "1"), .str (Str.ofString "00"), .str (Str.ofString "9"), .str (Str.ofString "8"), .str (Str.ofString "7"), .str (Str.ofString "-1"), .str (Str.ofString ""), .str (Str.ofString "rooms"), .str (Str.ofString "door"), .str (Str.ofString "a"), .str (Str.ofString "zz"), .str (Str.ofString "abcdefghi"), .str (repS (Str.ofString "9") (31 : Int).toNat), .str (Str.ofString "07"), .str (Str.ofString "1.0")])) O1 = some (.lst (odd1.map V.str)) := upd_same
      generalize upd H5 O1 (.lst [.str (Str.ofString "0"), .str (Str.ofString "1"), .str (Str.ofString "00"), .str (Str.ofString "9"), .str (Str.ofString "8"), .str (Str.ofString "7"), .str (Str.ofString "-1"), .str (Str.ofString ""), .str (Str.ofString "rooms"), .str (Str.ofString "door"), .str (Str.ofString "a"), .str (Str.ofString "zz"), .str (Str.ofString "abcdefghi"), .str (repS (Str.ofString "9") (31 : Int).toNat), .str (Str.ofString "07"), .str (Str.ofString "1.0")]) = H6 at *
      refine ⟨_, rfl, by show 2 ≤ sizeLine; omega, fun O2 hO2 => ?_⟩
      have s7 := same_upd (o := .lst [.str (Str.ofString "+1"), .str (Str.ofString "0_")]) hO2
      have e7 : (upd H6 O2 (.lst [.str (Str.ofString "+1"), .str (Str.ofString "0_")])) O2 = some (.lst (odd2.map V.str)) := upd_same
      generalize upd H6 O2 (.lst [.str (Str.ofString "+1"), .str (Str.ofString "0_")]) = H7 at *
      refine ⟨O1, O2, _, _, rfl, rfl, s7 _ _ e6, e7, by show 18 ≤ sizeLine; omega, fun O3 hO3 => ?_⟩
      have s8 := same_upd (o := .lst (odd1.map V.str ++ odd2.map V.str)) hO3
      have s58 := (s6.trans s7).trans s8
      have hS8 := hS5.same s58
      have e8 : (upd H7 O3 (.lst (odd1.map V.str ++ odd2.map V.str))) O3 = some (.lst ((odd1 ++ odd2).map V.str)) := by rw [upd_same, List.map_append]
      have zO : st ≠ O3 ∧ SA ≠ O3 ∧ SB ≠ O3 := (hS5.same (s6.trans s7)).ne hO3
      have eM8 := s58 _ _ eM
      have eL8 := s58 _ _ eL5
      have fr8 := fr5.trans (Fr.of s58)
      generalize upd H7 O3 (.lst (odd1.map V.str ++ odd2.map V.str)) = H8 at *
      refine ⟨_, rfl, _, rfl, st, SA, SB, c + 3, 18, rfl, hS8, by omega, by decide, by decide, fun H9 r hS9 fr9 r0 r1 => ?_⟩
      obtain ⟨o, ho, at2⟩ := strs_at (ls := odd1 ++ odd2) r0 (by show r < 18; exact r1)
      have oo := odd_of (List.mem_of_getElem? ho)
      have zM' : st ≠ M ∧ SA ≠ M ∧ SB ≠ M := zM
      have eM9 := fr9 _ _ zM.1.symm zM.2.1.symm eM8
      have eL9 := fr9 _ _ zL.1.symm zL.2.1.symm eL8
      have fr9' := fr8.trans fr9
      refine ⟨O3, _, r, _, rfl, rfl, SqL.of (fr9 _ _ zO.1.symm zO.2.1.symm e8), at2, ?_⟩
      refine ⟨_, rfl, _, rfl, _, rfl, M, _, rfl, .inl (SqL.of eM9), st, SA, SB, c + 4, _, rfl, hS9, by omega, by rw [List.length_map]; omega, by rw [List.length_map]; omega, fun H10 r2 hS10 fr10 r20 r21 => ?_⟩
      rw [List.length_map] at r21
      have eM10 := fr10 _ _ zM.1.symm zM.2.1.symm eM9
      have eL10 := fr10 _ _ zL.1.symm zL.2.1.symm eL9
      refine ⟨M, _, _, _, rfl, rfl, eM10, ixN_of r20 (by rw [List.length_map]; exact r21), ?_⟩
      have fL0 : H L = none := fr12.free hS2 hL
      have fM0 : H M = none := fr4.free hS4 hM
      have eM11 : (upd H10 M (.lst ((ws.map V.str).set r2.toNat (.str o)))) M = some (.lst ((ws.set r2.toNat o).map V.str)) := by rw [upd_same, List.map_set]
      have eL11 : (upd H10 M (.lst ((ws.map V.str).set r2.toNat (.str o)))) L = some (.lst (ls.map V.str)) := (upd_ne LM).trans eL10
      have hS11 : StreamAt (upd H10 M (.lst ((ws.map V.str).set r2.toNat (.str o)))) st SA SB (c + 5) := hS10.put zM
      have fr11 : Fr st SA H (upd H10 M (.lst ((ws.map V.str).set r2.toNat (.str o)))) := (fr9'.trans fr10).put fM0
      generalize upd H10 M (.lst ((ws.map V.str).set r2.toNat (.str o))) = H11 at *
      have Wset := Wt_set (l := o) (ls := ws) (k := r2.toNat)
      have sw := sum_wt (ws.set r2.toNat o)
      have okj : Okt (Txt.join (Str.ofString " ") (ws.set r2.toNat o)) := .join oks fun x hx => (mem_set hx).elim (okw x) fun e => by rw [e]; exact oo.2
      have jl := txt_join_len js (ws.set r2.toNat o)
      refine ⟨⟨_, rfl⟩, _, rfl, _, M, ws.set r2.toNat o, rfl, rfl, .inl (SqL.of eM11), by rw [js, Nat.mul_one]; omega, ?_⟩
      generalize Txt.join (Str.ofString " ") (ws.set r2.toNat o) = x at *
      refine ⟨_, rfl, _, rfl, L, _, _, _, rfl, rfl, eL11, ixN_of k0 (by rw [List.length_map]; exact k1), ?_⟩
      have Wset2 := Wt_set (l := x) (ls := ls) (k := kk.toNat)
      have sw2 := sum_wt (ls.set kk.toNat x)
      have jl2 := txt_join_len jn (ls.set kk.toNat x)
      refine ⟨⟨_, rfl⟩, _, rfl, _, L, ls.set kk.toNat x, rfl, rfl, .inl (SqL.of (by rw [upd_same, List.map_set])), by rw [jn, Nat.mul_one]; omega, ?_⟩
      exact q _ _ ((hS11.put zL).mono (by omega)) (fr11.put fL0) (by omega) (.join okn fun y hy => (mem_set hy).elim (ok0 y) fun e => by rw [e]; exact okj)
    · rw [decide_eq_false z5]
      refine iteF ?_
      have lml : (ls.map V.str).length = ls.length := List.length_map ..
      have eL := eL4
      have g : Same H4 H4 := Same.refl _
      refine ⟨_, rfl, _, rfl, kk, rfl, L, _, rfl, SqL.of eL, fun A1 hA1 => ?_⟩
      rw [cut_toG k0, ← List.map_take]
      have wA1 := same_upd (o := .lst ((ls.take kk.toNat).map V.str)) hA1
      have eA1n : (upd H4 A1 (.lst ((ls.take kk.toNat).map V.str))) A1 = some (.lst ((ls.take kk.toNat).map V.str)) := upd_same
      have eLn := wA1 _ _ eL
      have gn := g.trans wA1
      generalize upd H4 A1 (.lst ((ls.take kk.toNat).map V.str)) = J1 at *
      clear eL g
      have eL := eLn
      have eA1 := eA1n
      have g := gn
      clear eLn eA1n gn wA1 hA1
      refine ⟨_, rfl, _, rfl, kk, rfl, _, rfl, _, _, rfl, rfl, kk + 2, rfl, L, _, rfl, SqL.of eL, fun A2 hA2 => ?_⟩
      rw [cut_two k0 (by rw [List.length_map]; exact k1), ← List.map_drop, ← List.map_take]
      have wA2 := same_upd (o := .lst (((ls.drop kk.toNat).take 2).map V.str)) hA2
      have eA2n : (upd J1 A2 (.lst (((ls.drop kk.toNat).take 2).map V.str))) A2 = some (.lst (((ls.drop kk.toNat).take 2).map V.str)) := upd_same
      have eLn := wA2 _ _ eL
      have eA1n := wA2 _ _ eA1
      have gn := g.trans wA2
      generalize upd J1 A2 (.lst (((ls.drop kk.toNat).take 2).map V.str)) = J2 at *
      clear eL eA1 g
      have eL := eLn
      have eA1 := eA1n
      have eA2 := eA2n
      have g := gn
      clear eLn eA1n eA2n gn wA2 hA2
      refine ⟨A2, _, rfl, SqL.of eA2, fun A3 hA3 => ?_⟩
      rw [← List.map_reverse]
      have wA3 := same_upd (o := .lst ((((ls.drop kk.toNat).take 2).reverse).map V.str)) hA3
      have eA3n : (upd J2 A3 (.lst ((((ls.drop kk.toNat).take 2).reverse).map V.str))) A3 = some (.lst ((((ls.drop kk.toNat).take 2).reverse).map V.str)) := upd_same
      have eLn := wA3 _ _ eL
      have eA1n := wA3 _ _ eA1
      have eA2n := wA3 _ _ eA2
      have gn := g.trans wA3
      generalize upd J2 A3 (.lst ((((ls.drop kk.toNat).take 2).reverse).map V.str)) = J3 at *
      clear eL eA1 eA2 g
      have eL := eLn
      have eA1 := eA1n
      have eA2 := eA2n
      have eA3 := eA3n
      have g := gn
      clear eLn eA1n eA2n eA3n gn wA3 hA3
      clear eA2
      refine ⟨A1, A3, _, _, rfl, rfl, eA1, eA3, by simp only [List.length_map, List.length_append, List.length_take, List.length_drop, List.length_reverse]; omega, fun A4 hA4 => ?_⟩
      rw [← List.map_append]
      have wA4 := same_upd (o := .lst ((ls.take kk.toNat ++ ((ls.drop kk.toNat).take 2).reverse).map V.str)) hA4
      have eA4n : (upd J3 A4 (.lst ((ls.take kk.toNat ++ ((ls.drop kk.toNat).take 2).reverse).map V.str))) A4 = some (.lst ((ls.take kk.toNat ++ ((ls.drop kk.toNat).take 2).reverse).map V.str)) := upd_same
      have eLn := wA4 _ _ eL
      have eA1n := wA4 _ _ eA1
      have eA3n := wA4 _ _ eA3
      have gn := g.trans wA4
      generalize upd J3 A4 (.lst ((ls.take kk.toNat ++ ((ls.drop kk.toNat).take 2).reverse).map V.str)) = J4 at *
      clear eL eA1 eA3 g
      have eL := eLn
      have eA1 := eA1n
      have eA3 := eA3n
      have eA4 := eA4n
      have g := gn
      clear eLn eA1n eA3n eA4n gn wA4 hA4
      clear eA1
      clear eA3
      refine ⟨_, rfl, _, rfl, _, _, rfl, rfl, kk + 2, rfl, L, _, rfl, SqL.of eL, fun A5 hA5 => ?_⟩
      rw [cut_fromG (by omega), ← List.map_drop]
      have wA5 := same_upd (o := .lst ((ls.drop (kk + 2).toNat).map V.str)) hA5
      have eA5n : (upd J4 A5 (.lst ((ls.drop (kk + 2).toNat).map V.str))) A5 = some (.lst ((ls.drop (kk + 2).toNat).map V.str)) := upd_same
      have eLn := wA5 _ _ eL
      have eA4n := wA5 _ _ eA4
      have gn := g.trans wA5
      generalize upd J4 A5 (.lst ((ls.drop (kk + 2).toNat).map V.str)) = J5 at *
      clear eL eA4 g
      have eL := eLn
      have eA4 := eA4n
      have eA5 := eA5n
      have g := gn
      clear eLn eA4n eA5n gn wA5 hA5
      refine ⟨A4, A5, _, _, rfl, rfl, eA4, eA5, by simp only [List.length_map, List.length_append, List.length_take, List.length_drop, List.length_reverse]; omega, fun A6 hA6 => ?_⟩
      rw [← List.map_append]
      have wA6 := same_upd (o := .lst (((ls.take kk.toNat ++ ((ls.drop kk.toNat).take 2).reverse) ++ ls.drop (kk + 2).toNat).map V.str)) hA6
      have eA6n : (upd J5 A6 (.lst (((ls.take kk.toNat ++ ((ls.drop kk.toNat).take 2).reverse) ++ ls.drop (kk + 2).toNat).map V.str))) A6 = some (.lst (((ls.take kk.toNat ++ ((ls.drop kk.toNat).take 2).reverse) ++ ls.drop (kk + 2).toNat).map V.str)) := upd_same
      have eLn := wA6 _ _ eL
      have eA4n := wA6 _ _ eA4
      have eA5n := wA6 _ _ eA5
      have gn := g.trans wA6
      generalize upd J5 A6 (.lst (((ls.take kk.toNat ++ ((ls.drop kk.toNat).take 2).reverse) ++ ls.drop (kk + 2).toNat).map V.str)) = J6 at *
      clear eL eA4 eA5 g
      have eL := eLn
      have eA4 := eA4n
      have eA5 := eA5n
      have eA6 := eA6n
      have g := gn
      clear eLn eA4n eA5n eA6n gn wA6 hA6
      clear eA4
      clear eA5
      refine ⟨_, rfl, _, rfl, kk, rfl, L, _, rfl, SqL.of eL, fun B1 hB1 => ?_⟩
      rw [cut_toG k0, ← List.map_take]
      have wB1 := same_upd (o := .lst ((ls.take kk.toNat).map V.str)) hB1
      have eB1n : (upd J6 B1 (.lst ((ls.take kk.toNat).map V.str))) B1 = some (.lst ((ls.take kk.toNat).map V.str)) := upd_same
      have eLn := wB1 _ _ eL
      have eA6n := wB1 _ _ eA6
      have gn := g.trans wB1
      generalize upd J6 B1 (.lst ((ls.take kk.toNat).map V.str)) = J7 at *
      clear eL eA6 g
      have eL := eLn
      have eA6 := eA6n
      have eB1 := eB1n
      have g := gn
      clear eLn eA6n eB1n gn wB1 hB1
      refine ⟨_, rfl, _, rfl, _, _, rfl, rfl, kk + 1, rfl, L, _, rfl, SqL.of eL, fun B2 hB2 => ?_⟩
      rw [cut_fromG (by omega), ← List.map_drop]
      have wB2 := same_upd (o := .lst ((ls.drop (kk + 1).toNat).map V.str)) hB2
      have eB2n : (upd J7 B2 (.lst ((ls.drop (kk + 1).toNat).map V.str))) B2 = some (.lst ((ls.drop (kk + 1).toNat).map V.str)) := upd_same
      have eLn := wB2 _ _ eL
      have eA6n := wB2 _ _ eA6
      have eB1n := wB2 _ _ eB1
      have gn := g.trans wB2
      generalize upd J7 B2 (.lst ((ls.drop (kk + 1).toNat).map V.str)) = J8 at *
      clear eL eA6 eB1 g
      have eL := eLn
      have eA6 := eA6n
      have eB1 := eB1n
      have eB2 := eB2n
      have g := gn
      clear eLn eA6n eB1n eB2n gn wB2 hB2
      refine ⟨B1, B2, _, _, rfl, rfl, eB1, eB2, by simp only [List.length_map, List.length_append, List.length_take, List.length_drop, List.length_reverse]; omega, fun B3 hB3 => ?_⟩
      rw [← List.map_append]
      have wB3 := same_upd (o := .lst ((ls.take kk.toNat ++ ls.drop (kk + 1).toNat).map V.str)) hB3
      have eB3n : (upd J8 B3 (.lst ((ls.take kk.toNat ++ ls.drop (kk + 1).toNat).map V.str))) B3 = some (.lst ((ls.take kk.toNat ++ ls.drop (kk + 1).toNat).map V.str)) := upd_same
      have eLn := wB3 _ _ eL
      have eA6n := wB3 _ _ eA6
      have eB1n := wB3 _ _ eB1
      have eB2n := wB3 _ _ eB2
      have gn := g.trans wB3
      generalize upd J8 B3 (.lst ((ls.take kk.toNat ++ ls.drop (kk + 1).toNat).map V.str)) = J9 at *
      clear eL eA6 eB1 eB2 g
      have eL := eLn
      have eA6 := eA6n
      have eB1 := eB1n
      have eB2 := eB2n
      have eB3 := eB3n
      have g := gn
      clear eLn eA6n eB1n eB2n eB3n gn wB3 hB3
      clear eB1
      clear eB2
      refine ⟨_, rfl, _, rfl, _, _, rfl, rfl, kk + 1, rfl, L, _, rfl, SqL.of eL, fun C1 hC1 => ?_⟩
      rw [cut_toG (by omega), ← List.map_take]
      have wC1 := same_upd (o := .lst ((ls.take (kk + 1).toNat).map V.str)) hC1
      have eC1n : (upd J9 C1 (.lst ((ls.take (kk + 1).toNat).map V.str))) C1 = some (.lst ((ls.take (kk + 1).toNat).map V.str)) := upd_same
      have eLn := wC1 _ _ eL
      have eA6n := wC1 _ _ eA6
      have eB3n := wC1 _ _ eB3
      have gn := g.trans wC1
      generalize upd J9 C1 (.lst ((ls.take (kk + 1).toNat).map V.str)) = J10 at *
      clear eL eA6 eB3 g
      have eL := eLn
      have eA6 := eA6n
      have eB3 := eB3n
      have eC1 := eC1n
      have g := gn
      clear eLn eA6n eB3n eC1n gn wC1 hC1
      refine ⟨_, rfl, _, rfl, kk, rfl, L, _, rfl, SqL.of eL, fun C2 hC2 => ?_⟩
      rw [cut_fromG k0, ← List.map_drop]
      have wC2 := same_upd (o := .lst ((ls.drop kk.toNat).map V.str)) hC2
      have eC2n : (upd J10 C2 (.lst ((ls.drop kk.toNat).map V.str))) C2 = some (.lst ((ls.drop kk.toNat).map V.str)) := upd_same
      have eLn := wC2 _ _ eL
      have eA6n := wC2 _ _ eA6
      have eB3n := wC2 _ _ eB3
      have eC1n := wC2 _ _ eC1
      have gn := g.trans wC2
      generalize upd J10 C2 (.lst ((ls.drop kk.toNat).map V.str)) = J11 at *
      clear eL eA6 eB3 eC1 g
      have eL := eLn
      have eA6 := eA6n
      have eB3 := eB3n
      have eC1 := eC1n
      have eC2 := eC2n
      have g := gn
      clear eLn eA6n eB3n eC1n eC2n gn wC2 hC2
      refine ⟨C1, C2, _, _, rfl, rfl, eC1, eC2, by simp only [List.length_map, List.length_append, List.length_take, List.length_drop, List.length_reverse]; omega, fun C3 hC3 => ?_⟩
      rw [← List.map_append]
      have wC3 := same_upd (o := .lst ((ls.take (kk + 1).toNat ++ ls.drop kk.toNat).map V.str)) hC3
      have eC3n : (upd J11 C3 (.lst ((ls.take (kk + 1).toNat ++ ls.drop kk.toNat).map V.str))) C3 = some (.lst ((ls.take (kk + 1).toNat ++ ls.drop kk.toNat).map V.str)) := upd_same
      have eLn := wC3 _ _ eL
      have eA6n := wC3 _ _ eA6
      have eB3n := wC3 _ _ eB3
      have eC1n := wC3 _ _ eC1
      have eC2n := wC3 _ _ eC2
      have gn := g.trans wC3
      generalize upd J11 C3 (.lst ((ls.take (kk + 1).toNat ++ ls.drop kk.toNat).map V.str)) = J12 at *
      clear eL eA6 eB3 eC1 eC2 g
      have eL := eLn
      have eA6 := eA6n
      have eB3 := eB3n
      have eC1 := eC1n
      have eC2 := eC2n
      have eC3 := eC3n
      have g := gn
      clear eLn eA6n eB3n eC1n eC2n eC3n gn wC3 hC3
      clear eC1
      clear eC2
      refine ⟨_, rfl, _, rfl, _, rfl, kk, rfl, L, _, rfl, SqL.of eL, fun D1 hD1 => ?_⟩
      rw [cut_fromG k0, ← List.map_drop]
      have wD1 := same_upd (o := .lst ((ls.drop kk.toNat).map V.str)) hD1
      have eD1n : (upd J12 D1 (.lst ((ls.drop kk.toNat).map V.str))) D1 = some (.lst ((ls.drop kk.toNat).map V.str)) := upd_same
      have eLn := wD1 _ _ eL
      have eA6n := wD1 _ _ eA6
      have eB3n := wD1 _ _ eB3
      have eC3n := wD1 _ _ eC3
      have gn := g.trans wD1
      generalize upd J12 D1 (.lst ((ls.drop kk.toNat).map V.str)) = J13 at *
      clear eL eA6 eB3 eC3 g
      have eL := eLn
      have eA6 := eA6n
      have eB3 := eB3n
      have eC3 := eC3n
      have eD1 := eD1n
      have g := gn
      clear eLn eA6n eB3n eC3n eD1n gn wD1 hD1
      refine ⟨_, rfl, _, rfl, kk, rfl, L, _, rfl, SqL.of eL, fun D2 hD2 => ?_⟩
      rw [cut_toG k0, ← List.map_take]
      have wD2 := same_upd (o := .lst ((ls.take kk.toNat).map V.str)) hD2
      have eD2n : (upd J13 D2 (.lst ((ls.take kk.toNat).map V.str))) D2 = some (.lst ((ls.take kk.toNat).map V.str)) := upd_same
      have eLn := wD2 _ _ eL
      have eA6n := wD2 _ _ eA6
      have eB3n := wD2 _ _ eB3
      have eC3n := wD2 _ _ eC3
      have eD1n := wD2 _ _ eD1
      have gn := g.trans wD2
      generalize upd J13 D2 (.lst ((ls.take kk.toNat).map V.str)) = J14 at *
      clear eL eA6 eB3 eC3 eD1 g
      have eL := eLn
      have eA6 := eA6n
      have eB3 := eB3n
      have eC3 := eC3n
      have eD1 := eD1n
      have eD2 := eD2n
      have g := gn
      clear eLn eA6n eB3n eC3n eD1n eD2n gn wD2 hD2
      refine ⟨D1, D2, _, _, rfl, rfl, eD1, eD2, by simp only [List.length_map, List.length_append, List.length_take, List.length_drop, List.length_reverse]; omega, fun D3 hD3 => ?_⟩
      rw [← List.map_append]
      have wD3 := same_upd (o := .lst ((ls.drop kk.toNat ++ ls.take kk.toNat).map V.str)) hD3
      have eD3n : (upd J14 D3 (.lst ((ls.drop kk.toNat ++ ls.take kk.toNat).map V.str))) D3 = some (.lst ((ls.drop kk.toNat ++ ls.take kk.toNat).map V.str)) := upd_same
      have eLn := wD3 _ _ eL
      have eA6n := wD3 _ _ eA6
      have eB3n := wD3 _ _ eB3
      have eC3n := wD3 _ _ eC3
      have eD1n := wD3 _ _ eD1
      have eD2n := wD3 _ _ eD2
      have gn := g.trans wD3
      generalize upd J14 D3 (.lst ((ls.drop kk.toNat ++ ls.take kk.toNat).map V.str)) = J15 at *
      clear eL eA6 eB3 eC3 eD1 eD2 g
      have eL := eLn
      have eA6 := eA6n
      have eB3 := eB3n
      have eC3 := eC3n
      have eD1 := eD1n
      have eD2 := eD2n
      have eD3 := eD3n
      have g := gn
      clear eLn eA6n eB3n eC3n eD1n eD2n eD3n gn wD3 hD3
      clear eD1
      clear eD2
      refine ⟨by show 4 ≤ sizeLine; omega, fun G hG => ?_⟩
      have wG := same_upd (o := .lst [.ref B3, .ref C3, .ref A6, .ref D3]) hG
      have eG : (upd J15 G (.lst [.ref B3, .ref C3, .ref A6, .ref D3])) G = some (.lst [.ref B3, .ref C3, .ref A6, .ref D3]) := upd_same
      have eA6 := wG _ _ eA6
      have eB3 := wG _ _ eB3
      have eC3 := wG _ _ eC3
      have eD3 := wG _ _ eD3
      have g := g.trans wG
      generalize upd J15 G (.lst [.ref B3, .ref C3, .ref A6, .ref D3]) = JJ at *
      have Wa := Wt_take ls kk.toNat
      have Wb := Wt_take (ls.drop kk.toNat) 2
      have Wc := Wt_take ls (kk + 1).toNat
      rw [List.drop_drop, show kk.toNat + 2 = (kk + 2).toNat by omega] at Wb
      have Wd := Wt_take (ls.drop kk.toNat) 1
      rw [List.drop_drop, show kk.toNat + 1 = (kk + 1).toNat by omega] at Wd
      have key : ∃ (a : Addr) (xs : List Str), atI [V.ref B3, .ref C3, .ref A6, .ref D3] (ch - 5) = some (.ref a) ∧ JJ a = some (.lst (xs.map V.str)) ∧ Wt xs ≤ 2 * t.length + 2 ∧ ∀ x ∈ xs, x ∈ ls := by
        have : ch = 5 ∨ ch = 6 ∨ ch = 7 ∨ ch = 8 := by omega
        rcases this with rfl | rfl | rfl | rfl
        · exact ⟨_, _, atI0, eB3, by rw [Wt_app]; omega, fun x hx => (List.mem_append.mp hx).elim List.mem_of_mem_take List.mem_of_mem_drop⟩
        · exact ⟨_, _, atI1, eC3, by rw [Wt_app]; omega, fun x hx => (List.mem_append.mp hx).elim List.mem_of_mem_take List.mem_of_mem_drop⟩
        · exact ⟨_, _, atI_nat (j := 2) rfl, eA6, by rw [Wt_app, Wt_app, Wt_rev]; omega, fun x hx => (List.mem_append.mp hx).elim (fun m => (List.mem_append.mp m).elim List.mem_of_mem_take fun m => List.mem_of_mem_drop (List.mem_of_mem_take (List.mem_reverse.mp m))) List.mem_of_mem_drop⟩
        · exact ⟨_, _, atI_nat (j := 3) rfl, eD3, by rw [Wt_app]; omega, fun x hx => (List.mem_append.mp hx).elim List.mem_of_mem_drop List.mem_of_mem_take⟩
      obtain ⟨a, xs, ata, ea, wx, mx⟩ := key
      refine ⟨_, rfl, _, rfl, _, _, rfl, rfl, G, _, _, _, rfl, rfl, SqL.of eG, ata, ?_⟩
      have sw := sum_wt xs
      have jl := txt_join_len jn xs
      refine ⟨⟨_, rfl⟩, _, rfl, _, a, xs, rfl, rfl, .inl (SqL.of ea), by rw [jn, Nat.mul_one]; omega, ?_⟩
      exact q _ _ ((hS4.same g).mono (by omega)) (fr4.trans (Fr.of g)) (by omega) (.join okn fun y hy => ok0 y (mx y hy))
def spStab : Sp := fun vs H Q _ => ∃ (kd : Int) (h : Addr) (n : Int) (D : List (Int × Int)) (t : Str), vs = [.int kd, .ref h, .str t] ∧ HouseAt H h n D ∧ n ≤ 8 ∧ t.length ≤ 1000 ∧ Okt t ∧ ∀ H', Same H H' → Q (.bl true) H'
theorem ne_val : decide (V.str (Str.ofString "value") = V.str (Str.ofString "InvalidText")) = false := by decide +kernel
abbrev nLStab : List Str := ["_law_kind", "_law_house_here", "_law_text", "_law_word", "_law_found"]
theorem scLStab : FnScope nLStab ["_law_kind", "_law_house_here", "_law_text"] (defScope sLStab) := ⟨rfl, rfl, rfl, by decide +kernel, rfl, by decide +kernel, by decide +kernel⟩
theorem ok_stab {f : Addr} {fd : FuncData} {k : Nat} (F : Fun K "_law_text_stable" "_law_text_stable" sLStab f fd) (C_law_parse_outcome : Cal P w K mg base k "_law_parse_outcome" ["_law_kind", "_law_house_here", "_law_text"] (spPO K)) (Cformat_house : Cal P w K mg base k "format_house" ["house"] (spFmtH K)) (Cformat_placement : Cal P w K mg base k "format_placement" ["placement", "target"] spFmtP) (Cis_house : Cal P w K mg base k "is_house" ["value"] (spHouseA K)) (Cis_placement : Cal P w K mg base k "is_placement" pIsRoom (spIsPlA K)) (Cis_target : Cal P w K mg base k "is_target" ["house", "placement", "value"] (spIsTgA K)) : FnOk P w K mg base CX0 (k + 1) f fd ["_law_kind", "_law_house_here", "_law_text"] spStab := by
  refine F.ok scLStab (fun vs H Q E h => ?_) (fun cdv A outer s H vs Q E hr h => ?_)
  · obtain ⟨kd, h, n, D, t, rfl, _⟩ := h
    rfl
  · obtain ⟨kd, h, n, D, t, rfl, hH, n8, lt, ok, q⟩ := h
    refine ⟨_, (pss_cons (ps_asg (pe_cal C_law_parse_outcome hr (by rfl) (pa_cons (pv 0) (pa_cons (pv 1) (pa_cons (pv 2) pa_nil)))) (pg_tup (by rfl) (pgs_cons (pg_name (i := 3) scLStab.nd rfl (.inl rfl)) (pgs_cons (pg_name (i := 4) scLStab.nd rfl (.inl rfl)) pgs_nil))))
      (pss_cons (ps_if (pt_cmpR op_eq (pv 3) pe_str (nomark _))
      (pss_one (ps_ret pe_bl))
      pss_nil)
      (pss_cons (ps_if (pt_cmpR op_eq (pv 0) pe_int (nomark _))
      (pss_one (ps_ret (pe_and (pe_cmpR op_eq (pv 3) pe_str (nomark _)) (pe_and (pe_cmpR op_eq (pe_cal Cformat_house hr (by rfl) (pa_cons (pv 4) pa_nil)) (pv 2) (nomark _)) (pe_one (pe_cmpR op_is_bl (pe_cal Cis_house hr (by rfl) (pa_cons (pv 4) pa_nil)) pe_bl (nomark _)))))))
      pss_nil)
      (pss_cons (ps_if (PW.pt (pw_or (pt_cmpR op_ne (pv 3) pe_str (nomark _)) (pw_or1 (pt_cmpR op_ne (pe_cal Cformat_placement hr (by rfl) (pa_cons (pe_ix (ix_tupK K rfl) (pv 4) pe_int (fun _ _ => rfl)) (pa_cons (pe_ix (ix_tupK K rfl) (pv 4) pe_int (fun _ _ => rfl)) pa_nil))) (pv 2) (nomark _)))))
      (pss_one (ps_ret pe_bl))
      pss_nil)
      (pss_one (ps_ret (pe_and (pe_cmpR op_is_bl (pe_cal Cis_placement hr (by rfl) (pa_cons (pv 1) (pa_cons (pe_ix (ix_tupK K rfl) (pv 4) pe_int (fun _ _ => rfl)) pa_nil))) pe_bl (nomark _)) (pe_one (pe_cmpR op_is_bl (pe_cal Cis_target hr (by rfl) (pa_cons (pv 1) (pa_cons (pe_ix (ix_tupK K rfl) (pv 4) pe_int (fun _ _ => rfl)) (pa_cons (pe_ix (ix_tupK K rfl) (pv 4) pe_int (fun _ _ => rfl)) pa_nil)))) pe_bl (nomark _)))))))))), ?_⟩
    refine ⟨_, rfl, _, rfl, _, rfl, kd, h, n, D, t, rfl, hH, lt, ok, fun z => ⟨fun o ho H1 u v s1 eu hv => ?_, fun i hi H1 u s1 eu => ?_⟩, fun z => ⟨fun x hx H1 u w p g s1 eu ew ep eg => ?_, fun i hi H1 u s1 eu => ?_⟩⟩
    · obtain ⟨n', D', rfl, et, m1, m8, f⟩ := parH_inv ho
      obtain ⟨h', rfl, hq, _⟩ := hv
      refine ⟨u, _, rfl, SqT.of eu, rfl, _, _, rfl, _, _, rfl, rfl, ?_⟩
      refine ⟨_, rfl, rfl, _, rfl, ?_⟩
      rw [ne_val]
      refine iteF ?_
      refine ⟨_, rfl, rfl, _, rfl, ?_⟩
      rw [decide_eq_true (by rw [z])]
      refine iteT ?_
      refine ⟨_, rfl, rfl, ?_⟩
      rw [decide_eq_true rfl]
      refine ⟨true, rfl, iteT ?_⟩
      refine ⟨_, rfl, h', n', D', rfl, hq, f, m1, m8, fun H2 s2 => ⟨_, rfl, rfl, ?_⟩⟩
      rw [decide_eq_true (by rw [et])]
      refine ⟨true, rfl, iteT ?_⟩
      refine ⟨_, rfl, .ref h', hsd n' D', 0, 3, 60, rfl, (hq.same s2).dxy, hsd_gdy f m1 m8, by decide, fun H3 s3 => ⟨_, _, rfl, rfl, ?_⟩⟩
      rw [hsB_iff.mpr ⟨n', D', rfl, m1, m8, f⟩]
      exact q _ (s1.trans (s2.trans s3))
    · refine ⟨u, _, rfl, SqT.of eu, rfl, _, _, rfl, _, _, rfl, rfl, ?_⟩
      refine ⟨_, rfl, rfl, _, rfl, ?_⟩
      rw [decide_eq_true rfl]
      exact iteT (q _ s1)
    · obtain ⟨et, en, k1, k2⟩ := parP_inv hx
      obtain ⟨pl1, l1⟩ := pl_of_plB k1
      obtain ⟨pl2, l2⟩ := pl_of_plB k2
      refine ⟨u, _, rfl, SqT.of eu, rfl, _, _, rfl, _, _, rfl, rfl, ?_⟩
      refine ⟨_, rfl, rfl, _, rfl, ?_⟩
      rw [ne_val]
      refine iteF ?_
      refine ⟨_, rfl, rfl, _, rfl, ?_⟩
      rw [decide_eq_false fun y => z (V.int.inj y)]
      refine iteF ?_
      refine ⟨_, rfl, rfl, _, rfl, ?_⟩
      rw [decide_eq_true rfl]
      refine iteF ?_
      have b1 : ∀ y ∈ x.1, y.1.length ≤ 20 ∧ 0 ≤ y.2 ∧ y.2 < 10 := fun y hy => by
        have r := pl1.rm y hy
        have z := (pl1.nm.nam y.1 (List.mem_map_of_mem (f := (·.1)) hy)).2.1
        omega
      have b2 : ∀ y ∈ x.2, 0 ≤ y.2 ∧ y.2 < 10 := fun y hy => by
        have r := pl2.rm y hy
        omega
      refine ⟨_, rfl, w, _, _, _, rfl, rfl, SqT.of ew, atI0, _, rfl, w, _, _, _, rfl, rfl, SqT.of ew, atI1, p, g, x.1, x.2, rfl, ep, eg, en, pl1.nodup, b1, b2, by omega, fun H2 s2 => ⟨_, rfl, rfl, _, rfl, ?_⟩⟩
      rw [decide_eq_true (by rw [et])]
      refine iteF ?_
      have ew2 := s2 _ _ ew
      have s12 := s1.trans s2
      refine ⟨_, rfl, _, rfl, w, _, _, _, rfl, rfl, SqT.of ew2, atI0, h, n, D, .ref p, pld x.1, _, _, _, rfl, hH.same s12, (ep.same s2).dxz, Gd.tup (wds_gd (pl1.wdz n8)), by omega, fun H3 s3 => ⟨_, _, rfl, rfl, ?_⟩⟩
      rw [k1]
      refine ⟨true, rfl, iteT ?_⟩
      have ew3 := s3 _ _ ew2
      have s23 := s2.trans s3
      have s13 := s1.trans s23
      refine ⟨_, rfl, _, rfl, w, _, _, _, rfl, rfl, SqT.of ew3, atI0, _, rfl, w, _, _, _, rfl, rfl, SqT.of ew3, atI1, h, p, n, D, x.1, .ref g, pld x.2, _, _, _, rfl, hH.same s13, ep.same s23, by omega, fun y hy => pl1.nm.nam y.1 (List.mem_map_of_mem (f := (·.1)) hy), (eg.same s23).dxz, Gd.tup (wds_gd (pl2.wdz n8)), by omega, fun H4 s4 => ⟨_, _, rfl, rfl, ?_⟩⟩
      have tg : tgB n (x.1.map (·.1)) (pld x.2) = true := by
        unfold tgB
        rw [k2, Bool.true_and]
        exact @decide_eq_true _ (Classical.propDecidable _) ⟨x.2, rfl, en⟩
      rw [tg]
      exact q _ (s13.trans s4)
    · refine ⟨u, _, rfl, SqT.of eu, rfl, _, _, rfl, _, _, rfl, rfl, ?_⟩
      refine ⟨_, rfl, rfl, _, rfl, ?_⟩
      rw [decide_eq_true rfl]
      exact iteT (q _ s1)
end
end Fw
set_option maxHeartbeats 2000000
namespace Fw
open TL
open PySem PySem.Spec PyProof.Rows L2
/-! valid texts -/
theorem nam_nmOk {z : Str} (h : Nam z) : nmOk z = true := by
  unfold nmOk letr
  have l := h.2.1
  rw [decide_eq_true (show 1 ≤ z.length ∧ z.length ≤ 8 from ⟨h.1, by omega⟩), Bool.true_and, List.all_eq_true]
  intro c hc
  exact decide_eq_true (h.2.2 c hc)
theorem forest_take {n : Int} {D : List (Int × Int)} (f : Forest n D) (n8 : n ≤ 8) : ∀ i, Forest n (D.take i)
  | 0 => forest_nil n8
  | i + 1 => by
    have ih := forest_take f n8 i
    cases e : D[i]? with
    | none =>
      rw [List.take_add_one, e]
      simpa using ih
    | some x =>
      obtain ⟨a, b⟩ := x
      have en := f.ends (a := a) (b := b) (List.mem_of_getElem? e)
      exact forest_step f.up e ih en.1 en.2.1 (by omega) fun p sp => forest_way e sp f
theorem sp_ns {i : Int} (h0 : 0 ≤ i) (h1 : i < 10) : 32 ∉ tl (ns i) := by
  rw [tl_ns h0 h1]
  simp
  omega
theorem hwl_first {n : Int} (n1 : 1 ≤ n) (n8 : n ≤ 8) : hwl none (hline n) = some (n, []) := by
  unfold hwl hline jw
  rw [split_ws (by simp) fun w hw => ?_]
  · have d := digB_ns (i := n) (by omega) (by omega)
    have : hwD none ["rooms", ns n] = hsd n [] := by
      unfold hwD nums
      rw [if_pos (by show (digB (ns n) && true) = true; rw [d.1]; rfl)]
      show (if (some (Str.ofString "rooms")) = some (Str.ofString "rooms") then PyData.tuple ([PyData.int (dv (ns n))] ++ [.tuple []]) else _) = _
      rw [if_pos rfl, d.2]
      rfl
    rw [this, rdH_some n1 n8 (forest_nil n8)]
  · simp only [List.mem_cons, List.not_mem_nil, or_false] at hw
    rcases hw with rfl | rfl
    · rw [tl_rooms]
      decide
    · exact sp_ns (by omega) (by omega)
theorem hwl_door {n a b : Int} {D : List (Int × Int)} (n1 : 1 ≤ n) (n8 : n ≤ 8) (f : Forest n (D ++ [(a, b)])) : hwl (some (n, D)) (dline (a, b)) = some (n, D ++ [(a, b)]) := by
  have en := f.ends (a := a) (b := b) (by simp)
  unfold hwl dline jw
  rw [split_ws (by simp) fun w hw => ?_]
  · have d1 := digB_ns (i := a) (by omega) (by omega)
    have d2 := digB_ns (i := b) (by omega) (by omega)
    have : hwD (some (n, D)) ["door", ns a, ns b] = hsd n (D ++ [(a, b)]) := by
      unfold hwD nums
      rw [if_pos (by show (digB (ns a) && (digB (ns b) && true)) = true; rw [d1.1, d2.1]; rfl)]
      show (if (some (Str.ofString "door")) = some (Str.ofString "door") then PyData.tuple [.int n, .tuple (D.map drd ++ [.tuple [.int (dv (ns a)), .int (dv (ns b))]])] else _) = _
      rw [if_pos rfl, d1.2, d2.2]
      unfold hsd
      rw [List.map_append]
      rfl
    rw [this, rdH_some n1 n8 f]
  · simp only [List.mem_cons, List.not_mem_nil, or_false] at hw
    rcases hw with rfl | rfl | rfl
    · rw [tl_door]
      decide
    · exact sp_ns (by omega) (by omega)
    · exact sp_ns (by omega) (by omega)
theorem goH_doors {n : Int} (n1 : 1 ≤ n) (n8 : n ≤ 8) : ∀ (D2 D1 : List (Int × Int)) (i : Nat), Forest n (D1 ++ D2) → goH i (some (n, D1)) (D2.map dline) = .inl (some (n, D1 ++ D2))
  | [], D1, i, _ => by
    rw [List.append_nil]
    rfl
  | (a, b) :: D2, D1, i, f => by
    have f1 : Forest n (D1 ++ [(a, b)]) := by
      have := forest_take f n8 (D1.length + 1)
      rwa [show (D1 ++ (a, b) :: D2).take (D1.length + 1) = D1 ++ [(a, b)] by rw [List.take_append, List.take_of_length_le (Nat.le_succ _), show D1.length + 1 - D1.length = 1 by omega]; rfl] at this
    have e : D1 ++ (a, b) :: D2 = (D1 ++ [(a, b)]) ++ D2 := by simp
    rw [List.map_cons, goH, hwl_door n1 n8 f1, e]
    rw [e] at f
    exact goH_doors n1 n8 D2 _ _ f
theorem hls_free {n : Int} {D : List (Int × Int)} (f : Forest n D) (n1 : 1 ≤ n) (n8 : n ≤ 8) : ∀ l ∈ hls n D, 10 ∉ tl l := fun l hl => by
  rcases List.mem_cons.mp hl with rfl | m
  · exact hline_free (by omega) (by omega)
  · obtain ⟨x, hx, rfl⟩ := List.mem_map.mp m
    have := f.ends (a := x.1) (b := x.2) hx
    exact dline_free (by omega)
theorem parH_txt {n : Int} {D : List (Int × Int)} (f : Forest n D) (n1 : 1 ≤ n) (n8 : n ≤ 8) : parH (txt (hls n D)) = .inl (some (n, D)) := by
  unfold parH
  rw [lns_txt (hls_free f n1 n8)]
  have : goH 0 none (hls n D) = .inl (some (n, D)) := by
    unfold hls
    rw [goH, hwl_first n1 n8]
    exact goH_doors n1 n8 D [] 1 f
  rw [this]
  show (if Txt.endswith (txt (hls n D)) "\n" = true then _ else _) = _
  rw [if_pos (ends_txt (by unfold hls; simp))]
theorem Nam.free {z : Str} (h : Nam z) {c : Nat} (hc : c < 97) : c ∉ tl z := fun m => by
  have := h.2.2 c m
  omega
theorem plP_pre {n : Int} {A B : List (Str × Int)} (h : Pl n (A ++ B)) (l : A.length ≤ 12) : plB n (pld A) = true := by
  refine plB_yes ⟨A, rfl, l, fun x hx => ⟨nam_nmOk (h.nm.nam x.1 (List.mem_map_of_mem (f := (·.1)) (List.mem_append.mpr (.inl hx)))), h.rm x (List.mem_append.mpr (.inl hx))⟩, ?_⟩
  have := h.nm.up
  rw [List.map_append, List.pairwise_append] at this
  exact this.1
theorem goP_pls {n : Int} (n8 : n ≤ 8) : ∀ (P2 G2 P1 G1 : List (Str × Int)) (i : Nat), Pl n (P1 ++ P2) → Pl n (G1 ++ G2) → G2.map (·.1) = P2.map (·.1) → (P1 ++ P2).length ≤ 12 → (G1 ++ G2).length ≤ 12 → goP n i (P1, G1) (pls P2 G2) = .inl (P1 ++ P2, G1 ++ G2)
  | [], [], P1, G1, i, _, _, _, _, _ => by
    rw [List.append_nil, List.append_nil]
    rfl
  | (z, a) :: P2, (z', b) :: G2, P1, G1, i, hp, hg, e, l1, l2 => by
    rw [List.map_cons, List.map_cons] at e
    obtain ⟨ez, e⟩ := List.cons.inj e
    have ez : z' = z := ez
    rw [ez] at hg l2 ⊢
    have ep : P1 ++ (z, a) :: P2 = (P1 ++ [(z, a)]) ++ P2 := by simp
    have eg : G1 ++ (z, b) :: G2 = (G1 ++ [(z, b)]) ++ G2 := by simp
    have rz := hp.nm.nam z (by simp)
    have ra : 0 ≤ a ∧ a < n := hp.rm (z, a) (by simp)
    have rb : 0 ≤ b ∧ b < n := hg.rm (z, b) (by simp)
    rw [ep] at hp l1 ⊢
    rw [eg] at hg l2 ⊢
    have d1 := digB_ns (i := a) (by omega) (by omega)
    have d2 := digB_ns (i := b) (by omega) (by omega)
    have st : stepP n (P1, G1) (Txt.split (pline z a b) " ") = some (P1 ++ [(z, a)], G1 ++ [(z, b)]) := by
      unfold pline jw
      rw [split_ws (by simp) fun w hw => ?_]
      · unfold stepP
        show (if (digB (ns a) && digB (ns b) && plB n (pld (P1 ++ [(z, dv (ns a))])) && plB n (pld (G1 ++ [(z, dv (ns b))]))) = true then some (P1 ++ [(z, dv (ns a))], G1 ++ [(z, dv (ns b))]) else none) = _
        rw [d1.1, d2.1, d1.2, d2.2, plP_pre hp (by rw [List.length_append] at l1; omega), plP_pre hg (by rw [List.length_append] at l2; omega), if_pos (by rfl)]
      · simp only [List.mem_cons, List.not_mem_nil, or_false] at hw
        rcases hw with rfl | rfl | rfl
        · exact rz.free (by decide)
        · exact sp_ns (by omega) (by omega)
        · exact sp_ns (by omega) (by omega)
    show goP n i (P1, G1) (pline z a b :: pls P2 G2) = _
    rw [goP, st]
    exact goP_pls n8 P2 G2 _ _ _ hp hg e l1 l2
  | [], _ :: _, _, _, _, _, _, e, _, _ => by cases e
  | _ :: _, [], _, _, _, _, _, e, _, _ => by cases e
theorem pls_free {n : Int} {P G : List (Str × Int)} (n8 : n ≤ 8) (hp : Pl n P) (hg : Pl n G) (e : G.map (·.1) = P.map (·.1)) : ∀ l ∈ pls P G, 10 ∉ tl l ∧ l.length ≤ 12 := fun l hl => by
  obtain ⟨k, hk, rfl⟩ := List.mem_iff_getElem.mp hl
  have hk' : k < P.length := by rw [pls_len e] at hk; exact hk
  have h1 : P[k]? = some (P[k].1, P[k].2) := List.getElem?_eq_getElem hk'
  obtain ⟨b, hb⟩ := same_at e h1
  have h3 := pls_at h1 hb
  rw [List.getElem?_eq_getElem hk] at h3
  rw [Option.some.inj h3]
  have rz := hp.nm.nam P[k].1 (List.mem_map_of_mem (f := (·.1)) (List.getElem_mem hk'))
  have ra := hp.rm P[k] (List.getElem_mem hk')
  have rb : 0 ≤ b ∧ b < n := hg.rm _ (List.mem_of_getElem? hb)
  have l8 := rz.2.1
  refine ⟨?_, by rw [len_pline ⟨ra.1, by omega, rb.1, by omega⟩]; omega⟩
  unfold pline
  rw [tl_jw3, tl_ns ra.1 (by omega), tl_ns rb.1 (by omega)]
  have := rz.free (c := 10) (by decide)
  simp
  exact ⟨fun z => this (by simpa using z), by omega, by omega⟩
theorem parP_txt {n : Int} {P G : List (Str × Int)} (n8 : n ≤ 8) (hp : Pl n P) (hg : Pl n G) (e : G.map (·.1) = P.map (·.1)) (l : P.length ≤ 12) : parP n (txt (pls P G)) = .inl (P, G) := by
  have lg : G.length ≤ 12 := by
    have := congrArg List.length e
    rw [List.length_map, List.length_map] at this
    omega
  unfold parP
  rw [lns_txt fun x hx => (pls_free n8 hp hg e x hx).1, goP_pls n8 P G [] [] 0 hp hg e l lg]
  show (if ((!(pls P G).isEmpty) && !(Txt.endswith (txt (pls P G)) "\n")) = true then _ else _) = _
  rw [if_neg]
  · rfl
  · cases h : pls P G with
    | nil => decide
    | cons x xs =>
      rw [ends_txt (by simp)]
      simp
theorem okd_tup {k : Nat} {ds : List PyData} (l : ds.length ≤ 500) (h : ∀ d ∈ ds, okd k d = true) : okd (k + 1) (.tuple ds) = true := by
  show (decide (ds.length ≤ 500) && ds.all (okd k)) = true
  rw [decide_eq_true l, List.all_eq_true.mpr h]
  rfl
theorem okd_int (k : Nat) (i : Int) : okd k (.int i) = true := by cases k <;> rfl
theorem okd_str (k : Nat) (z : Str) : okd k (.str z) = true := by cases k <;> rfl
theorem okd_hsd {k : Nat} {n : Int} {D : List (Int × Int)} (l : D.length ≤ 100) : okd (k + 3) (hsd n D) = true := by
  refine okd_tup (by show 2 ≤ 500; decide) fun d hd => ?_
  rcases List.mem_cons.mp hd with rfl | hd
  · exact okd_int _ _
  · rw [List.mem_singleton.mp hd]
    refine okd_tup (by rw [List.length_map]; omega) fun d hd => ?_
    obtain ⟨x, _, rfl⟩ := List.mem_map.mp hd
    refine okd_tup (by show 2 ≤ 500; decide) fun d hd => ?_
    rcases List.mem_cons.mp hd with rfl | hd
    · exact okd_int _ _
    · rw [List.mem_singleton.mp hd]
      exact okd_int _ _
theorem okd_pld {k : Nat} {P : List (Str × Int)} (l : P.length ≤ 100) : okd (k + 2) (pld P) = true := by
  refine okd_tup (by rw [List.length_map]; omega) fun d hd => ?_
  obtain ⟨x, _, rfl⟩ := List.mem_map.mp hd
  refine okd_tup (by show 2 ≤ 500; decide) fun d hd => ?_
  rcases List.mem_cons.mp hd with rfl | hd
  · exact okd_str _ _
  · rw [List.mem_singleton.mp hd]
    exact okd_int _ _
theorem okd_two {k : Nat} {a b : PyData} (ha : okd k a = true) (hb : okd k b = true) : okd (k + 1) (.tuple [a, b]) = true := okd_tup (by show 2 ≤ 500; decide) fun d hd => by
  rcases List.mem_cons.mp hd with rfl | hd
  · exact ha
  · rw [List.mem_singleton.mp hd]
    exact hb
theorem HouseQ.dxz {K : PySem.W.Frag} {av : List Addr} {H : Hp} {h : Addr} {n : Int} {D : List (Int × Int)} (x : HouseQ K H h n D) : Dx K av H (.ref h) (hsd n D) := by
  obtain ⟨q, ps, h1, h2, rfl, h4⟩ := x
  exact .tup h1 (.cons (.int _) (.cons (.tup h2 (dxA_drds h4)) .nil))
theorem txt_okt {ls : List Str} (h : ∀ l ∈ ls, Okt l) : Okt (txt ls) := fun c hc => by
  rw [tl_txt, List.mem_flatten] at hc
  obtain ⟨x, hx, m⟩ := hc
  obtain ⟨l, hl, rfl⟩ := List.mem_map.mp hx
  rcases List.mem_append.mp m with m | m
  · exact h l hl c m
  · rw [List.mem_singleton.mp m]
    decide
theorem txt_len {ls : List Str} (h : ∀ l ∈ ls, l.length ≤ 12) : (txt ls).length ≤ 13 * ls.length := by
  rw [tl_len, tl_txt]
  induction ls with
  | nil => exact Nat.le_refl _
  | cons l ls ih =>
    have h1 := h l List.mem_cons_self
    have h2 := ih fun x hx => h x (List.mem_cons_of_mem _ hx)
    rw [List.map_cons, List.flatten_cons, List.length_append, List.length_append, ← tl_len]
    have e1 : ([10] : List Nat).length = 1 := rfl
    have e2 : (l :: ls).length = ls.length + 1 := rfl
    omega
theorem pls_okt {n : Int} {P G : List (Str × Int)} (n8 : n ≤ 8) (hp : Pl n P) (hg : Pl n G) (e : G.map (·.1) = P.map (·.1)) : ∀ l ∈ pls P G, Okt l := fun l hl => by
  obtain ⟨k, hk, rfl⟩ := List.mem_iff_getElem.mp hl
  have hk' : k < P.length := by rw [pls_len e] at hk; exact hk
  have h1 : P[k]? = some (P[k].1, P[k].2) := List.getElem?_eq_getElem hk'
  obtain ⟨b, hb⟩ := same_at e h1
  have h3 := pls_at h1 hb
  rw [List.getElem?_eq_getElem hk] at h3
  rw [Option.some.inj h3]
  have rz := hp.nm.nam P[k].1 (List.mem_map_of_mem (f := (·.1)) (List.getElem_mem hk'))
  have ra := hp.rm P[k] (List.getElem_mem hk')
  have rb : 0 ≤ b ∧ b < n := hg.rm _ (List.mem_of_getElem? hb)
  intro c hc
  unfold pline at hc
  rw [tl_jw3, tl_ns ra.1 (by omega), tl_ns rb.1 (by omega)] at hc
  rcases List.mem_append.mp hc with m | m
  · have := rz.2.2 c m
    omega
  · simp at m
    omega
theorem hls_okt {n : Int} {D : List (Int × Int)} (f : Forest n D) (n1 : 1 ≤ n) (n8 : n ≤ 8) : ∀ l ∈ hls n D, Okt l ∧ 1 ≤ l.length := fun l hl => by
  rcases List.mem_cons.mp hl with rfl | m
  · refine ⟨fun c hc => ?_, by rw [len_hline (by omega) (by omega)]; decide⟩
    unfold hline at hc
    rw [tl_jw2, tl_rooms, tl_ns (by omega) (by omega)] at hc
    simp at hc
    omega
  · obtain ⟨x, hx, rfl⟩ := List.mem_map.mp m
    have := f.ends (a := x.1) (b := x.2) hx
    refine ⟨fun c hc => ?_, by rw [len_dline (by omega)]; decide⟩
    unfold dline at hc
    rw [tl_jw3, tl_door, tl_ns (by omega) (by omega), tl_ns (by omega) (by omega)] at hc
    simp at hc
    omega
theorem pls_pos {P G : List (Str × Int)} (e : G.map (·.1) = P.map (·.1)) : ∀ l ∈ pls P G, 1 ≤ l.length := fun l hl => by
  obtain ⟨k, hk, rfl⟩ := List.mem_iff_getElem.mp hl
  have hk' : k < P.length := by rw [pls_len e] at hk; exact hk
  have h1 : P[k]? = some (P[k].1, P[k].2) := List.getElem?_eq_getElem hk'
  obtain ⟨b, hb⟩ := same_at e h1
  have h3 := pls_at h1 hb
  rw [List.getElem?_eq_getElem hk] at h3
  rw [Option.some.inj h3, tl_len]
  unfold pline
  rw [tl_jw3, List.length_append, List.length_cons]
  omega
/-- what is known of the lines of either kind -/
theorem rows_ok {kd n : Int} {D : List (Int × Int)} {P G : List (Str × Int)} {rows : List Str} (f : Forest n D) (n1 : 1 ≤ n) (n8 : n ≤ 8) (hp : Pl n P) (hg : Pl n G) (e : G.map (·.1) = P.map (·.1)) (l : P.length ≤ 12) (r0 : kd = 0 → rows = hls n D) (r1 : kd ≠ 0 → rows = pls P G) : (∀ l ∈ rows, 10 ∉ tl l ∧ 1 ≤ l.length ∧ l.length ≤ 12 ∧ Okt l) ∧ rows.length ≤ 12 ∧ (kd = 0 → 1 ≤ rows.length) := by
  by_cases z : kd = 0
  · rw [r0 z]
    have := f.len
    have e2 : (hls n D).length = D.length + 1 := by unfold hls; rw [List.length_cons, List.length_map]
    exact ⟨fun l hl => ⟨hls_free f n1 n8 l hl, (hls_okt f n1 n8 l hl).2, Nat.le_trans (len_hls f n1 n8 l hl) (by decide), (hls_okt f n1 n8 l hl).1⟩, by omega, fun _ => by omega⟩
  · rw [r1 z]
    exact ⟨fun l hl => ⟨(pls_free n8 hp hg e l hl).1, pls_pos e l hl, (pls_free n8 hp hg e l hl).2, pls_okt n8 hp hg e l hl⟩, by rw [pls_len e]; exact l, fun y => absurd y z⟩
end Fw
set_option maxHeartbeats 2000000
namespace Fw
open TL
open PySem PySem.Spec PyProof.Rows L2
/-! texts cut behind each line -/
theorem take_pls {P G : List (Str × Int)} (k : Nat) : (pls P G).take k = pls (P.take k) (G.take k) := by
  unfold pls
  rw [List.take_zipWith]
theorem take_hls {n : Int} {D : List (Int × Int)} {k : Nat} (h : 1 ≤ k) : (hls n D).take k = hls n (D.take (k - 1)) := by
  obtain ⟨j, rfl⟩ : ∃ j, k = j + 1 := ⟨k - 1, by omega⟩
  unfold hls
  rw [List.take_succ_cons, List.map_take]
  rfl
theorem cutS_neg {z : Str} {d : Int} (h0 : 0 ≤ d) (h1 : d < (z.length : Nat)) : tl (cutS z none (some (-1 - d))) = (tl z).take (z.length - 1 - d.toNat) := by
  unfold cutS
  show ((z.cps.toList.drop 0).take ((if (-1 - d) < 0 then ((-1 - d) + (z.length : Nat)).toNat else min (-1 - d).toNat z.length) - 0)) = _
  rw [if_pos (by omega), List.drop_zero, Nat.sub_zero]
  congr 1
  omega
section
variable {P : Program} {w : World} {K : PySem.W.Frag} {mg : Str → Option Value} {base : Heap}
def spPre : Sp := fun vs H Q _ => ∃ (st SA SB h pp p g : Addr) (c : Nat) (kd n : Int) (D : List (Int × Int)) (PP GG : List (Str × Int)) (rows : List Str), vs = [.ref st, .int kd, .ref h, .str (txt rows), .ref pp] ∧ StreamAt H st SA SB c ∧ c < 2 ^ 28 ∧ HouseAt H h n D ∧ Forest n D ∧ 1 ≤ n ∧ n ≤ 8 ∧ H pp = some (.tup [.ref p, .ref g]) ∧
  PlAt H p PP ∧ PlAt H g GG ∧ Pl n PP ∧ Pl n GG ∧ GG.map (·.1) = PP.map (·.1) ∧ PP.length ≤ 12 ∧ (kd = 0 → rows = hls n D) ∧ (kd ≠ 0 → rows = pls PP GG) ∧ ∀ H', StreamAt H' st SA SB (c + 13) → Fr st SA H H' → Q (.bl true) H'
abbrev nLPre : List Str := ["_law_stream_here", "_law_kind", "_law_house_here", "_law_text", "_law_parts_of", "_law_rows", "_law_k", "_law_begin", "_law_row", "_law_expected", "_law_shorter", "_law_word", "_law_position"]
theorem scLPre : FnScope nLPre ["_law_stream_here", "_law_kind", "_law_house_here", "_law_text", "_law_parts_of"] (defScope sLPre) := ⟨rfl, rfl, rfl, by decide +kernel, rfl, by decide +kernel, by decide +kernel⟩
theorem ok_pre {f : Addr} {fd : FuncData} {k : Nat} (F : Fun K "_law_prefixes_right" "_law_prefixes_right" sLPre f fd) (T : Nm mg) (C_law_draw : Cal P w K mg base k "_law_draw" ["_law_stream_here", "_law_many"] spDraw) (C_law_parse_outcome : Cal P w K mg base k "_law_parse_outcome" ["_law_kind", "_law_house_here", "_law_text"] (spPO K)) (C_law_same : CalG P w K mg base k "_law_same" pSame (spSameD K 7)) : FnG P w K mg base (k + 1) f fd ["_law_stream_here", "_law_kind", "_law_house_here", "_law_text", "_law_parts_of"] spPre := by
  refine Fun.okG F scLPre (fun vs H Q E h => ?_) (fun cdv A outer s H vs Q gd hr h => ?_)
  · obtain ⟨st, SA, SB, h, pp, p, g, c, kd, n, D, PP, GG, rows, rfl, _⟩ := h
    rfl
  · obtain ⟨st, SA, SB, h, pp, p, g, c, kd, n, D, PP, GG, rows, rfl, hS, hc, hH, hF, n1, n8, epp, hP, hG, pl, plG, nmG, lP, r0, r1, q⟩ := h
    refine ⟨_, (pss_cons (ps_set (i := 5) scLPre.nd rfl (.inl rfl) (pe_slice sl_list (pe_split (pv 3) pe_str) po_none (po_some (pe_un un_neg pe_int))))
      (pss_cons (ps_for PassesOwn.never rfl (pi_range2 (by rfl) T.range (pa_cons (pe_callTy call_int1 (by rfl) T.int (by decide +kernel) (pa_cons (pe_cmpR op_eq (pv 1) pe_int (nomark _)) pa_nil)) (pa_cons (pe_op op_add (pe_callB (call_lenK K rfl) (by rfl) T.len (by decide +kernel) (pa_cons (pv 5) pa_nil)) pe_int) pa_nil))) (pg_name (i := 6) scLPre.nd rfl (.inl rfl))
      (pss_cons (ps_set (i := 7) scLPre.nd rfl (.inl rfl) (pe_joinK K rfl pe_str (pe_lc (own := [("_law_row", 8)]) (g := gName 8) (by rfl) scLPre.nd (pi_listK K rfl (pe_slice sl_list (pv 5) po_none (po_some (pv 6))))
 (blkOk_by (own := [("_law_row", 8)]) (N := nLPre) (sc := defScope sLPre) (by decide +kernel))
 (fun _ _ _ _ _ => (pg_name (i := 8) scLPre.nd rfl (.inl rfl))) (fun _ _ _ _ _ => pts_nil) (fun _ _ _ _ _ => (pe_op op_add_str (pv 8) pe_str)))))
       (pss_cons (ps_set (i := 9) scLPre.nd rfl (.inl rfl) (pe_tup (pa_cons (pe_slice sl_tupS (pe_ix (ix_tupK K rfl) (pv 4) pe_int (fun _ _ => rfl)) po_none (po_some (pv 6))) (pa_cons (pe_slice sl_tupS (pe_ix (ix_tupK K rfl) (pv 4) pe_int (fun _ _ => rfl)) po_none (po_some (pv 6))) pa_nil))))
       (pss_cons (ps_if (pt_cmpR op_eq (pv 1) pe_int (nomark _))
       (pss_one (ps_set (i := 9) scLPre.nd rfl (.inl rfl) (pe_tup (pa_cons (pe_ix (ix_tupK K rfl) (pv 2) pe_int (fun _ _ => rfl)) (pa_cons (pe_slice sl_tupS (pe_ix (ix_tupK K rfl) (pv 2) pe_int (fun _ _ => rfl)) po_none (po_some (pe_op op_sub (pv 6) pe_int))) pa_nil)))))
       pss_nil)
       (pss_cons (ps_if (pt_not (pt_val (pe_calG C_law_same gd hr (by rfl) (pa_cons (pe_cal C_law_parse_outcome hr (by rfl) (pa_cons (pv 1) (pa_cons (pv 2) (pa_cons (pv 7) pa_nil)))) (pa_cons (pe_tup (pa_cons pe_str (pa_cons (pv 9) pa_nil))) pa_nil)))))
       pss_never
       pss_nil)
       (pss_one (ps_if (pt_cmpR op_gt (pv 6) pe_int (nomark _))
       (pss_cons (ps_set (i := 10) scLPre.nd rfl (.inl rfl) (pe_slice sl_str (pv 7) po_none (po_some (pe_op op_sub (pe_un un_neg pe_int) (pe_cal C_law_draw hr (by rfl) (pa_cons (pv 0) (pa_cons (pe_callB call_len_str (by rfl) T.len (by decide +kernel) (pa_cons (pe_ix (ix_listK K rfl) (pv 5) (pe_op op_sub (pv 6) pe_int) (fun _ _ => rfl)) pa_nil)) pa_nil)))))))
        (pss_cons (ps_asg (pe_cal C_law_parse_outcome hr (by rfl) (pa_cons (pv 1) (pa_cons (pv 2) (pa_cons (pv 10) pa_nil)))) (pg_tup (by rfl) (pgs_cons (pg_name (i := 11) scLPre.nd rfl (.inl rfl)) (pgs_cons (pg_name (i := 12) scLPre.nd rfl (.inl rfl)) pgs_nil))))
        (pss_one (ps_if (PW.pt (pw_or (pt_cmpR op_ne (pv 11) pe_str (nomark _)) (pw_or1 (pt_cmpR (op_notInK K rfl) (pv 12) (pe_tup (pa_cons (pe_op op_sub (pv 6) pe_int) (pa_cons (pv 6) pa_nil))) (by rfl)))))
        pss_never
        pss_nil))))
       pss_nil)))))))
      (pss_one (ps_ret pe_bl)))), ?_⟩
    have sz := sizeLine_eq
    have rf := rows_ok hF n1 n8 pl plG nmG lP r0 r1
    have lt : (txt rows).length ≤ 200 := by
      have := txt_len fun l hl => (rf.1 l hl).2.2.1
      omega
    refine ⟨_, rfl, ⟨_, rfl⟩, txt rows, "\n", rfl, rfl, by decide +kernel, by omega, fun L0 hL0 => ?_⟩
    rw [split_txt fun l hl => (rf.1 l hl).1]
    have s1 := same_upd (o := .lst ((rows ++ [("" : Str)]).map V.str)) hL0
    have e1 : (upd H L0 (.lst ((rows ++ [("" : Str)]).map V.str))) L0 = some (.lst ((rows ++ [("" : Str)]).map V.str)) := upd_same
    generalize upd H L0 (.lst ((rows ++ [("" : Str)]).map V.str)) = H1 at *
    refine ⟨_, rfl, _, rfl, L0, _, rfl, SqL.of e1, fun L hL => ?_⟩
    have ec : cutV ((rows ++ [("" : Str)]).map V.str) none (some (-1)) = rows.map V.str := by
      rw [List.map_append]
      exact cut_dl _ _
    rw [ec]
    have s2 := same_upd (o := .lst (rows.map V.str)) hL
    have e2 : (upd H1 L (.lst (rows.map V.str))) L = some (.lst (rows.map V.str)) := upd_same
    have s12 := s1.trans s2
    have zL := (hS.same s1).ne hL
    generalize upd H1 L (.lst (rows.map V.str)) = H2 at *
    have hS2 := hS.same s12
    refine ⟨_, rfl, rfl, .inr ⟨_, rfl, _, rfl, L, _, rfl, .inl (SqL.of e2), _, _, rfl, rfl, ?_⟩⟩
    have lo2 : ∃ lo : Nat, (if decide (V.int kd = V.int 0) = true then (1 : Int) else 0) = (lo : Int) ∧ (kd = 0 → lo = 1) ∧ (kd ≠ 0 → lo = 0) := by
      by_cases z : kd = 0
      · exact ⟨1, by rw [if_pos (decide_eq_true (by rw [z]))]; rfl, fun _ => rfl, fun y => absurd z y⟩
      · exact ⟨0, by rw [if_neg (by rw [decide_eq_false fun y => z (V.int.inj y)]; decide)]; rfl, fun y => absurd y z, fun _ => rfl⟩
    obtain ⟨lo, elo, lo1, lo0⟩ := lo2
    rw [elo]
    have llo : lo ≤ 1 := by
      by_cases z : kd = 0
      · rw [lo1 z]
        exact Nat.le_refl _
      · rw [lo0 z]
        exact Nat.zero_le _
    refine ⟨_, _, rfl, ⟨by omega, by omega, by rw [List.length_map]; omega, by rw [List.length_map]; omega⟩, for_range (lo := (lo : Int)) (n := (((rows.map V.str).length : Nat) + 1 - (lo : Int)).toNat) (fun i σ H' => ∃ y6 y7 y8 y9 y10 y11 y12, σ = [some (.ref st), some (.int kd), some (.ref h), some (.str (txt rows)), some (.ref pp), some (.ref L), y6, y7, y8, y9, y10, y11, y12] ∧ StreamAt H' st SA SB (c + i) ∧ Fr st SA H2 H') ⟨_, _, _, _, _, _, _, rfl, hS2, Fr.refl⟩ ?_ ?_⟩
    rotate_left
    · rintro σ' H' ⟨y6, y7, y8, y9, y10, y11, y12, rfl, hS', fr'⟩
      rw [List.length_map] at hS'
      exact q _ (hS'.mono (by omega)) ((Fr.of s12).trans fr')
    rintro i σ' H3 hi ⟨y6, y7, y8, y9, y10, y11, y12, rfl, hS3, fr3⟩
    rw [List.length_map] at hi
    have eL3 := fr3 _ _ zL.1.symm zL.2.1.symm e2
    obtain ⟨kN, ekN, hkN⟩ : ∃ kN : Nat, ((lo : Int) + (i : Int)) = (kN : Int) ∧ kN = lo + i := ⟨lo + i, by omega, rfl⟩
    rw [ekN]
    have kle : kN ≤ rows.length := by omega
    refine ⟨⟨_, rfl⟩, _, rfl, _, rfl, (kN : Int), rfl, L, _, rfl, SqL.of eL3, fun B hB => ?_⟩
    rw [cut_toG (by omega), ← List.map_take, Int.toNat_natCast]
    have s4 := same_upd (o := .lst ((rows.take kN).map V.str)) hB
    have e4 : (upd H3 B (.lst ((rows.take kN).map V.str))) B = some (.lst ((rows.take kN).map V.str)) := upd_same
    generalize upd H3 B (.lst ((rows.take kN).map V.str)) = H4 at *
    have rt : ∀ l ∈ rows.take kN, l ∈ rows := fun l hl => List.mem_of_mem_take hl
    refine ⟨B, rfl, ⟨_, SqL.of e4⟩, fun M hM => lc_list (K := K) (a := B) (xs := (rows.take kN).map V.str) (fun j H' => Same H4 H' ∧ H' M = some (.lst ((((rows.take kN).take j).map fun l => l ++ ("\n" : Str)).map V.str))) ⟨same_upd hM, upd_same⟩ (fun j H' _ hh => SqL.of (hh.1 _ _ e4)) ?_ ?_⟩
    · rintro j x H' hx ⟨s', e'⟩
      obtain ⟨y, hy, rfl⟩ := get_vs hx
      refine ⟨rfl, ?_⟩
      unfold tYes
      have ly := (rf.1 y (rt y (List.mem_of_getElem? hy))).2.2.1
      refine iteT ⟨_, rfl, _, _, rfl, rfl, ?_, _, e', ?_, same_put s' hM, ?_⟩
      · rw [show (Str.ofString "\n").length = 1 by decide +kernel]
        omega
      · rw [List.length_map, List.length_map, List.length_take, List.length_take]
        omega
      · rw [upd_same, take_snoc hy, List.map_append, List.map_append]
        rfl
    rintro H5 ⟨s5, e5⟩
    rw [List.length_map, List.take_length] at e5
    have sb := sum_le (ls := rows.take kN) fun l hl => Nat.le_trans (rf.1 l (rt l hl)).2.2.1 (by decide)
    have lk : (rows.take kN).length ≤ 12 := by rw [List.length_take]; omega
    refine ⟨_, M, (rows.take kN).map fun l => l ++ ("\n" : Str), rfl, rfl, .inl (SqL.of e5), by rw [List.length_map, show (Str.ofString "").length = 0 by decide +kernel]; omega, ?_⟩
    rw [show Txt.join (Str.ofString "") ((rows.take kN).map fun l => l ++ ("\n" : Str)) = txt (rows.take kN) from rfl]
    have s35 := s4.trans s5
    have hS5 := hS3.same s35
    have eL5 := s35 _ _ eL3
    have frH : Fr st SA H H5 := (Fr.of s12).trans (fr3.trans (Fr.of s35))
    have hH5 := hH.fr hS frH
    have epp5 := frH.tup hS epp
    have hP5 := hP.fr hS frH
    have hG5 := hG.fr hS frH
    obtain ⟨ps, tp, ep, hps⟩ := id hP5
    obtain ⟨gs, tg, eg, hgs⟩ := id hG5
    refine ⟨_, rfl, pp, _, _, _, rfl, rfl, SqT.of epp5, atI0, _, rfl, (kN : Int), rfl, p, _, rfl, tp.sq, fun H6 p2 s6 ep2 => ?_⟩
    rw [cut_toG (by omega), Int.toNat_natCast, ← List.map_take] at ep2
    refine ⟨_, rfl, pp, _, _, _, rfl, rfl, SqT.of (s6 _ _ epp5), atI1, _, rfl, (kN : Int), rfl, g, _, rfl, sqT_sm s6 tg.sq, fun H7 g2 s7 eg2 => ⟨by show 2 ≤ sizeLine; omega, fun E1 hE1 => ?_⟩⟩
    rw [cut_toG (by omega), Int.toNat_natCast, ← List.map_take] at eg2
    have s8 := same_upd (o := .tup [.ref p2, .ref g2]) hE1
    have eE1 : (upd H7 E1 (.tup [.ref p2, .ref g2])) E1 = some (.tup [.ref p2, .ref g2]) := upd_same
    have s58 := s6.trans (s7.trans s8)
    generalize upd H7 E1 (.tup [.ref p2, .ref g2]) = H8 at *
    have xE1 : Dx K [] H8 (.ref E1) (.tuple [pld (PP.take kN), pld (GG.take kN)]) := by
      refine .tup (SqT.of eE1) (.cons (.tup (sqT_sm (s7.trans s8) ep2) ?_) (.cons (.tup (sqT_sm s8 eg2) ?_) .nil))
      · rw [ep, ← List.map_take]
        exact dxA_ppz fun q hq => s58 _ _ (hps q (List.mem_of_mem_take hq))
      · rw [eg, ← List.map_take]
        exact dxA_ppz fun q hq => s58 _ _ (hgs q (List.mem_of_mem_take hq))
    have hH8 := hH5.same s58
    dsimp only [gName]
    refine seq_by (fun σ' J => ∃ (e : Addr) (d : PyData) (y : Option V), σ' = [some (.ref st), some (.int kd), some (.ref h), some (.str (txt rows)), some (.ref pp), some (.ref L), some (.int (kN : Int)), some (.str (txt (rows.take kN))), y, some (.ref e), y10, y11, y12] ∧ Same H8 J ∧ Dx K [] J (.ref e) d ∧ (kd = 0 → d = hsd n (D.take (kN - 1))) ∧ (kd ≠ 0 → d = .tuple [pld (PP.take kN), pld (GG.take kN)])) ?_ ?_
    · intro N hN
      refine ⟨_, rfl, rfl, _, rfl, ?_⟩
      by_cases z : kd = 0
      · rw [decide_eq_true (by rw [z])]
        refine iteT ?_
        obtain ⟨qd, dps, h1, h2, eD, h4⟩ := id hH8
        have k1 : 1 ≤ kN := by rw [hkN, lo1 z]; omega
        refine ⟨_, rfl, h, _, _, _, rfl, rfl, SqT.of h1, atI0, _, rfl, h, _, _, _, rfl, rfl, SqT.of h1, atI1, _, rfl, _, _, rfl, rfl, (kN : Int) - 1, rfl, qd, _, rfl, SqT.of h2, fun H9 d2 s9 ed2 => ⟨by show 2 ≤ sizeLine; omega, fun E2 hE2 => ?_⟩⟩
        rw [cut_toG (by omega), show ((kN : Int) - 1).toNat = kN - 1 by omega, ← List.map_take] at ed2
        have s10 := same_upd (o := .tup [.int n, .ref d2]) hE2
        refine hN _ _ ⟨E2, hsd n (D.take (kN - 1)), _, rfl, s9.trans s10, .tup (SqT.of upd_same) (.cons (.int _) (.cons (.tup (sqT_sm s10 ed2) ?_) .nil)), fun _ => rfl, fun y => absurd z y⟩
        rw [eD, ← List.map_take]
        exact dxA_drds fun q' hq => SqT.of ((s9.trans s10) _ _ (h4 q' (List.mem_of_mem_take hq)))
      · rw [decide_eq_false fun y => z (V.int.inj y)]
        exact iteF (hN _ _ ⟨E1, _, _, rfl, Same.refl _, xE1, fun y => absurd y z, fun _ => rfl⟩)
    rintro σ' H9 ⟨e, d, y8', rfl, s9, xe, d0, d1⟩
    have hH9 := hH8.same s9
    have ltk : (txt (rows.take kN)).length ≤ 200 := by
      have := txt_len fun l hl => (rf.1 l (rt l hl)).2.2.1
      omega
    have okk : Okt (txt (rows.take kN)) := txt_okt fun l hl => (rf.1 l (rt l hl)).2.2.2
    have pH : kd = 0 → parH (txt (rows.take kN)) = .inl (some (n, D.take (kN - 1))) := fun z => by
      rw [r0 z, take_hls (by rw [hkN, lo1 z]; omega)]
      exact parH_txt (forest_take hF n8 _) n1 n8
    have plT : ∀ {X : List (Str × Int)}, Pl n X → Pl n (X.take kN) := fun {X} hX => ⟨⟨fun x hx => hX.nm.nam x (by rw [List.map_take] at hx; exact List.mem_of_mem_take hx), by rw [List.map_take]; exact hX.nm.up.sublist (List.take_sublist _ _)⟩, fun x hx => hX.rm x (List.mem_of_mem_take hx)⟩
    have pP : kd ≠ 0 → parP n (txt (rows.take kN)) = .inl (PP.take kN, GG.take kN) := fun z => by
      rw [r1 z, take_pls]
      exact parP_txt n8 (plT pl) (plT plG) (by rw [List.map_take, List.map_take, nmG]) (by rw [List.length_take]; omega)
    refine seq_by (fun σ' J => σ' = [some (.ref st), some (.int kd), some (.ref h), some (.str (txt rows)), some (.ref pp), some (.ref L), some (.int (kN : Int)), some (.str (txt (rows.take kN))), y8', some (.ref e), y10, y11, y12] ∧ Same H9 J) ?_ ?_
    · intro N hN
      refine ⟨_, rfl, _, rfl, _, rfl, kd, h, n, D, txt (rows.take kN), rfl, hH9, by omega, okk, fun z => ⟨fun o ho J u v sJ eu hv => ?_, fun i' hi' J u sJ eu => by rw [pH z] at hi'; cases hi'⟩, fun z => ⟨fun x hx J u w p' g' sJ eu ew ep' eg' => ?_, fun i' hi' J u sJ eu => by rw [pP z] at hi'; cases hi'⟩⟩
      · rw [pH z] at ho
        have eo := (Sum.inl.inj ho).symm
        rw [eo] at hv
        obtain ⟨h', rfl, hq, _⟩ := hv
        refine ⟨_, rfl, by show 2 ≤ sizeLine; omega, fun t2 ht2 => ?_⟩
        have w2 := same_upd (o := .tup [.str "value", .ref e]) ht2
        refine ⟨.ref u, .ref t2, rfl, dx_eqd (d := .tuple [.str "value", d]) (.tup (SqT.of (w2 _ _ eu)) (.cons (.str _) (.cons (by rw [d0 z]; exact (hq.same w2).dxy) .nil))) (.tup (SqT.of upd_same) (.cons (.str _) (.cons (dx_sm (sJ.trans w2) xe) .nil))) (okd_two (okd_str _ _) (by rw [d0 z]; exact okd_hsd (k := 3) (by have := hF.len; rw [List.length_take]; omega))), fun J2 sJ2 => ⟨_, rfl, iteF (hN _ _ ⟨rfl, sJ.trans (w2.trans sJ2)⟩)⟩⟩
      · rw [pP z] at hx
        have ex := (Sum.inl.inj hx).symm
        rw [ex] at ep' eg'
        refine ⟨_, rfl, by show 2 ≤ sizeLine; omega, fun t2 ht2 => ?_⟩
        have w2 := same_upd (o := .tup [.str "value", .ref e]) ht2
        refine ⟨.ref u, .ref t2, rfl, dx_eqd (d := .tuple [.str "value", d]) (.tup (SqT.of (w2 _ _ eu)) (.cons (.str _) (.cons (by rw [d1 z]; exact .tup (SqT.of (w2 _ _ ew)) (.cons (ep'.same w2).dxz (.cons (eg'.same w2).dxz .nil))) .nil))) (.tup (SqT.of upd_same) (.cons (.str _) (.cons (dx_sm (sJ.trans w2) xe) .nil))) (okd_two (okd_str _ _) (by rw [d1 z]; exact okd_two (okd_pld (k := 3) (by rw [List.length_take]; omega)) (okd_pld (k := 3) (by have := congrArg List.length nmG; rw [List.length_map, List.length_map] at this; rw [List.length_take]; omega)))), fun J2 sJ2 => ⟨_, rfl, iteF (hN _ _ ⟨rfl, sJ.trans (w2.trans sJ2)⟩)⟩⟩
    rintro σ' H10 ⟨rfl, s10⟩
    have s510 := s58.trans (s9.trans s10)
    have hS10 := hS5.same s510
    have eL10 := s510 _ _ eL5
    have hH10 := hH5.same s510
    have fr210 : Fr st SA H2 H10 := fr3.trans (Fr.of (s35.trans s510))
    refine ⟨_, rfl, _, _, rfl, rfl, _, rfl, ?_⟩
    by_cases z0 : (0 : Int) < (kN : Int)
    rotate_left
    · rw [decide_eq_false z0]
      exact iteF ⟨_, _, _, _, _, _, _, rfl, hS10.mono (by omega), fr210⟩
    rw [decide_eq_true z0]
    refine iteT ?_
    obtain ⟨row, hrow, atr⟩ := strs_at (ls := rows) (i := (kN : Int) - 1) (by omega) (by omega)
    rw [show ((kN : Int) - 1).toNat = kN - 1 by omega] at hrow
    have mrow := rf.1 row (List.mem_of_getElem? hrow)
    refine ⟨_, rfl, _, rfl, _, rfl, _, rfl, _, rfl, _, _, rfl, rfl, L, _, _, _, rfl, rfl, SqL.of eL10, atr, _, rfl, by omega, st, SA, SB, c + i, _, rfl, hS10, by omega, by omega, by omega, fun H11 dd hS11 fr11 dd0 dd1 => ⟨_, _, rfl, rfl, _, rfl, _, rfl, by omega, ?_⟩⟩
    have hH11 := hH10.fr hS10 fr11
    have etk : rows.take kN = rows.take (kN - 1) ++ [row] := by
      rw [← take_snoc hrow, show kN - 1 + 1 = kN by omega]
    have cl := cutS_le (txt (rows.take kN)) none (some (-1 - dd))
    have oks := okk.cut none (some (-1 - dd))
    have esh : cutS (txt (rows.take kN)) none (some (-1 - dd)) = txt (rows.take (kN - 1)) ++ ⟨((tl row).take (row.length - dd.toNat)).toArray⟩ := by
      refine txt_ext ?_
      have lb : (txt (rows.take kN)).length = (txt (rows.take (kN - 1))).length + row.length + 1 := by
        rw [etk, txt_snoc, PySem.Str.length_append, PySem.Str.length_append, show ("\n" : Str).length = 1 by decide +kernel]
      rw [cutS_neg dd0 (by omega), lb, etk, txt_snoc, tl_append, tl_append, tl_append, List.append_assoc, List.take_append, ← tl_len, List.take_of_length_le (by rw [← tl_len]; omega), List.take_append_of_le_length (by rw [← tl_len]; omega)]
      congr 1
      show _ = (tl row).take (row.length - dd.toNat)
      congr 1
      omega
    have pf : 10 ∉ tl (⟨((tl row).take (row.length - dd.toNat)).toArray⟩ : Str) := fun m => mrow.1 (List.mem_of_mem_take (i := row.length - dd.toNat) (by simpa using m))
    have pn : tl (⟨((tl row).take (row.length - dd.toNat)).toArray⟩ : Str) ≠ [] := by
      intro y
      have := congrArg List.length y
      have e2 : (tl (⟨((tl row).take (row.length - dd.toNat)).toArray⟩ : Str)).length = row.length - dd.toNat := by
        show (((tl row).take (row.length - dd.toNat)).toArray.toList).length = _
        rw [List.toList_toArray, List.length_take, ← tl_len]
        omega
      rw [e2] at this
      simp at this
      omega
    have fr' : ∀ l ∈ rows.take (kN - 1), 10 ∉ tl l := fun l hl => (rf.1 l (List.mem_of_mem_take hl)).1
    have ln' : (rows.take (kN - 1)).length = kN - 1 := by rw [List.length_take]; omega
    have qH : kd = 0 → parH (cutS (txt (rows.take kN)) none (some (-1 - dd))) = .inr (kN - 1) ∨ parH (cutS (txt (rows.take kN)) none (some (-1 - dd))) = .inr (kN - 1 + 1) := fun z => by
      have g : ∃ o, goH 0 none (rows.take (kN - 1)) = .inl o := by
        by_cases y : kN - 1 = 0
        · rw [y]
          exact ⟨none, rfl⟩
        · rw [r0 z, take_hls (by omega)]
          refine ⟨some (n, D.take (kN - 1 - 1)), ?_⟩
          unfold hls
          rw [goH, hwl_first n1 n8]
          exact goH_doors n1 n8 _ [] 1 (forest_take hF n8 _)
      obtain ⟨o, g⟩ := g
      rw [esh]
      have := parH_cut fr' pf pn g
      rwa [ln'] at this
    have qP : kd ≠ 0 → parP n (cutS (txt (rows.take kN)) none (some (-1 - dd))) = .inr (kN - 1) ∨ parP n (cutS (txt (rows.take kN)) none (some (-1 - dd))) = .inr (kN - 1 + 1) := fun z => by
      have plT' : ∀ {X : List (Str × Int)}, Pl n X → Pl n (X.take (kN - 1)) := fun {X} hX => ⟨⟨fun x hx => hX.nm.nam x (by rw [List.map_take] at hx; exact List.mem_of_mem_take hx), by rw [List.map_take]; exact hX.nm.up.sublist (List.take_sublist _ _)⟩, fun x hx => hX.rm x (List.mem_of_mem_take hx)⟩
      have g : goP n 0 ([], []) (rows.take (kN - 1)) = .inl ([] ++ PP.take (kN - 1), [] ++ GG.take (kN - 1)) := by
        rw [r1 z, take_pls]
        have lG : GG.length ≤ 12 := by
          have := congrArg List.length nmG
          rw [List.length_map, List.length_map] at this
          omega
        exact goP_pls n8 _ _ [] [] 0 (plT' pl) (plT' plG) (by rw [List.map_take, List.map_take, nmG]) (by rw [List.nil_append, List.length_take]; omega) (by rw [List.nil_append, List.length_take]; omega)
      rw [esh]
      have := parP_cut fr' pf pn g
      rwa [ln'] at this
    have done : ∀ (i' : Nat) (J : Hp) (u : Addr), i' = kN - 1 ∨ i' = kN - 1 + 1 → True := fun _ _ _ _ => trivial
    refine ⟨_, rfl, _, rfl, _, rfl, kd, h, n, D, _, rfl, hH11, by omega, oks, fun z => ⟨fun o ho => by rcases qH z with y | y <;> (rw [y] at ho; cases ho), fun i' hi' J u sJ eu => ?_⟩, fun z => ⟨fun x hx => by rcases qP z with y | y <;> (rw [y] at hx; cases hx), fun i' hi' J u sJ eu => ?_⟩⟩
    all_goals
      have ei : i' = kN - 1 ∨ i' = kN - 1 + 1 := by
        first
        | (rcases qH z with y | y <;> (rw [y] at hi'; have := Sum.inr.inj hi'; omega))
        | (rcases qP z with y | y <;> (rw [y] at hi'; have := Sum.inr.inj hi'; omega))
      refine ⟨u, _, rfl, SqT.of eu, rfl, _, _, rfl, _, _, rfl, rfl, ?_⟩
      refine ⟨_, rfl, rfl, _, rfl, ?_⟩
      rw [show (!decide (V.str (Str.ofString "InvalidText") = V.str (Str.ofString "InvalidText"))) = false by simp]
      refine iteF ?_
      refine ⟨_, rfl, _, rfl, _, _, rfl, rfl, _, rfl, by show 2 ≤ sizeLine; omega, fun tt htt => ?_⟩
      have st2 := same_upd (o := .tup [.int ((kN : Int) - 1), .int (kN : Int)]) htt
      refine ⟨tt, vi [(kN : Int) - 1, (kN : Int)], rfl, .inr (SqT.of upd_same), rfl, flat_vi _, _, rfl, ?_⟩
      rw [if_pos rfl, inV_vi, decide_eq_true (show ((i' : Nat) : Int) ∈ [(kN : Int) - 1, (kN : Int)] by
        rcases ei with y | y
        · rw [y]
          have : ((kN - 1 : Nat) : Int) = (kN : Int) - 1 := by omega
          rw [this]
          simp
        · rw [y]
          have : ((kN - 1 + 1 : Nat) : Int) = (kN : Int) := by omega
          rw [this]
          simp)]
      exact iteF ⟨_, _, _, _, _, _, _, rfl, ((hS11.same sJ).same st2).mono (by omega), fr210.trans (fr11.trans (Fr.of (sJ.trans st2)))⟩
end
end Fw
set_option maxHeartbeats 1000000
namespace Fw
open TL
open PySem PySem.Spec PyProof.Rows L2
/-! equal houses, equal texts -/
theorem eqvAll_drd : ∀ (R G : List (Int × Int)), PyData.eqvAll (R.map drd) (G.map drd) = decide (R = G)
  | [], [] => rfl
  | [], _ :: _ => by rw [List.map_nil, List.map_cons, PyData.eqvAll]; rfl
  | _ :: _, [] => by rw [List.map_nil, List.map_cons, PyData.eqvAll]; rfl
  | x :: R, y :: G => by
    rw [List.map_cons, List.map_cons, PyData.eqvAll, eqvAll_drd R G]
    obtain ⟨x1, x2⟩ := x
    obtain ⟨y1, y2⟩ := y
    simp only [drd, PyData.eqv, PyData.eqvAll, Bool.and_true]
    rw [Bool.eq_iff_iff]
    simp
theorem eqv_hsd (n m : Int) (D E : List (Int × Int)) : PyData.eqv (hsd n D) (hsd m E) = decide (n = m ∧ D = E) := by
  unfold hsd
  simp only [PyData.eqv, PyData.eqvAll, eqvAll_drd, Bool.and_true]
  rw [Bool.eq_iff_iff]
  simp
theorem drds_lay : ∀ D : List (Int × Int), PyData.canLayAll0 (D.map drd) = true
  | [] => by simp [PyData.canLayAll0]
  | x :: D => by
    rw [List.map_cons, PyData.canLayAll0, drds_lay D]
    simp [drd, PyData.canLay0, PyData.canLayAll0]
theorem drds_deep : ∀ D : List (Int × Int), PyData.depthAll (D.map drd) ≤ 1
  | [] => by simp [PyData.depthAll]
  | x :: D => by
    rw [List.map_cons, PyData.depthAll]
    have := drds_deep D
    simp [drd, PyData.depth, PyData.depthAll]
    omega
theorem hsd_shaped (n : Int) (D : List (Int × Int)) : SeqAt.shaped (hsd n D) = true := by
  unfold SeqAt.shaped hsd
  have := drds_deep D
  simp [PyData.canLay0, PyData.canLayAll0, drds_lay D, PyData.depth, PyData.depthAll]
  omega
theorem eqv_pair (P G P' G' : List (Str × Int)) : PyData.eqv (.tuple [pld P, pld G]) (.tuple [pld P', pld G']) = decide (P = P' ∧ G = G') := by
  simp only [PyData.eqv, PyData.eqvAll, eqv_pld, Bool.and_true]
  rw [Bool.eq_iff_iff]
  simp
theorem pair_shaped {P G : List (Str × Int)} (hp : ∀ x ∈ P, Nam x.1) (hg : ∀ x ∈ G, Nam x.1) : SeqAt.shaped (.tuple [pld P, pld G]) = true := by
  have a := pps_lay hp
  have b := pps_lay hg
  have c := pps_deep P
  have d := pps_deep G
  unfold SeqAt.shaped pld
  simp [PyData.canLay0, PyData.canLayAll0, a, b, PyData.depth, PyData.depthAll]
  omega
theorem hls_inj {n m : Int} {D E : List (Int × Int)} (f : Forest n D) (n1 : 1 ≤ n) (n8 : n ≤ 8) (g : Forest m E) (m1 : 1 ≤ m) (m8 : m ≤ 8) : decide (V.str (txt (hls n D)) = V.str (txt (hls m E))) = decide (n = m ∧ D = E) := by
  rw [decide_eq_decide]
  constructor
  · intro h
    have h := V.str.inj h
    have a := parH_txt f n1 n8
    rw [h, parH_txt g m1 m8] at a
    have := Option.some.inj (Sum.inl.inj a)
    exact ⟨(congrArg Prod.fst this).symm, (congrArg Prod.snd this).symm⟩
  · rintro ⟨rfl, rfl⟩
    rfl
theorem Pl.to8 {n : Int} {P : List (Str × Int)} (h : Pl n P) (n8 : n ≤ 8) : Pl 8 P := ⟨h.nm, fun x hx => by
  have := h.rm x hx
  omega⟩
theorem pls_inj {n m : Int} {P G P' G' : List (Str × Int)} (n8 : n ≤ 8) (m8 : m ≤ 8) (hp : Pl n P) (hg : Pl n G) (e : G.map (·.1) = P.map (·.1)) (l : P.length ≤ 12) (hp' : Pl m P') (hg' : Pl m G') (e' : G'.map (·.1) = P'.map (·.1)) (l' : P'.length ≤ 12) :
    decide (V.str (txt (pls P G)) = V.str (txt (pls P' G'))) = decide (P = P' ∧ G = G') := by
  rw [decide_eq_decide]
  constructor
  · intro h
    have h := V.str.inj h
    have a := parP_txt (n := 8) (by decide) (hp.to8 n8) (hg.to8 n8) e l
    rw [h, parP_txt (n := 8) (by decide) (hp'.to8 m8) (hg'.to8 m8) e' l'] at a
    have := Sum.inl.inj a
    exact ⟨(congrArg Prod.fst this).symm, (congrArg Prod.snd this).symm⟩
  · rintro ⟨rfl, rfl⟩
    rfl
/-- what was kept of an earlier turn -/
def Itm (H : Hp) (s A E e : Addr) : Prop := ∃ (h p g pt tx : Addr) (n : Int) (D : List (Int × Int)) (PP GG : List (Str × Int)), H e = some (.tup [.ref h, .ref pt, .ref tx]) ∧ HouseAt H h n D ∧ Forest n D ∧ 1 ≤ n ∧ n ≤ 8 ∧ H pt = some (.tup [.ref p, .ref g]) ∧
  PlAt H p PP ∧ PlAt H g GG ∧ Pl n PP ∧ Pl n GG ∧ GG.map (·.1) = PP.map (·.1) ∧ PP.length ≤ 12 ∧ H tx = some (.lst [.str (txt (hls n D)), .str (txt (pls PP GG))]) ∧ tx ≠ s ∧ tx ≠ A ∧ tx ≠ E
theorem Itm.fr {s A B E e : Addr} {c : Nat} {H H' : Hp} (x : Itm H s A E e) (hS : StreamAt H s A B c) (f : Fr s A H H') : Itm H' s A E e := by
  obtain ⟨h, p, g, pt, tx, n, D, PP, GG, e1, e2, e3, e4, e5, e6, e7, e8, e9, ea, eb, ec, ed, z1, z2, z3⟩ := x
  exact ⟨h, p, g, pt, tx, n, D, PP, GG, f.tup hS e1, e2.fr hS f, e3, e4, e5, f.tup hS e6, e7.fr hS f, e8.fr hS f, e9, ea, eb, ec, f _ _ z1 z2 ed, z1, z2, z3⟩
theorem plAt_put {H : Hp} {p L : Addr} {X : List (Str × Int)} {xs : List V} {o : HO} (x : PlAt H p X) (h : H L = some (.lst xs)) : PlAt (upd H L o) p X := by
  obtain ⟨ps, h1, h2, h3⟩ := x
  refine ⟨ps, ?_, h2, fun q hq => (upd_ne (ne_of (h3 q hq) h (by intro z; cases z))).trans (h3 q hq)⟩
  rcases h1 with h1 | ⟨ob, o1, h1⟩
  · exact .inl ((upd_ne (ne_of h1 h (by intro z; cases z))).trans h1)
  · exact .inr ⟨ob, o1, (upd_ne (ne_of h1 h (by intro z; cases z))).trans h1⟩
theorem houseAt_put {H : Hp} {a L : Addr} {n : Int} {D : List (Int × Int)} {xs : List V} {o : HO} (x : HouseAt H a n D) (h : H L = some (.lst xs)) : HouseAt (upd H L o) a n D := by
  obtain ⟨q, ps, h1, h2, h3, h4⟩ := x
  exact ⟨q, ps, (upd_ne (ne_of h1 h (by intro z; cases z))).trans h1, (upd_ne (ne_of h2 h (by intro z; cases z))).trans h2, h3, fun p hp => (upd_ne (ne_of (h4 p hp) h (by intro z; cases z))).trans (h4 p hp)⟩
theorem Itm.put {s A E e : Addr} {H : Hp} {xs : List V} {o : HO} (x : Itm H s A E e) (hE : H E = some (.lst xs)) : Itm (upd H E o) s A E e := by
  obtain ⟨h, p, g, pt, tx, n, D, PP, GG, e1, e2, e3, e4, e5, e6, e7, e8, e9, ea, eb, ec, ed, z1, z2, z3⟩ := x
  exact ⟨h, p, g, pt, tx, n, D, PP, GG, (upd_ne (ne_of e1 hE (by intro z; cases z))).trans e1, houseAt_put e2 hE, e3, e4, e5, (upd_ne (ne_of e6 hE (by intro z; cases z))).trans e6, plAt_put e7 hE, plAt_put e8 hE, e9, ea, eb, ec, (upd_ne z3).trans ed, z1, z2, z3⟩
end Fw
namespace Fw
open PySem PySem.Spec PyProof.Rows L2
set_option maxHeartbeats 4000000
open TL
section
variable {P : Program} {w : World} {K : PySem.W.Frag} {mg : Str → Option Value} {base : Heap}
def spLaw (K : PySem.W.Frag) : Sp := fun vs H Q _ => ∃ (a : Addr) (ns : List Int), vs = [.ref a] ∧ SqL K H a (vi ns) ∧ ns.length ≤ 63 ∧ ∀ H', Q (.bl true) H'
abbrev nLaw : List Str := ["_law_script", "_law_stream_here", "_law_earlier", "_law_turn", "_law_house_here", "_law_placement_here", "_law_target", "_law_texts", "_law_kind", "_law_text", "_law_again", "_law_changed", "_law_one", "_law_two", "_law_words"]
theorem scLaw : FnScope nLaw ["_law_script"] (defScope sLaw) := ⟨rfl, rfl, rfl, by decide +kernel, rfl, by decide +kernel, by decide +kernel⟩
def Errs (K : PySem.W.Frag) (mg : Str → Option Value) : Prop := ∃ E, HE K mg E ∧ CEE K mg E "UnknownPerson" "UnknownPerson.__init__" "name" iUnknownPerson ∧ CEE K mg E "InvalidRoom" "InvalidRoom.__init__" "room" iInvalidRoom ∧ CEE K mg E "NotAdjacent" "NotAdjacent.__init__" "room" iNotAdjacent ∧ CEE K mg E "EmptyRoom" "EmptyRoom.__init__" "room" iEmptyRoom ∧ CEE K mg E "InvalidMoves" "InvalidMoves.__init__" "position" iInvalidMoves ∧ CEE K mg E "OtherRegion" "OtherRegion.__init__" "room" iOtherRegion ∧ CEE K mg E "TightRegion" "TightRegion.__init__" "room" iTightRegion ∧ CEE K mg E "Blocked" "Blocked.__init__" "block" iBlocked ∧ CEE K mg E "InvalidName" "InvalidName.__init__" "name" iInvalidName ∧ CEE K mg E "DuplicateName" "DuplicateName.__init__" "name" iDuplicateName ∧ CEE K mg E "LimitReached" "LimitReached.__init__" "limit" iLimitReached ∧ CEE K mg E "AlreadyAdjacent" "AlreadyAdjacent.__init__" "room" iAlreadyAdjacent ∧ CEE K mg E "WouldFormCycle" "WouldFormCycle.__init__" "room" iWouldFormCycle ∧ CEE K mg E "BatchFailed" "BatchFailed.__init__" "position" iBatchFailed ∧ CEE K mg E "InvalidMoment" "InvalidMoment.__init__" "position" iInvalidMoment ∧ CEE K mg E "InvalidText" "InvalidText.__init__" "position" iInvalidText ∧ CE0 K mg E "NothingToUndo" "NothingToUndo.__init__" iNothingToUndo ∧ CE0 K mg E "HistoryFull" "HistoryFull.__init__" iHistoryFull ∧ CE0 K mg E "SessionBusy" "SessionBusy.__init__" iSessionBusy ∧ CE0 K mg E "InvalidActions" "InvalidActions.__init__" iInvalidActions ∧ CE0 K mg E "InvalidHouse" "InvalidHouse.__init__" iInvalidHouse ∧ CE0 K mg E "InvalidPlacement" "InvalidPlacement.__init__" iInvalidPlacement
/-- the defs of the text -/
structure All (K : PySem.W.Frag) (mg : Str → Option Value) : Prop where
  T : Nm mg
  ValueError : mg "ValueError" = none
  enumerate : mg "enumerate" = none
  cLINE_FEED : ∃ tk, mg "LINE_FEED" = some (.str "\n" tk)
  cMAX_ROOMS : ∃ tk, mg "MAX_ROOMS" = some (.int 8 tk)
  cMAX_PEOPLE : ∃ tk, mg "MAX_PEOPLE" = some (.int 12 tk)
  cLONGEST_NAME : ∃ tk, mg "LONGEST_NAME" = some (.int 8 tk)
  er : Errs K mg
  dis_integer : DefE K mg "is_integer" sIsInt ["value"]
  dis_name : DefE K mg "is_name" sIsName ["value"]
  dis_pair : DefE K mg "is_pair" sIsPair ["value"]
  dis_ascending : DefE K mg "is_ascending" sIsAsc ["sequence"]
  dis_house : DefE K mg "is_house" sIsHouse ["value"]
  dis_room : DefE K mg "is_room" sIsRoom ["house", "value"]
  dis_door : DefE K mg "is_door" sIsDoor ["rooms", "value"]
  dhas_cycle : DefE K mg "has_cycle" sHasCyc ["rooms", "doors"]
  dneighbors : DefE K mg "neighbors" sNb ["house", "room"]
  dpath_between : DefE K mg "path_between" sPath ["house", "a", "b"]
  dsteps_toward : DefE K mg "steps_toward" sSteps ["house", "goal", "rooms"]
  dis_placement : DefE K mg "is_placement" sIsPl ["house", "value"]
  dis_person_in_room : DefE K mg "is_person_in_room" sIsPR ["house", "value"]
  dis_target : DefE K mg "is_target" sIsTg ["house", "placement", "value"]
  dnames_of : DefE K mg "names_of" sNamesOf ["placement"]
  droom_of : DefE K mg "room_of" sRoomOf ["placement", "name"]
  dformat_house : DefE K mg "format_house" sFmtH ["house"]
  dformat_placement : DefE K mg "format_placement" sFmtP ["placement", "target"]
  djoined : DefE K mg "joined" sJnd ["lines"]
  dparse_house : DefE K mg "parse_house" sParH ["value"]
  dsplit_lines : DefE K mg "split_lines" sSpLn ["value"]
  dhouse_with_line : DefE K mg "house_with_line" sHwl ["house", "line"]
  dis_digit : DefE K mg "is_digit" sDig ["word"]
  dparse_placement : DefE K mg "parse_placement" sParP ["house", "value"]
  d_law_stream : DefE K mg "_law_stream" sStream ["_law_script"]
  d_law_same : DefE K mg "_law_same" sSame ["_law_found", "_law_expected"]
  d_law_names : DefE K mg "_law_names" sNames ["_law_stream_here", "_law_many"]
  d_law_draw : DefE K mg "_law_draw" sDraw ["_law_stream_here", "_law_many"]
  d_law_house : DefE K mg "_law_house" sHouse ["_law_stream_here", "_law_least", "_law_most"]
  d_law_placement : DefE K mg "_law_placement" sPl ["_law_stream_here", "_law_house_here", "_law_most"]
  d_law_error_class : DefE K mg "_law_error_class" sLErrorClass ["_law_e"]
  d_law_text_case : DefE K mg "_law_text_case" sLTxt ["_law_stream_here"]
  d_law_parse_outcome : DefE K mg "_law_parse_outcome" sLPOut ["_law_kind", "_law_house_here", "_law_text"]
  d_law_changed_text : DefE K mg "_law_changed_text" sLChT ["_law_stream_here", "_law_text"]
  d_law_text_stable : DefE K mg "_law_text_stable" sLStab ["_law_kind", "_law_house_here", "_law_text"]
  d_law_prefixes_right : DefE K mg "_law_prefixes_right" sLPre ["_law_stream_here", "_law_kind", "_law_house_here", "_law_text", "_law_parts_of"]
theorem ok_law {f : Addr} {fd : FuncData} (F : Fun K "law" "law" sLaw f fd) (Z : All K mg) : FnG P w K mg base 10 f fd ["_law_script"] (spLaw K) := by
  have T := Z.T
  obtain ⟨E, hE, eUnknownPerson, eInvalidRoom, eNotAdjacent, eEmptyRoom, eInvalidMoves, eOtherRegion, eTightRegion, eBlocked, eInvalidName, eDuplicateName, eLimitReached, eAlreadyAdjacent, eWouldFormCycle, eBatchFailed, eInvalidMoment, eInvalidText, eNothingToUndo, eHistoryFull, eSessionBusy, eInvalidActions, eInvalidHouse, eInvalidPlacement⟩ := Z.er
  obtain ⟨CUnknownPerson, RUnknownPerson⟩ := er1_UnknownPerson (P := P) (w := w) (base := base) eUnknownPerson
  obtain ⟨CInvalidRoom, RInvalidRoom⟩ := er1_InvalidRoom (P := P) (w := w) (base := base) eInvalidRoom
  obtain ⟨CNotAdjacent, RNotAdjacent⟩ := er1_NotAdjacent (P := P) (w := w) (base := base) eNotAdjacent
  obtain ⟨CEmptyRoom, REmptyRoom⟩ := er1_EmptyRoom (P := P) (w := w) (base := base) eEmptyRoom
  obtain ⟨CInvalidMoves, RInvalidMoves⟩ := er1_InvalidMoves (P := P) (w := w) (base := base) eInvalidMoves
  obtain ⟨COtherRegion, ROtherRegion⟩ := er1_OtherRegion (P := P) (w := w) (base := base) eOtherRegion
  obtain ⟨CTightRegion, RTightRegion⟩ := er1_TightRegion (P := P) (w := w) (base := base) eTightRegion
  obtain ⟨CBlocked, RBlocked⟩ := er1_Blocked (P := P) (w := w) (base := base) eBlocked
  obtain ⟨CInvalidName, RInvalidName⟩ := er1_InvalidName (P := P) (w := w) (base := base) eInvalidName
  obtain ⟨CDuplicateName, RDuplicateName⟩ := er1_DuplicateName (P := P) (w := w) (base := base) eDuplicateName
  obtain ⟨CLimitReached, RLimitReached⟩ := er1_LimitReached (P := P) (w := w) (base := base) eLimitReached
  obtain ⟨CAlreadyAdjacent, RAlreadyAdjacent⟩ := er1_AlreadyAdjacent (P := P) (w := w) (base := base) eAlreadyAdjacent
  obtain ⟨CWouldFormCycle, RWouldFormCycle⟩ := er1_WouldFormCycle (P := P) (w := w) (base := base) eWouldFormCycle
  obtain ⟨CBatchFailed, RBatchFailed⟩ := er1_BatchFailed (P := P) (w := w) (base := base) eBatchFailed
  obtain ⟨CInvalidMoment, RInvalidMoment⟩ := er1_InvalidMoment (P := P) (w := w) (base := base) eInvalidMoment
  obtain ⟨CInvalidText, RInvalidText⟩ := er1_InvalidText (P := P) (w := w) (base := base) eInvalidText
  obtain ⟨CNothingToUndo, RNothingToUndo⟩ := eNothingToUndo.er
  obtain ⟨CHistoryFull, RHistoryFull⟩ := eHistoryFull.er
  obtain ⟨CSessionBusy, RSessionBusy⟩ := eSessionBusy.er
  obtain ⟨CInvalidActions, RInvalidActions⟩ := eInvalidActions.er
  obtain ⟨CInvalidHouse, RInvalidHouse⟩ := eInvalidHouse.er
  obtain ⟨CInvalidPlacement, RInvalidPlacement⟩ := eInvalidPlacement.er
  have Es : Ers K mg E := {UnknownPerson := ⟨_, RUnknownPerson.er⟩, InvalidRoom := ⟨_, RInvalidRoom.er⟩, NotAdjacent := ⟨_, RNotAdjacent.er⟩, EmptyRoom := ⟨_, REmptyRoom.er⟩, InvalidMoves := ⟨_, RInvalidMoves.er⟩, OtherRegion := ⟨_, ROtherRegion.er⟩, TightRegion := ⟨_, RTightRegion.er⟩, Blocked := ⟨_, RBlocked.er⟩, InvalidName := ⟨_, RInvalidName.er⟩, DuplicateName := ⟨_, RDuplicateName.er⟩, LimitReached := ⟨_, RLimitReached.er⟩, AlreadyAdjacent := ⟨_, RAlreadyAdjacent.er⟩, WouldFormCycle := ⟨_, RWouldFormCycle.er⟩, BatchFailed := ⟨_, RBatchFailed.er⟩, InvalidMoment := ⟨_, RInvalidMoment.er⟩, InvalidText := ⟨_, RInvalidText.er⟩, NothingToUndo := ⟨_, RNothingToUndo⟩, HistoryFull := ⟨_, RHistoryFull⟩, SessionBusy := ⟨_, RSessionBusy⟩, InvalidActions := ⟨_, RInvalidActions⟩, InvalidHouse := ⟨_, RInvalidHouse⟩, InvalidPlacement := ⟨_, RInvalidPlacement⟩}
  have C_law_stream : Cal P w K mg base 1 "_law_stream" ["_law_script"] (spStream K) := Z.d_law_stream.cal fun _ _ d => ok_stream d.F T
  obtain ⟨tk1, m1⟩ := Z.cMAX_ROOMS
  obtain ⟨tk2, m2⟩ := Z.cMAX_PEOPLE
  obtain ⟨tk3, m3⟩ := Z.cLONGEST_NAME
  obtain ⟨tk4, mLF⟩ := Z.cLINE_FEED
  obtain ⟨fn, fnd, dN⟩ := Z.dneighbors
  obtain ⟨fs, fsd, dS⟩ := Z.dsteps_toward
  have CnumA : Cal P w K mg base 1 "is_integer" pIsInt (spIsNum K) := Z.dis_integer.cal fun _ _ d => ok_isnum d.F T
  have Cpair2 : Cal P w K mg base 1 "is_pair" pIsInt (spPair2 K) := Z.dis_pair.cal fun _ _ d => ok_pair2 d.F T
  have CascA : Cal P w K mg base 1 "is_ascending" pIsAsc (spAscD K) := Z.dis_ascending.cal fun _ _ d => ok_ascd d.F T
  have CdoorA : Cal P w K mg base 2 "is_door" ["rooms", "value"] (spDoor K) := Z.dis_door.cal fun _ _ d => ok_door d.F Cpair2 CnumA
  have CpathA : Cal P w K mg base 3 "path_between" ["house", "a", "b"] (spPathQ K) := Z.dpath_between.cal fun _ _ d => ok_pathQ d.F T dN dS
  have ChascA : Cal P w K mg base 4 "has_cycle" ["rooms", "doors"] (spHasC K) := Z.dhas_cycle.cal fun _ _ d => ok_hasc d.F Z.enumerate CpathA
  have Cis_house : Cal P w K mg base 5 "is_house" ["value"] (spHouseA K) := Z.dis_house.cal fun _ _ d => ok_housea d.F T m1 (Cpair2.up (by decide)) (CnumA.up (by decide)) (CdoorA.up (by decide)) (CascA.up (by decide)) ChascA
  have CroomA : Cal P w K mg base 2 "is_room" pIsRoom (spIsRoomA K) := Z.dis_room.cal fun _ _ d => ok_isrooma d.F T CnumA
  have CnameA : Cal P w K mg base 1 "is_name" pIsInt (spIsNameA K) := Z.dis_name.cal fun _ _ d => ok_isnamea d.F T m3
  have CpairA : Cal P w K mg base 1 "is_pair" pIsInt (spIsPairA K) := Z.dis_pair.cal fun _ _ d => ok_ispaira d.F T
  have CprA : Cal P w K mg base 3 "is_person_in_room" pIsRoom (spIsPRA K) := Z.dis_person_in_room.cal fun _ _ d => ok_ispra d.F (CpairA.up (by decide)) (CnameA.up (by decide)) CroomA
  have CnamesA : Cal P w K mg base 1 "names_of" pNamesOf (spNamesA K) := Z.dnames_of.cal fun _ _ d => ok_namesa d.F T
  have CascB : Cal P w K mg base 1 "is_ascending" pIsAsc spIsAscB := Z.dis_ascending.cal fun _ _ d => ok_isascb d.F T
  have Cis_placement : Cal P w K mg base 4 "is_placement" pIsRoom (spIsPlA K) := Z.dis_placement.cal fun _ _ d => ok_ispla d.F T m2 CprA (CnamesA.up (by decide)) (CascB.up (by decide))
  have Cis_digit : Cal P w K mg base 1 "is_digit" ["word"] spDig := Z.dis_digit.cal fun _ _ d => ok_dig d.F T
  have Csplit_lines : Cal P w K mg base 1 "split_lines" ["value"] (spSplitLn K) := Z.dsplit_lines.cal fun _ _ d => ok_spln d.F T mLF
  have Cjoined : Cal P w K mg base 1 "joined" ["lines"] (spJoined K) := Z.djoined.cal fun _ _ d => ok_jnd d.F mLF
  have Croom_of : Cal P w K mg base 1 "room_of" pRoomOf spRoomOf := Z.droom_of.cal fun _ _ d => ok_roomof d.F
  have Cformat_house : Cal P w K mg base 2 "format_house" ["house"] (spFmtH K) := Z.dformat_house.cal fun _ _ d => ok_fmth d.F Cjoined
  have Cformat_placement : Cal P w K mg base 2 "format_placement" ["placement", "target"] spFmtP := Z.dformat_placement.cal fun _ _ d => ok_fmtp d.F Cjoined Croom_of
  have Chouse_with_line : Cal P w K mg base 6 "house_with_line" ["house", "line"] (spHwl K) := Z.dhouse_with_line.cal fun _ _ d => ok_hwl d.F T (Cis_digit.up (by decide)) Cis_house
  have Cparse_house : CalX P w K mg base 7 "parse_house" ["value"] (spParH K CInvalidText) := (Z.dparse_house.calX fun _ _ d => ok_parh d.F T Z.enumerate mLF (Csplit_lines.up (by decide)) Chouse_with_line RInvalidText.r)
  have Cparse_placement : CalX P w K mg base 7 "parse_placement" ["house", "value"] (spParP CInvalidText) := (Z.dparse_placement.calX fun _ _ d => ok_parp d.F T Z.enumerate mLF (Csplit_lines.up (by decide)) (Cis_digit.up (by decide)) (Cis_placement.up (by decide)) RInvalidText.r)
  have C_law_draw : Cal P w K mg base 1 "_law_draw" ["_law_stream_here", "_law_many"] spDraw := Z.d_law_draw.cal fun _ _ d => ok_draw d.F T
  have C_law_house : Cal P w K mg base 2 "_law_house" ["_law_stream_here", "_law_least", "_law_most"] spHouse := Z.d_law_house.cal fun _ _ d => by
    obtain ⟨af2, bf2, f2⟩ := Z.d_law_draw
    exact ok_house d.F T f2
  have C_law_names : Cal P w K mg base 2 "_law_names" ["_law_stream_here", "_law_many"] spNames := Z.d_law_names.cal fun _ _ d => ok_names d.F T (C_law_draw.up (by decide))
  have C_law_placement : Cal P w K mg base 3 "_law_placement" ["_law_stream_here", "_law_house_here", "_law_most"] spPl := Z.d_law_placement.cal fun _ _ d => ok_pl d.F T (C_law_draw.up (by decide)) (C_law_names.up (by decide))
  have C_law_text_case : Cal P w K mg base 4 "_law_text_case" ["_law_stream_here"] spTxt := Z.d_law_text_case.cal fun _ _ d => ok_ltxt d.F T (C_law_draw.up (by decide)) (C_law_house.up (by decide)) C_law_placement
  have C_law_same : CalG P w K mg base 6 "_law_same" pSame (spSameD K 5) := cal_sameD Z.d_law_same T 5
  have C_law_same8 : CalG P w K mg base 8 "_law_same" pSame (spSameD K 7) := cal_sameD Z.d_law_same T 7
  have Cis_target : Cal P w K mg base 5 "is_target" ["house", "placement", "value"] (spIsTgA K) := Z.dis_target.cal fun _ _ d => ok_istga d.F Cis_placement (CnamesA.up (by decide))
  have C_law_error_class : CalE P w K mg base 7 "_law_error_class" ["_law_e"] (spLEC CInvalidText "InvalidText") := Z.d_law_error_class.calE fun _ _ d => (ok_lec_InvalidText (k := 6) d.F T Z.ValueError hE Es RInvalidText.er)
  have C_law_parse_outcome : Cal P w K mg base 8 "_law_parse_outcome" ["_law_kind", "_law_house_here", "_law_text"] (spPO K) := Z.d_law_parse_outcome.cal fun _ _ d => ok_po (k := 0) d.F RInvalidText Cparse_house Cparse_placement C_law_error_class
  have C_law_changed_text : Cal P w K mg base 2 "_law_changed_text" ["_law_stream_here", "_law_text"] spChT := Z.d_law_changed_text.cal fun _ _ d => ok_cht d.F T C_law_draw
  have C_law_text_stable : Cal P w K mg base 9 "_law_text_stable" ["_law_kind", "_law_house_here", "_law_text"] spStab := Z.d_law_text_stable.cal fun _ _ d => ok_stab d.F C_law_parse_outcome (Cformat_house.up (by decide)) (Cformat_placement.up (by decide)) (Cis_house.up (by decide)) (Cis_placement.up (by decide)) (Cis_target.up (by decide))
  have C_law_prefixes_right : CalG P w K mg base 9 "_law_prefixes_right" ["_law_stream_here", "_law_kind", "_law_house_here", "_law_text", "_law_parts_of"] spPre := Z.d_law_prefixes_right.calG fun _ _ d => ok_pre d.F T (C_law_draw.up (by decide)) C_law_parse_outcome C_law_same8
  refine Fun.okG F scLaw (fun vs H Q E h => ?_) (fun cdv A outer s H vs Q gd hr h => ?_)
  · obtain ⟨a, ns, rfl, _⟩ := h
    rfl
  · obtain ⟨a, ns, rfl, hS, hlen, q⟩ := h
    refine ⟨_, (pss_cons (ps_set (i := 1) scLaw.nd rfl (.inl rfl) (pe_cal C_law_stream (hr.mono (by decide)) (by rfl) (pa_cons (pv 0) pa_nil)))
      (pss_cons (ps_set (i := 2) scLaw.nd rfl (.inl rfl) (pe_lst pa_nil))
      (pss_cons (ps_for PassesOwn.never rfl (pi_range1 (by rfl) T.range (pa_cons pe_int pa_nil)) (pg_name (i := 3) scLaw.nd rfl (.inl rfl))
      (pss_cons (ps_asg (pe_cal C_law_text_case (hr.mono (by decide)) (by rfl) (pa_cons (pv 1) pa_nil)) (pg_unl (by rfl) (pgs_cons (pg_name (i := 4) scLaw.nd rfl (.inl rfl)) (pgs_cons (pg_name (i := 5) scLaw.nd rfl (.inl rfl)) (pgs_cons (pg_name (i := 6) scLaw.nd rfl (.inl rfl)) pgs_nil)))))
       (pss_cons (ps_set (i := 7) scLaw.nd rfl (.inl rfl) (pe_lst (pa_cons (pe_cal Cformat_house (hr.mono (by decide)) (by rfl) (pa_cons (pv 4) pa_nil)) (pa_cons (pe_cal Cformat_placement (hr.mono (by decide)) (by rfl) (pa_cons (pv 5) (pa_cons (pv 6) pa_nil))) pa_nil))))
       (pss_cons (ps_for PassesOwn.never rfl (pi_enum (by rfl) Z.enumerate (pa_cons (pv 7) pa_nil)) (pg_tup (by rfl) (pgs_cons (pg_name (i := 8) scLaw.nd rfl (.inl rfl)) (pgs_cons (pg_name (i := 9) scLaw.nd rfl (.inl rfl)) pgs_nil)))
       (pss_cons (ps_if (pt_not (pt_val (pe_calG C_law_prefixes_right gd (hr.mono (by decide)) (by rfl) (pa_cons (pv 1) (pa_cons (pv 8) (pa_cons (pv 4) (pa_cons (pv 9) (pa_cons (pe_tup (pa_cons (pv 5) (pa_cons (pv 6) pa_nil))) pa_nil))))))))
        pss_never
        pss_nil)
        (pss_one (ps_for PassesOwn.never rfl (pi_range1 (by rfl) T.range (pa_cons pe_int pa_nil)) (pg_name (i := 10) scLaw.nd rfl (.inl rfl))
        (pss_cons (ps_set (i := 11) scLaw.nd rfl (.inl rfl) (pe_cal C_law_changed_text (hr.mono (by decide)) (by rfl) (pa_cons (pv 1) (pa_cons (pv 9) pa_nil))))
         (pss_cons (ps_if (pt_not (pt_val (pe_cal C_law_text_stable (hr.mono (by decide)) (by rfl) (pa_cons (pv 8) (pa_cons (pv 4) (pa_cons (pv 11) pa_nil))))))
         pss_never
         pss_nil)
         (pss_one (ps_if (pt_not (pt_val (pe_cal C_law_text_stable (hr.mono (by decide)) (by rfl) (pa_cons (pv 8) (pa_cons (pv 4) (pa_cons (pe_cal C_law_changed_text (hr.mono (by decide)) (by rfl) (pa_cons (pv 1) (pa_cons (pv 11) pa_nil))) pa_nil))))))
         pss_never
         pss_nil))))))))
       (pss_cons (ps_for PassesOwn.never rfl (pi_listK K rfl (pv 2)) (pg_tup (by rfl) (pgs_cons (pg_name (i := 12) scLaw.nd rfl (.inl rfl)) (pgs_cons (pg_name (i := 13) scLaw.nd rfl (.inl rfl)) (pgs_cons (pg_name (i := 14) scLaw.nd rfl (.inl rfl)) pgs_nil))))
       (pss_one (ps_if (PW.pt (pw_or (pt_cmpR op_ne (pe_cmpR (op_eqDK K rfl hr.units) (pv 12) (pv 4) (nomark _)) (pe_cmpR op_eq (pe_ix (ix_listK K rfl) (pv 14) pe_int (fun _ _ => rfl)) (pe_ix (ix_listK K rfl) (pv 7) pe_int (fun _ _ => rfl)) (nomark _)) (nomark _)) (pw_or1 (pt_cmpR op_ne (pe_cmpR (op_eqDK K rfl hr.units) (pv 13) (pe_tup (pa_cons (pv 5) (pa_cons (pv 6) pa_nil))) (nomark _)) (pe_cmpR op_eq (pe_ix (ix_listK K rfl) (pv 14) pe_int (fun _ _ => rfl)) (pe_ix (ix_listK K rfl) (pv 7) pe_int (fun _ _ => rfl)) (nomark _)) (nomark _)))))
        pss_never
        pss_nil)))
       (pss_one (ps_expr (pe_bm PySem.F.plainAttrs_list PySem.F.slot_list_append PySem.F.type_list_append mt_append (pv 2) (pa_cons (pe_tup (pa_cons (pv 4) (pa_cons (pe_tup (pa_cons (pv 5) (pa_cons (pv 6) pa_nil))) (pa_cons (pv 7) pa_nil)))) pa_nil)))))))))
      (pss_one (ps_ret pe_bl))))), ?_⟩
    refine ⟨_, rfl, a, ns, rfl, hS, hlen, fun H1 s1 A1 B1 sm1 _ _ hS1 => ?_⟩
    refine ⟨Nat.zero_le _, fun E hE => ?_⟩
    have zE := hS1.ne hE
    have eE : (upd H1 E (.lst [])) E = some (.lst []) := upd_same
    have hS1 := hS1.same (same_upd (o := .lst []) hE)
    generalize upd H1 E (.lst []) = H1 at *
    refine ⟨3, rfl, by decide, by decide, for_range (lo := 0) (n := 3) (fun i σ H' => ∃ es : List Addr, ∃ y3 y4 y5 y6 y7 y8 y9 y10 y11 y12 y13 y14, σ = [some (.ref a), some (.ref s1), some (.ref E), y3, y4, y5, y6, y7, y8, y9, y10, y11, y12, y13, y14] ∧ StreamAt H' s1 A1 B1 (300 * i) ∧ H' E = some (.lst (es.map V.ref)) ∧ es.length ≤ i ∧ ∀ e ∈ es, Itm H' s1 A1 E e) ⟨[], _, _, _, _, _, _, _, _, _, _, _, _, rfl, hS1, eE, Nat.zero_le _, fun e he => (by cases he)⟩ ?_ ?_⟩
    rotate_left
    · rintro σ H2 ⟨es, y3, y4, y5, y6, y7, y8, y9, y10, y11, y12, y13, y14, rfl, _⟩
      exact q _
    rintro i σ H2 hi ⟨es, y3, y4, y5, y6, y7, y8, y9, y10, y11, y12, y13, y14, rfl, hS2, eE2, les, its⟩
    refine ⟨_, rfl, s1, A1, B1, 300 * i, rfl, hS2, by omega, fun H3 L h p g n D PP GG hS3 fr3 eL hH hF n1 n8 hPd pl hGd plG nmG lP => ?_⟩
    have hP := hPd.pl
    have hG := hGd.pl
    refine ⟨L, _, rfl, SqL.of eL, rfl, _, _, rfl, _, _, rfl, _, _, rfl, rfl, ?_⟩
    have ndP := pl.nodup
    have bP : ∀ x ∈ PP, x.1.length ≤ 20 ∧ 0 ≤ x.2 ∧ x.2 < 10 := fun x hx => by
      have r := pl.rm x hx
      have z := (pl.nm.nam x.1 (List.mem_map_of_mem (f := (·.1)) hx)).2.1
      omega
    have bG : ∀ x ∈ GG, 0 ≤ x.2 ∧ x.2 < 10 := fun x hx => by
      have r := plG.rm x hx
      omega
    have eE3 := fr3 _ _ zE.1.symm zE.2.1.symm eE2
    have its3 : ∀ e ∈ es, Itm H3 s1 A1 E e := fun e he => (its e he).fr hS2 fr3
    refine ⟨_, rfl, h, n, D, rfl, hH.q, hF, n1, n8, fun H4 s4 => ⟨_, rfl, _, rfl, p, g, PP, GG, rfl, hP.same s4, hG.same s4, nmG, ndP, bP, bG, by omega, fun H5 s5 => ⟨by show 2 ≤ sizeLine; decide, fun X hX => ?_⟩⟩⟩
    have s35 := s4.trans s5
    have zX := (hS3.same s35).ne hX
    have XE : X ≠ E := fun e => by
      have := s35 _ _ eE3
      rw [← e, hX] at this
      cases this
    have sX := same_upd (o := .lst [.str (txt (hls n D)), .str (txt (pls PP GG))]) hX
    have eX : (upd H5 X (.lst [.str (txt (hls n D)), .str (txt (pls PP GG))])) X = some (.lst [.str (txt (hls n D)), .str (txt (pls PP GG))]) := upd_same
    have s36 := s35.trans sX
    generalize upd H5 X (.lst [.str (txt (hls n D)), .str (txt (pls PP GG))]) = H6 at *
    have hS6 := hS3.same s36
    have hH6 := hH.same s36
    have hP6 := hP.same s36
    have hG6 := hG.same s36
    have eE6 := s36 _ _ eE3
    have its6 : ∀ e ∈ es, Itm H6 s1 A1 E e := fun e he => (its3 e he).fr hS3 (Fr.of s36)
    clear its its3 eE3 hH hP hG hPd hGd hS3 s4 s5 s35 sX s36 eL
    refine ⟨_, rfl, X, _, rfl, SqL.of eX, for_it (walk_enum (K := K) (a := X) (xs := [V.str (txt (hls n D)), V.str (txt (pls PP GG))])) (fun j σ' H' => ∃ y8 y9 y10 y11, σ' = [some (.ref a), some (.ref s1), some (.ref E), some (.int (0 + (i : Int))), some (.ref h), some (.ref p), some (.ref g), some (.ref X), y8, y9, y10, y11, y12, y13, y14] ∧ StreamAt H' s1 A1 B1 (300 * i + 112 + 90 * j) ∧ Fr s1 A1 H6 H')
      ⟨_, _, _, _, rfl, hS6.mono (by omega), Fr.refl⟩ (fun j σ' H' _ hh => ?_) ?_ ?_⟩
    · obtain ⟨_, _, _, _, _, _, f'⟩ := hh
      exact SqL.of (f' _ _ zX.1.symm zX.2.1.symm eX)
    · rintro j _ σ' H7 _ lt' ⟨y8, y9, y10, y11, rfl, hS7, fr7⟩ ⟨T1, x, y, rfl, ht1, rfl, ex, ey⟩
      cases ex
      obtain ⟨rows, rfl, r0, r1⟩ : ∃ rows, y = V.str (txt rows) ∧ (((j : Nat) : Int) = 0 → rows = hls n D) ∧ (((j : Nat) : Int) ≠ 0 → rows = pls PP GG) := by
        match j, ey with
        | 0, ey => exact ⟨hls n D, (Option.some.inj ey).symm, fun _ => rfl, fun z => absurd rfl z⟩
        | 1, ey => exact ⟨pls PP GG, (Option.some.inj ey).symm, fun z => (by cases z), fun _ => rfl⟩
        | j + 2, ey => cases ey
      have j2 : j < 2 := lt'
      have rf := rows_ok hF n1 n8 pl plG nmG lP r0 r1
      have lt : (txt rows).length ≤ 160 := by
        have := txt_len fun l hl => (rf.1 l hl).2.2.1
        omega
      have okt : Okt (txt rows) := txt_okt fun l hl => (rf.1 l hl).2.2.2
      have sT := same_upd (o := .tup [V.int (j : Nat), V.str (txt rows)]) ht1
      have eT : (upd H7 T1 (.tup [V.int (j : Nat), V.str (txt rows)])) T1 = some (.tup [V.int (j : Nat), V.str (txt rows)]) := upd_same
      have hS8 := hS7.same sT
      have fr8 := fr7.trans (Fr.of sT)
      generalize upd H7 T1 (.tup [V.int (j : Nat), V.str (txt rows)]) = H8 at *
      refine ⟨T1, _, rfl, SqT.of eT, rfl, _, _, rfl, _, _, rfl, rfl, ?_⟩
      have hH8 := hH6.fr hS6 fr8
      have hP8 := hP6.fr hS6 fr8
      have hG8 := hG6.fr hS6 fr8
      refine ⟨_, rfl, _, rfl, _, rfl, _, rfl, _, rfl, _, rfl, by show 2 ≤ sizeLine; decide, fun pp hpp => ?_⟩
      have sp := same_upd (o := .tup [.ref p, .ref g]) hpp
      refine ⟨s1, A1, B1, h, pp, p, g, 300 * i + 112 + 90 * j, (j : Nat), n, D, PP, GG, rows, rfl, hS8.same sp, by omega, hH8.same sp, hF, n1, n8, upd_same, hP8.same sp, hG8.same sp, pl, plG, nmG, lP, r0, r1, fun H9 hS9 fr9 => ⟨_, rfl, iteF ?_⟩⟩
      have fr9 := fr8.trans ((Fr.of sp).trans fr9)
      clear fr8 hS8 hH8 hP8 hG8 hS7 fr7 eT sT sp hpp ht1
      refine ⟨6, rfl, by decide, by decide, for_range (lo := 0) (n := 6) (fun m σ' H' => ∃ y10 y11, σ' = [some (.ref a), some (.ref s1), some (.ref E), some (.int (0 + (i : Int))), some (.ref h), some (.ref p), some (.ref g), some (.ref X), some (.int (j : Nat)), some (.str (txt rows)), y10, y11, y12, y13, y14] ∧ StreamAt H' s1 A1 B1 (300 * i + 112 + 90 * j + 13 + 12 * m) ∧ Fr s1 A1 H6 H') ⟨_, _, rfl, hS9, fr9⟩ ?_ ?_⟩
      · rintro m σ' H10 hm ⟨y10, y11, rfl, hS10, fr10⟩
        refine ⟨_, rfl, _, rfl, s1, A1, B1, _, txt rows, rfl, hS10, by omega, by omega, okt, fun H11 t1 hS11 fr11 l1 ok1 => ?_⟩
        have fr11 := fr10.trans fr11
        refine ⟨_, rfl, _, rfl, _, rfl, (j : Nat), h, n, D, t1, rfl, hH6.fr hS6 fr11, n8, by omega, ok1, fun H12 s12 => ⟨_, rfl, iteF ?_⟩⟩
        have hS12 := hS11.same s12
        have fr12 := fr11.trans (Fr.of s12)
        refine ⟨_, rfl, _, rfl, _, rfl, _, rfl, s1, A1, B1, _, t1, rfl, hS12, by omega, by omega, ok1, fun H13 t2 hS13 fr13 l2 ok2 => ?_⟩
        have fr13 := fr12.trans fr13
        refine ⟨(j : Nat), h, n, D, t2, rfl, hH6.fr hS6 fr13, n8, by omega, ok2, fun H14 s14 => ⟨_, rfl, iteF ?_⟩⟩
        exact ⟨_, _, rfl, (hS13.same s14).mono (by omega), fr13.trans (Fr.of s14)⟩
      · rintro σ' H10 ⟨y10, y11, rfl, hS10, fr10⟩
        exact ⟨_, _, _, _, rfl, hS10.mono (by omega), fr10⟩
    rintro σ' H7 ⟨y8, y9, y10, y11, rfl, hS7, fr7⟩
    have eE7 := fr7 _ _ zE.1.symm zE.2.1.symm eE6
    have eX7 := fr7 _ _ zX.1.symm zX.2.1.symm eX
    have its7 : ∀ e ∈ es, Itm H7 s1 A1 E e := fun e he => (its6 e he).fr hS6 fr7
    have hH7 := hH6.fr hS6 fr7
    have hP7 := hP6.fr hS6 fr7
    have hG7 := hG6.fr hS6 fr7
    clear its6 eE6 eX hH6 hP6 hG6 hS6 fr7
    refine ⟨_, rfl, E, rfl, ⟨_, SqL.of eE7⟩, for_list (K := K) (a := E) (xs := es.map V.ref) (fun j σ' H' => ∃ y12 y13 y14, σ' = [some (.ref a), some (.ref s1), some (.ref E), some (.int (0 + (i : Int))), some (.ref h), some (.ref p), some (.ref g), some (.ref X), y8, y9, y10, y11, y12, y13, y14] ∧ Same H7 H') ⟨_, _, _, rfl, Same.refl _⟩ (fun j σ' H' _ hh => ?_) ?_ ?_⟩
    · obtain ⟨_, _, _, _, s'⟩ := hh
      exact SqL.of (s' _ _ eE7)
    · rintro j x σ' H8 hx ⟨z12, z13, z14, rfl, s8⟩
      rw [List.getElem?_map] at hx
      cases he : es[j]? with
      | none => rw [he] at hx; cases hx
      | some e =>
      rw [he] at hx
      obtain rfl : V.ref e = x := Option.some.inj hx
      obtain ⟨h', p', g', pt, tx, n', D', PP', GG', i1, i2, i3, i4, i5, i6, i7, i8, i9, ia, ib, ic, id', _, _, _⟩ := its7 e (List.mem_of_getElem? he)
      refine ⟨e, _, rfl, SqT.of (s8 _ _ i1), rfl, _, _, rfl, _, _, rfl, _, _, rfl, rfl, ?_⟩
      refine ⟨_, rfl, _, rfl, hsd n' D', hsd n D, (i2.same s8).dp, (hH7.same s8).dp, hsd_shaped _ _, hsd_shaped _ _, _, rfl, tx, _, _, _, rfl, rfl, SqL.of (s8 _ _ id'), atI0, _, rfl, X, _, _, _, rfl, rfl, SqL.of (s8 _ _ eX7), atI0, rfl, rfl, _, rfl, ?_⟩
      rw [eqv_hsd, hls_inj i3 i4 i5 hF n1 n8]
      refine iteNS rfl ?_
      refine ⟨_, rfl, _, rfl, _, rfl, by show 2 ≤ sizeLine; decide, fun tt htt => ?_⟩
      have s9 := same_upd (o := .tup [.ref p, .ref g]) htt
      have s89 := s8.trans s9
      refine ⟨.tuple [pld PP', pld GG'], .tuple [pld PP, pld GG], .tup (SqT.of (s89 _ _ i6)) (.cons (i7.same s89).dp (.cons (i8.same s89).dp .nil)), .tup (SqT.of upd_same) (.cons (hP7.same s89).dp (.cons (hG7.same s89).dp .nil)), pair_shaped i9.nams ia.nams, pair_shaped pl.nams plG.nams, _, rfl, tx, _, _, _, rfl, rfl, SqL.of (s89 _ _ id'), atI1, _, rfl, X, _, _, _, rfl, rfl, SqL.of (s89 _ _ eX7), atI1, rfl, rfl, _, rfl, ?_⟩
      rw [eqv_pair, pls_inj i5 n8 i9 ia ib ic pl plG nmG lP]
      exact iteNS rfl ⟨_, _, _, rfl, s89⟩
    rintro σ' H8 ⟨z12, z13, z14, rfl, s8⟩
    have eE8 := s8 _ _ eE7
    refine ⟨_, rfl, .inl ⟨rfl, _, SqL.of eE8⟩, _, rfl, _, rfl, _, rfl, by show 2 ≤ sizeLine; decide, fun q1 hq1 => ⟨_, rfl, by show 3 ≤ sizeLine; decide, fun q2 hq2 => ?_⟩⟩
    have w1 := same_upd (o := .tup [.ref p, .ref g]) hq1
    have w2 := same_upd (o := .tup [.ref h, .ref q1, .ref X]) hq2
    have e1 := w2 _ _ (upd_same (H := H8) (a := q1) (o := .tup [.ref p, .ref g]))
    have e2 : (upd (upd H8 q1 (.tup [.ref p, .ref g])) q2 (.tup [.ref h, .ref q1, .ref X])) q2 = some (.tup [.ref h, .ref q1, .ref X]) := upd_same
    have w := s8.trans (w1.trans w2)
    have eE9 := (w1.trans w2) _ _ eE8
    generalize upd (upd H8 q1 (.tup [.ref p, .ref g])) q2 (.tup [.ref h, .ref q1, .ref X]) = H9 at *
    have hS9 := hS7.same w
    have itm : Itm H9 s1 A1 E q2 := ⟨h, p, g, q1, X, n, D, PP, GG, e2, hH7.same w, hF, n1, n8, e1, hP7.same w, hG7.same w, pl, plG, nmG, lP, w _ _ eX7, zX.1.symm, zX.2.1.symm, XE⟩
    refine ⟨E, _, _, rfl, rfl, eE9, by rw [List.length_map, sizeLine_eq]; omega, ?_⟩
    refine ⟨es ++ [q2], _, _, _, _, _, _, _, _, _, _, _, _, rfl, (hS9.put zE).mono ?_, by rw [upd_same, List.map_append]; rfl, by rw [List.length_append]; show es.length + 1 ≤ i + 1; omega, fun e he => ?_⟩
    · show 300 * i + 112 + 90 * 2 ≤ 300 * (i + 1)
      omega
    · rcases List.mem_append.mp he with m | m
      · exact ((its7 e m).fr hS7 (Fr.of w)).put eE9
      · rw [List.mem_singleton.mp m]
        exact itm.put eE9
end
end Fw
set_option maxHeartbeats 8000000
namespace Fw
open PySem L2
theorem all_mk {P : Program} {w : World} {K : PySem.W.Frag} {h : Heap} {mg : Str → Option Value} {fa : Addr} (X : K.In h) (G : h.Ns mainGlobals mg) (hfa : mg "law" = some (.ref fa))
    {tk0 : Tok} (q0 : PySem.W.nsIn K mainGlobals "LINE_FEED" = some (some (.str "\n" tk0)))
    {tk1 : Tok} (q1 : PySem.W.nsIn K mainGlobals "MAX_ROOMS" = some (some (.int 8 tk1)))
    {tk2 : Tok} (q2 : PySem.W.nsIn K mainGlobals "MAX_PEOPLE" = some (some (.int 12 tk2)))
    {tk3 : Tok} (q3 : PySem.W.nsIn K mainGlobals "LONGEST_NAME" = some (some (.int 8 tk3)))
    {EE NH : Addr} {nmH qnH : Str} {bsH subH : List Value} {snH : List Str} {abH : Bool} {colH : Option Bool} {ddH : Option Addr} {pH qH rH sH tH : Option Value} (uHEa : PySem.W.nsIn K mainGlobals "HouseError" = some (some (.ref EE))) (uHEb : PySem.W.subIn K (.ref EE) (.type "BaseException") = some true) (uHEc : K.lookup EE = some (excClassObj nmH qnH EE NH bsH [.type "ValueError", .type "Exception", .type "BaseException", .type "object"] true snH subH abH colH ddH pH qH rH sH tH "ValueError.__new__")) (uHEd : PySem.W.typeIn K (.ref EE) = some (.type "type"))
    {CUnknownPerson gUnknownPerson NUnknownPerson : Addr} {nmUnknownPerson qnUnknownPerson : Str} {bsUnknownPerson subUnknownPerson : List Value} {snUnknownPerson : List Str} {abUnknownPerson : Bool} {colUnknownPerson : Option Bool} {ddUnknownPerson : Option Addr} {pUnknownPerson qUnknownPerson rUnknownPerson sUnknownPerson tUnknownPerson : Option Value} {gdUnknownPerson gaUnknownPerson : Option Addr} {gsUnknownPerson : Array (Option Value)} {goUnknownPerson gkUnknownPerson gvUnknownPerson gpUnknownPerson gcUnknownPerson gtUnknownPerson : Value}
    (uUnknownPersona : PySem.W.nsIn K mainGlobals "UnknownPerson" = some (some (.ref CUnknownPerson)))
    (uUnknownPersonb : K.lookup CUnknownPerson = some (excClassObj nmUnknownPerson qnUnknownPerson CUnknownPerson NUnknownPerson bsUnknownPerson (above EE) true snUnknownPerson subUnknownPerson abUnknownPerson colUnknownPerson ddUnknownPerson pUnknownPerson qUnknownPerson rUnknownPerson sUnknownPerson tUnknownPerson "ValueError.__new__"))
    (uUnknownPersonc : PySem.W.findIn K (.ref CUnknownPerson) "__setattr__" = some (some (.builtin "object.__setattr__"))) (uUnknownPersond : PySem.W.findIn K (.ref CUnknownPerson) "__getattribute__" = some (some (.builtin "BaseException.__getattribute__"))) (uUnknownPersone : PySem.W.findIn K (.ref CUnknownPerson) "__getattr__" = some none)
    (uUnknownPersonf : PySem.W.findIn K (.ref CUnknownPerson) "__init__" = some (some (.ref gUnknownPerson))) (uUnknownPersong : PySem.W.typeIn K (.ref gUnknownPerson) = some (.type "function"))
    (uUnknownPersonh : K.lookup gUnknownPerson = some ⟨goUnknownPerson, gdUnknownPerson, .func (PySem.W.fnOf "__init__" "UnknownPerson.__init__" (defArgs iUnknownPerson) (defBody iUnknownPerson) (defScope iUnknownPerson) .none gkUnknownPerson gvUnknownPerson gpUnknownPerson gaUnknownPerson gcUnknownPerson gtUnknownPerson), gsUnknownPerson⟩)
    (uUnknownPersoni : PySem.W.codeIn K gcUnknownPerson "UnknownPerson.__init__" = true) (uUnknownPersonj : PySem.W.keepIn K (.ref gUnknownPerson) = true) (uUnknownPersonk : PySem.W.keepIn K (.ref CUnknownPerson) = true) (uUnknownPersonl : PySem.W.typeIn K (.ref CUnknownPerson) = some (.type "type")) (uUnknownPersonm : PySem.W.hasDictIn K CUnknownPerson = true)
    (uUnknownPersonn : PySem.W.findIn K (.ref CUnknownPerson) "__class__" = some (some (.builtin "object.__class__"))) (uUnknownPersono : PySem.W.findIn K (.ref CUnknownPerson) "name" = some none)
    (uUnknownPersonp : PySem.W.specialIn K (.builtin "object.__class__") "__get__" = some (some (.builtin "getset_descriptor.__get__"))) (uUnknownPersonq : PySem.W.takesIn K (.builtin "object.__class__") = some true)
    {CInvalidRoom gInvalidRoom NInvalidRoom : Addr} {nmInvalidRoom qnInvalidRoom : Str} {bsInvalidRoom subInvalidRoom : List Value} {snInvalidRoom : List Str} {abInvalidRoom : Bool} {colInvalidRoom : Option Bool} {ddInvalidRoom : Option Addr} {pInvalidRoom qInvalidRoom rInvalidRoom sInvalidRoom tInvalidRoom : Option Value} {gdInvalidRoom gaInvalidRoom : Option Addr} {gsInvalidRoom : Array (Option Value)} {goInvalidRoom gkInvalidRoom gvInvalidRoom gpInvalidRoom gcInvalidRoom gtInvalidRoom : Value}
    (uInvalidRooma : PySem.W.nsIn K mainGlobals "InvalidRoom" = some (some (.ref CInvalidRoom)))
    (uInvalidRoomb : K.lookup CInvalidRoom = some (excClassObj nmInvalidRoom qnInvalidRoom CInvalidRoom NInvalidRoom bsInvalidRoom (above EE) true snInvalidRoom subInvalidRoom abInvalidRoom colInvalidRoom ddInvalidRoom pInvalidRoom qInvalidRoom rInvalidRoom sInvalidRoom tInvalidRoom "ValueError.__new__"))
    (uInvalidRoomc : PySem.W.findIn K (.ref CInvalidRoom) "__setattr__" = some (some (.builtin "object.__setattr__"))) (uInvalidRoomd : PySem.W.findIn K (.ref CInvalidRoom) "__getattribute__" = some (some (.builtin "BaseException.__getattribute__"))) (uInvalidRoome : PySem.W.findIn K (.ref CInvalidRoom) "__getattr__" = some none)
    (uInvalidRoomf : PySem.W.findIn K (.ref CInvalidRoom) "__init__" = some (some (.ref gInvalidRoom))) (uInvalidRoomg : PySem.W.typeIn K (.ref gInvalidRoom) = some (.type "function"))
    (uInvalidRoomh : K.lookup gInvalidRoom = some ⟨goInvalidRoom, gdInvalidRoom, .func (PySem.W.fnOf "__init__" "InvalidRoom.__init__" (defArgs iInvalidRoom) (defBody iInvalidRoom) (defScope iInvalidRoom) .none gkInvalidRoom gvInvalidRoom gpInvalidRoom gaInvalidRoom gcInvalidRoom gtInvalidRoom), gsInvalidRoom⟩)
    (uInvalidRoomi : PySem.W.codeIn K gcInvalidRoom "InvalidRoom.__init__" = true) (uInvalidRoomj : PySem.W.keepIn K (.ref gInvalidRoom) = true) (uInvalidRoomk : PySem.W.keepIn K (.ref CInvalidRoom) = true) (uInvalidRooml : PySem.W.typeIn K (.ref CInvalidRoom) = some (.type "type")) (uInvalidRoomm : PySem.W.hasDictIn K CInvalidRoom = true)
    (uInvalidRoomn : PySem.W.findIn K (.ref CInvalidRoom) "__class__" = some (some (.builtin "object.__class__"))) (uInvalidRoomo : PySem.W.findIn K (.ref CInvalidRoom) "room" = some none)
    (uInvalidRoomp : PySem.W.specialIn K (.builtin "object.__class__") "__get__" = some (some (.builtin "getset_descriptor.__get__"))) (uInvalidRoomq : PySem.W.takesIn K (.builtin "object.__class__") = some true)
    {CNotAdjacent gNotAdjacent NNotAdjacent : Addr} {nmNotAdjacent qnNotAdjacent : Str} {bsNotAdjacent subNotAdjacent : List Value} {snNotAdjacent : List Str} {abNotAdjacent : Bool} {colNotAdjacent : Option Bool} {ddNotAdjacent : Option Addr} {pNotAdjacent qNotAdjacent rNotAdjacent sNotAdjacent tNotAdjacent : Option Value} {gdNotAdjacent gaNotAdjacent : Option Addr} {gsNotAdjacent : Array (Option Value)} {goNotAdjacent gkNotAdjacent gvNotAdjacent gpNotAdjacent gcNotAdjacent gtNotAdjacent : Value}
    (uNotAdjacenta : PySem.W.nsIn K mainGlobals "NotAdjacent" = some (some (.ref CNotAdjacent)))
    (uNotAdjacentb : K.lookup CNotAdjacent = some (excClassObj nmNotAdjacent qnNotAdjacent CNotAdjacent NNotAdjacent bsNotAdjacent (above EE) true snNotAdjacent subNotAdjacent abNotAdjacent colNotAdjacent ddNotAdjacent pNotAdjacent qNotAdjacent rNotAdjacent sNotAdjacent tNotAdjacent "ValueError.__new__"))
    (uNotAdjacentc : PySem.W.findIn K (.ref CNotAdjacent) "__setattr__" = some (some (.builtin "object.__setattr__"))) (uNotAdjacentd : PySem.W.findIn K (.ref CNotAdjacent) "__getattribute__" = some (some (.builtin "BaseException.__getattribute__"))) (uNotAdjacente : PySem.W.findIn K (.ref CNotAdjacent) "__getattr__" = some none)
    (uNotAdjacentf : PySem.W.findIn K (.ref CNotAdjacent) "__init__" = some (some (.ref gNotAdjacent))) (uNotAdjacentg : PySem.W.typeIn K (.ref gNotAdjacent) = some (.type "function"))
    (uNotAdjacenth : K.lookup gNotAdjacent = some ⟨goNotAdjacent, gdNotAdjacent, .func (PySem.W.fnOf "__init__" "NotAdjacent.__init__" (defArgs iNotAdjacent) (defBody iNotAdjacent) (defScope iNotAdjacent) .none gkNotAdjacent gvNotAdjacent gpNotAdjacent gaNotAdjacent gcNotAdjacent gtNotAdjacent), gsNotAdjacent⟩)
    (uNotAdjacenti : PySem.W.codeIn K gcNotAdjacent "NotAdjacent.__init__" = true) (uNotAdjacentj : PySem.W.keepIn K (.ref gNotAdjacent) = true) (uNotAdjacentk : PySem.W.keepIn K (.ref CNotAdjacent) = true) (uNotAdjacentl : PySem.W.typeIn K (.ref CNotAdjacent) = some (.type "type")) (uNotAdjacentm : PySem.W.hasDictIn K CNotAdjacent = true)
    (uNotAdjacentn : PySem.W.findIn K (.ref CNotAdjacent) "__class__" = some (some (.builtin "object.__class__"))) (uNotAdjacento : PySem.W.findIn K (.ref CNotAdjacent) "room" = some none)
    (uNotAdjacentp : PySem.W.specialIn K (.builtin "object.__class__") "__get__" = some (some (.builtin "getset_descriptor.__get__"))) (uNotAdjacentq : PySem.W.takesIn K (.builtin "object.__class__") = some true)
    {CEmptyRoom gEmptyRoom NEmptyRoom : Addr} {nmEmptyRoom qnEmptyRoom : Str} {bsEmptyRoom subEmptyRoom : List Value} {snEmptyRoom : List Str} {abEmptyRoom : Bool} {colEmptyRoom : Option Bool} {ddEmptyRoom : Option Addr} {pEmptyRoom qEmptyRoom rEmptyRoom sEmptyRoom tEmptyRoom : Option Value} {gdEmptyRoom gaEmptyRoom : Option Addr} {gsEmptyRoom : Array (Option Value)} {goEmptyRoom gkEmptyRoom gvEmptyRoom gpEmptyRoom gcEmptyRoom gtEmptyRoom : Value}
    (uEmptyRooma : PySem.W.nsIn K mainGlobals "EmptyRoom" = some (some (.ref CEmptyRoom)))
    (uEmptyRoomb : K.lookup CEmptyRoom = some (excClassObj nmEmptyRoom qnEmptyRoom CEmptyRoom NEmptyRoom bsEmptyRoom (above EE) true snEmptyRoom subEmptyRoom abEmptyRoom colEmptyRoom ddEmptyRoom pEmptyRoom qEmptyRoom rEmptyRoom sEmptyRoom tEmptyRoom "ValueError.__new__"))
    (uEmptyRoomc : PySem.W.findIn K (.ref CEmptyRoom) "__setattr__" = some (some (.builtin "object.__setattr__"))) (uEmptyRoomd : PySem.W.findIn K (.ref CEmptyRoom) "__getattribute__" = some (some (.builtin "BaseException.__getattribute__"))) (uEmptyRoome : PySem.W.findIn K (.ref CEmptyRoom) "__getattr__" = some none)
    (uEmptyRoomf : PySem.W.findIn K (.ref CEmptyRoom) "__init__" = some (some (.ref gEmptyRoom))) (uEmptyRoomg : PySem.W.typeIn K (.ref gEmptyRoom) = some (.type "function"))
    (uEmptyRoomh : K.lookup gEmptyRoom = some ⟨goEmptyRoom, gdEmptyRoom, .func (PySem.W.fnOf "__init__" "EmptyRoom.__init__" (defArgs iEmptyRoom) (defBody iEmptyRoom) (defScope iEmptyRoom) .none gkEmptyRoom gvEmptyRoom gpEmptyRoom gaEmptyRoom gcEmptyRoom gtEmptyRoom), gsEmptyRoom⟩)
    (uEmptyRoomi : PySem.W.codeIn K gcEmptyRoom "EmptyRoom.__init__" = true) (uEmptyRoomj : PySem.W.keepIn K (.ref gEmptyRoom) = true) (uEmptyRoomk : PySem.W.keepIn K (.ref CEmptyRoom) = true) (uEmptyRooml : PySem.W.typeIn K (.ref CEmptyRoom) = some (.type "type")) (uEmptyRoomm : PySem.W.hasDictIn K CEmptyRoom = true)
    (uEmptyRoomn : PySem.W.findIn K (.ref CEmptyRoom) "__class__" = some (some (.builtin "object.__class__"))) (uEmptyRoomo : PySem.W.findIn K (.ref CEmptyRoom) "room" = some none)
    (uEmptyRoomp : PySem.W.specialIn K (.builtin "object.__class__") "__get__" = some (some (.builtin "getset_descriptor.__get__"))) (uEmptyRoomq : PySem.W.takesIn K (.builtin "object.__class__") = some true)
    {CInvalidMoves gInvalidMoves NInvalidMoves : Addr} {nmInvalidMoves qnInvalidMoves : Str} {bsInvalidMoves subInvalidMoves : List Value} {snInvalidMoves : List Str} {abInvalidMoves : Bool} {colInvalidMoves : Option Bool} {ddInvalidMoves : Option Addr} {pInvalidMoves qInvalidMoves rInvalidMoves sInvalidMoves tInvalidMoves : Option Value} {gdInvalidMoves gaInvalidMoves : Option Addr} {gsInvalidMoves : Array (Option Value)} {goInvalidMoves gkInvalidMoves gvInvalidMoves gpInvalidMoves gcInvalidMoves gtInvalidMoves : Value}
    (uInvalidMovesa : PySem.W.nsIn K mainGlobals "InvalidMoves" = some (some (.ref CInvalidMoves)))
    (uInvalidMovesb : K.lookup CInvalidMoves = some (excClassObj nmInvalidMoves qnInvalidMoves CInvalidMoves NInvalidMoves bsInvalidMoves (above EE) true snInvalidMoves subInvalidMoves abInvalidMoves colInvalidMoves ddInvalidMoves pInvalidMoves qInvalidMoves rInvalidMoves sInvalidMoves tInvalidMoves "ValueError.__new__"))
    (uInvalidMovesc : PySem.W.findIn K (.ref CInvalidMoves) "__setattr__" = some (some (.builtin "object.__setattr__"))) (uInvalidMovesd : PySem.W.findIn K (.ref CInvalidMoves) "__getattribute__" = some (some (.builtin "BaseException.__getattribute__"))) (uInvalidMovese : PySem.W.findIn K (.ref CInvalidMoves) "__getattr__" = some none)
    (uInvalidMovesf : PySem.W.findIn K (.ref CInvalidMoves) "__init__" = some (some (.ref gInvalidMoves))) (uInvalidMovesg : PySem.W.typeIn K (.ref gInvalidMoves) = some (.type "function"))
    (uInvalidMovesh : K.lookup gInvalidMoves = some ⟨goInvalidMoves, gdInvalidMoves, .func (PySem.W.fnOf "__init__" "InvalidMoves.__init__" (defArgs iInvalidMoves) (defBody iInvalidMoves) (defScope iInvalidMoves) .none gkInvalidMoves gvInvalidMoves gpInvalidMoves gaInvalidMoves gcInvalidMoves gtInvalidMoves), gsInvalidMoves⟩)
    (uInvalidMovesi : PySem.W.codeIn K gcInvalidMoves "InvalidMoves.__init__" = true) (uInvalidMovesj : PySem.W.keepIn K (.ref gInvalidMoves) = true) (uInvalidMovesk : PySem.W.keepIn K (.ref CInvalidMoves) = true) (uInvalidMovesl : PySem.W.typeIn K (.ref CInvalidMoves) = some (.type "type")) (uInvalidMovesm : PySem.W.hasDictIn K CInvalidMoves = true)
    (uInvalidMovesn : PySem.W.findIn K (.ref CInvalidMoves) "__class__" = some (some (.builtin "object.__class__"))) (uInvalidMoveso : PySem.W.findIn K (.ref CInvalidMoves) "position" = some none)
    (uInvalidMovesp : PySem.W.specialIn K (.builtin "object.__class__") "__get__" = some (some (.builtin "getset_descriptor.__get__"))) (uInvalidMovesq : PySem.W.takesIn K (.builtin "object.__class__") = some true)
    {COtherRegion gOtherRegion NOtherRegion : Addr} {nmOtherRegion qnOtherRegion : Str} {bsOtherRegion subOtherRegion : List Value} {snOtherRegion : List Str} {abOtherRegion : Bool} {colOtherRegion : Option Bool} {ddOtherRegion : Option Addr} {pOtherRegion qOtherRegion rOtherRegion sOtherRegion tOtherRegion : Option Value} {gdOtherRegion gaOtherRegion : Option Addr} {gsOtherRegion : Array (Option Value)} {goOtherRegion gkOtherRegion gvOtherRegion gpOtherRegion gcOtherRegion gtOtherRegion : Value}
    (uOtherRegiona : PySem.W.nsIn K mainGlobals "OtherRegion" = some (some (.ref COtherRegion)))
    (uOtherRegionb : K.lookup COtherRegion = some (excClassObj nmOtherRegion qnOtherRegion COtherRegion NOtherRegion bsOtherRegion (above EE) true snOtherRegion subOtherRegion abOtherRegion colOtherRegion ddOtherRegion pOtherRegion qOtherRegion rOtherRegion sOtherRegion tOtherRegion "ValueError.__new__"))
    (uOtherRegionc : PySem.W.findIn K (.ref COtherRegion) "__setattr__" = some (some (.builtin "object.__setattr__"))) (uOtherRegiond : PySem.W.findIn K (.ref COtherRegion) "__getattribute__" = some (some (.builtin "BaseException.__getattribute__"))) (uOtherRegione : PySem.W.findIn K (.ref COtherRegion) "__getattr__" = some none)
    (uOtherRegionf : PySem.W.findIn K (.ref COtherRegion) "__init__" = some (some (.ref gOtherRegion))) (uOtherRegiong : PySem.W.typeIn K (.ref gOtherRegion) = some (.type "function"))
    (uOtherRegionh : K.lookup gOtherRegion = some ⟨goOtherRegion, gdOtherRegion, .func (PySem.W.fnOf "__init__" "OtherRegion.__init__" (defArgs iOtherRegion) (defBody iOtherRegion) (defScope iOtherRegion) .none gkOtherRegion gvOtherRegion gpOtherRegion gaOtherRegion gcOtherRegion gtOtherRegion), gsOtherRegion⟩)
    (uOtherRegioni : PySem.W.codeIn K gcOtherRegion "OtherRegion.__init__" = true) (uOtherRegionj : PySem.W.keepIn K (.ref gOtherRegion) = true) (uOtherRegionk : PySem.W.keepIn K (.ref COtherRegion) = true) (uOtherRegionl : PySem.W.typeIn K (.ref COtherRegion) = some (.type "type")) (uOtherRegionm : PySem.W.hasDictIn K COtherRegion = true)
    (uOtherRegionn : PySem.W.findIn K (.ref COtherRegion) "__class__" = some (some (.builtin "object.__class__"))) (uOtherRegiono : PySem.W.findIn K (.ref COtherRegion) "room" = some none)
    (uOtherRegionp : PySem.W.specialIn K (.builtin "object.__class__") "__get__" = some (some (.builtin "getset_descriptor.__get__"))) (uOtherRegionq : PySem.W.takesIn K (.builtin "object.__class__") = some true)
    {CTightRegion gTightRegion NTightRegion : Addr} {nmTightRegion qnTightRegion : Str} {bsTightRegion subTightRegion : List Value} {snTightRegion : List Str} {abTightRegion : Bool} {colTightRegion : Option Bool} {ddTightRegion : Option Addr} {pTightRegion qTightRegion rTightRegion sTightRegion tTightRegion : Option Value} {gdTightRegion gaTightRegion : Option Addr} {gsTightRegion : Array (Option Value)} {goTightRegion gkTightRegion gvTightRegion gpTightRegion gcTightRegion gtTightRegion : Value}
    (uTightRegiona : PySem.W.nsIn K mainGlobals "TightRegion" = some (some (.ref CTightRegion)))
    (uTightRegionb : K.lookup CTightRegion = some (excClassObj nmTightRegion qnTightRegion CTightRegion NTightRegion bsTightRegion (above EE) true snTightRegion subTightRegion abTightRegion colTightRegion ddTightRegion pTightRegion qTightRegion rTightRegion sTightRegion tTightRegion "ValueError.__new__"))
    (uTightRegionc : PySem.W.findIn K (.ref CTightRegion) "__setattr__" = some (some (.builtin "object.__setattr__"))) (uTightRegiond : PySem.W.findIn K (.ref CTightRegion) "__getattribute__" = some (some (.builtin "BaseException.__getattribute__"))) (uTightRegione : PySem.W.findIn K (.ref CTightRegion) "__getattr__" = some none)
    (uTightRegionf : PySem.W.findIn K (.ref CTightRegion) "__init__" = some (some (.ref gTightRegion))) (uTightRegiong : PySem.W.typeIn K (.ref gTightRegion) = some (.type "function"))
    (uTightRegionh : K.lookup gTightRegion = some ⟨goTightRegion, gdTightRegion, .func (PySem.W.fnOf "__init__" "TightRegion.__init__" (defArgs iTightRegion) (defBody iTightRegion) (defScope iTightRegion) .none gkTightRegion gvTightRegion gpTightRegion gaTightRegion gcTightRegion gtTightRegion), gsTightRegion⟩)
    (uTightRegioni : PySem.W.codeIn K gcTightRegion "TightRegion.__init__" = true) (uTightRegionj : PySem.W.keepIn K (.ref gTightRegion) = true) (uTightRegionk : PySem.W.keepIn K (.ref CTightRegion) = true) (uTightRegionl : PySem.W.typeIn K (.ref CTightRegion) = some (.type "type")) (uTightRegionm : PySem.W.hasDictIn K CTightRegion = true)
    (uTightRegionn : PySem.W.findIn K (.ref CTightRegion) "__class__" = some (some (.builtin "object.__class__"))) (uTightRegiono : PySem.W.findIn K (.ref CTightRegion) "room" = some none)
    (uTightRegionp : PySem.W.specialIn K (.builtin "object.__class__") "__get__" = some (some (.builtin "getset_descriptor.__get__"))) (uTightRegionq : PySem.W.takesIn K (.builtin "object.__class__") = some true)
    {CBlocked gBlocked NBlocked : Addr} {nmBlocked qnBlocked : Str} {bsBlocked subBlocked : List Value} {snBlocked : List Str} {abBlocked : Bool} {colBlocked : Option Bool} {ddBlocked : Option Addr} {pBlocked qBlocked rBlocked sBlocked tBlocked : Option Value} {gdBlocked gaBlocked : Option Addr} {gsBlocked : Array (Option Value)} {goBlocked gkBlocked gvBlocked gpBlocked gcBlocked gtBlocked : Value}
    (uBlockeda : PySem.W.nsIn K mainGlobals "Blocked" = some (some (.ref CBlocked)))
    (uBlockedb : K.lookup CBlocked = some (excClassObj nmBlocked qnBlocked CBlocked NBlocked bsBlocked (above EE) true snBlocked subBlocked abBlocked colBlocked ddBlocked pBlocked qBlocked rBlocked sBlocked tBlocked "ValueError.__new__"))
    (uBlockedc : PySem.W.findIn K (.ref CBlocked) "__setattr__" = some (some (.builtin "object.__setattr__"))) (uBlockedd : PySem.W.findIn K (.ref CBlocked) "__getattribute__" = some (some (.builtin "BaseException.__getattribute__"))) (uBlockede : PySem.W.findIn K (.ref CBlocked) "__getattr__" = some none)
    (uBlockedf : PySem.W.findIn K (.ref CBlocked) "__init__" = some (some (.ref gBlocked))) (uBlockedg : PySem.W.typeIn K (.ref gBlocked) = some (.type "function"))
    (uBlockedh : K.lookup gBlocked = some ⟨goBlocked, gdBlocked, .func (PySem.W.fnOf "__init__" "Blocked.__init__" (defArgs iBlocked) (defBody iBlocked) (defScope iBlocked) .none gkBlocked gvBlocked gpBlocked gaBlocked gcBlocked gtBlocked), gsBlocked⟩)
    (uBlockedi : PySem.W.codeIn K gcBlocked "Blocked.__init__" = true) (uBlockedj : PySem.W.keepIn K (.ref gBlocked) = true) (uBlockedk : PySem.W.keepIn K (.ref CBlocked) = true) (uBlockedl : PySem.W.typeIn K (.ref CBlocked) = some (.type "type")) (uBlockedm : PySem.W.hasDictIn K CBlocked = true)
    (uBlockedn : PySem.W.findIn K (.ref CBlocked) "__class__" = some (some (.builtin "object.__class__"))) (uBlockedo : PySem.W.findIn K (.ref CBlocked) "block" = some none)
    (uBlockedp : PySem.W.specialIn K (.builtin "object.__class__") "__get__" = some (some (.builtin "getset_descriptor.__get__"))) (uBlockedq : PySem.W.takesIn K (.builtin "object.__class__") = some true)
    {CInvalidName gInvalidName NInvalidName : Addr} {nmInvalidName qnInvalidName : Str} {bsInvalidName subInvalidName : List Value} {snInvalidName : List Str} {abInvalidName : Bool} {colInvalidName : Option Bool} {ddInvalidName : Option Addr} {pInvalidName qInvalidName rInvalidName sInvalidName tInvalidName : Option Value} {gdInvalidName gaInvalidName : Option Addr} {gsInvalidName : Array (Option Value)} {goInvalidName gkInvalidName gvInvalidName gpInvalidName gcInvalidName gtInvalidName : Value}
    (uInvalidNamea : PySem.W.nsIn K mainGlobals "InvalidName" = some (some (.ref CInvalidName)))
    (uInvalidNameb : K.lookup CInvalidName = some (excClassObj nmInvalidName qnInvalidName CInvalidName NInvalidName bsInvalidName (above EE) true snInvalidName subInvalidName abInvalidName colInvalidName ddInvalidName pInvalidName qInvalidName rInvalidName sInvalidName tInvalidName "ValueError.__new__"))
    (uInvalidNamec : PySem.W.findIn K (.ref CInvalidName) "__setattr__" = some (some (.builtin "object.__setattr__"))) (uInvalidNamed : PySem.W.findIn K (.ref CInvalidName) "__getattribute__" = some (some (.builtin "BaseException.__getattribute__"))) (uInvalidNamee : PySem.W.findIn K (.ref CInvalidName) "__getattr__" = some none)
    (uInvalidNamef : PySem.W.findIn K (.ref CInvalidName) "__init__" = some (some (.ref gInvalidName))) (uInvalidNameg : PySem.W.typeIn K (.ref gInvalidName) = some (.type "function"))
    (uInvalidNameh : K.lookup gInvalidName = some ⟨goInvalidName, gdInvalidName, .func (PySem.W.fnOf "__init__" "InvalidName.__init__" (defArgs iInvalidName) (defBody iInvalidName) (defScope iInvalidName) .none gkInvalidName gvInvalidName gpInvalidName gaInvalidName gcInvalidName gtInvalidName), gsInvalidName⟩)
    (uInvalidNamei : PySem.W.codeIn K gcInvalidName "InvalidName.__init__" = true) (uInvalidNamej : PySem.W.keepIn K (.ref gInvalidName) = true) (uInvalidNamek : PySem.W.keepIn K (.ref CInvalidName) = true) (uInvalidNamel : PySem.W.typeIn K (.ref CInvalidName) = some (.type "type")) (uInvalidNamem : PySem.W.hasDictIn K CInvalidName = true)
    (uInvalidNamen : PySem.W.findIn K (.ref CInvalidName) "__class__" = some (some (.builtin "object.__class__"))) (uInvalidNameo : PySem.W.findIn K (.ref CInvalidName) "name" = some none)
    (uInvalidNamep : PySem.W.specialIn K (.builtin "object.__class__") "__get__" = some (some (.builtin "getset_descriptor.__get__"))) (uInvalidNameq : PySem.W.takesIn K (.builtin "object.__class__") = some true)
    {CDuplicateName gDuplicateName NDuplicateName : Addr} {nmDuplicateName qnDuplicateName : Str} {bsDuplicateName subDuplicateName : List Value} {snDuplicateName : List Str} {abDuplicateName : Bool} {colDuplicateName : Option Bool} {ddDuplicateName : Option Addr} {pDuplicateName qDuplicateName rDuplicateName sDuplicateName tDuplicateName : Option Value} {gdDuplicateName gaDuplicateName : Option Addr} {gsDuplicateName : Array (Option Value)} {goDuplicateName gkDuplicateName gvDuplicateName gpDuplicateName gcDuplicateName gtDuplicateName : Value}
    (uDuplicateNamea : PySem.W.nsIn K mainGlobals "DuplicateName" = some (some (.ref CDuplicateName)))
    (uDuplicateNameb : K.lookup CDuplicateName = some (excClassObj nmDuplicateName qnDuplicateName CDuplicateName NDuplicateName bsDuplicateName (above EE) true snDuplicateName subDuplicateName abDuplicateName colDuplicateName ddDuplicateName pDuplicateName qDuplicateName rDuplicateName sDuplicateName tDuplicateName "ValueError.__new__"))
    (uDuplicateNamec : PySem.W.findIn K (.ref CDuplicateName) "__setattr__" = some (some (.builtin "object.__setattr__"))) (uDuplicateNamed : PySem.W.findIn K (.ref CDuplicateName) "__getattribute__" = some (some (.builtin "BaseException.__getattribute__"))) (uDuplicateNamee : PySem.W.findIn K (.ref CDuplicateName) "__getattr__" = some none)
    (uDuplicateNamef : PySem.W.findIn K (.ref CDuplicateName) "__init__" = some (some (.ref gDuplicateName))) (uDuplicateNameg : PySem.W.typeIn K (.ref gDuplicateName) = some (.type "function"))
    (uDuplicateNameh : K.lookup gDuplicateName = some ⟨goDuplicateName, gdDuplicateName, .func (PySem.W.fnOf "__init__" "DuplicateName.__init__" (defArgs iDuplicateName) (defBody iDuplicateName) (defScope iDuplicateName) .none gkDuplicateName gvDuplicateName gpDuplicateName gaDuplicateName gcDuplicateName gtDuplicateName), gsDuplicateName⟩)
    (uDuplicateNamei : PySem.W.codeIn K gcDuplicateName "DuplicateName.__init__" = true) (uDuplicateNamej : PySem.W.keepIn K (.ref gDuplicateName) = true) (uDuplicateNamek : PySem.W.keepIn K (.ref CDuplicateName) = true) (uDuplicateNamel : PySem.W.typeIn K (.ref CDuplicateName) = some (.type "type")) (uDuplicateNamem : PySem.W.hasDictIn K CDuplicateName = true)
    (uDuplicateNamen : PySem.W.findIn K (.ref CDuplicateName) "__class__" = some (some (.builtin "object.__class__"))) (uDuplicateNameo : PySem.W.findIn K (.ref CDuplicateName) "name" = some none)
    (uDuplicateNamep : PySem.W.specialIn K (.builtin "object.__class__") "__get__" = some (some (.builtin "getset_descriptor.__get__"))) (uDuplicateNameq : PySem.W.takesIn K (.builtin "object.__class__") = some true)
    {CLimitReached gLimitReached NLimitReached : Addr} {nmLimitReached qnLimitReached : Str} {bsLimitReached subLimitReached : List Value} {snLimitReached : List Str} {abLimitReached : Bool} {colLimitReached : Option Bool} {ddLimitReached : Option Addr} {pLimitReached qLimitReached rLimitReached sLimitReached tLimitReached : Option Value} {gdLimitReached gaLimitReached : Option Addr} {gsLimitReached : Array (Option Value)} {goLimitReached gkLimitReached gvLimitReached gpLimitReached gcLimitReached gtLimitReached : Value}
    (uLimitReacheda : PySem.W.nsIn K mainGlobals "LimitReached" = some (some (.ref CLimitReached)))
    (uLimitReachedb : K.lookup CLimitReached = some (excClassObj nmLimitReached qnLimitReached CLimitReached NLimitReached bsLimitReached (above EE) true snLimitReached subLimitReached abLimitReached colLimitReached ddLimitReached pLimitReached qLimitReached rLimitReached sLimitReached tLimitReached "ValueError.__new__"))
    (uLimitReachedc : PySem.W.findIn K (.ref CLimitReached) "__setattr__" = some (some (.builtin "object.__setattr__"))) (uLimitReachedd : PySem.W.findIn K (.ref CLimitReached) "__getattribute__" = some (some (.builtin "BaseException.__getattribute__"))) (uLimitReachede : PySem.W.findIn K (.ref CLimitReached) "__getattr__" = some none)
    (uLimitReachedf : PySem.W.findIn K (.ref CLimitReached) "__init__" = some (some (.ref gLimitReached))) (uLimitReachedg : PySem.W.typeIn K (.ref gLimitReached) = some (.type "function"))
    (uLimitReachedh : K.lookup gLimitReached = some ⟨goLimitReached, gdLimitReached, .func (PySem.W.fnOf "__init__" "LimitReached.__init__" (defArgs iLimitReached) (defBody iLimitReached) (defScope iLimitReached) .none gkLimitReached gvLimitReached gpLimitReached gaLimitReached gcLimitReached gtLimitReached), gsLimitReached⟩)
    (uLimitReachedi : PySem.W.codeIn K gcLimitReached "LimitReached.__init__" = true) (uLimitReachedj : PySem.W.keepIn K (.ref gLimitReached) = true) (uLimitReachedk : PySem.W.keepIn K (.ref CLimitReached) = true) (uLimitReachedl : PySem.W.typeIn K (.ref CLimitReached) = some (.type "type")) (uLimitReachedm : PySem.W.hasDictIn K CLimitReached = true)
    (uLimitReachedn : PySem.W.findIn K (.ref CLimitReached) "__class__" = some (some (.builtin "object.__class__"))) (uLimitReachedo : PySem.W.findIn K (.ref CLimitReached) "limit" = some none)
    (uLimitReachedp : PySem.W.specialIn K (.builtin "object.__class__") "__get__" = some (some (.builtin "getset_descriptor.__get__"))) (uLimitReachedq : PySem.W.takesIn K (.builtin "object.__class__") = some true)
    {CAlreadyAdjacent gAlreadyAdjacent NAlreadyAdjacent : Addr} {nmAlreadyAdjacent qnAlreadyAdjacent : Str} {bsAlreadyAdjacent subAlreadyAdjacent : List Value} {snAlreadyAdjacent : List Str} {abAlreadyAdjacent : Bool} {colAlreadyAdjacent : Option Bool} {ddAlreadyAdjacent : Option Addr} {pAlreadyAdjacent qAlreadyAdjacent rAlreadyAdjacent sAlreadyAdjacent tAlreadyAdjacent : Option Value} {gdAlreadyAdjacent gaAlreadyAdjacent : Option Addr} {gsAlreadyAdjacent : Array (Option Value)} {goAlreadyAdjacent gkAlreadyAdjacent gvAlreadyAdjacent gpAlreadyAdjacent gcAlreadyAdjacent gtAlreadyAdjacent : Value}
    (uAlreadyAdjacenta : PySem.W.nsIn K mainGlobals "AlreadyAdjacent" = some (some (.ref CAlreadyAdjacent)))
    (uAlreadyAdjacentb : K.lookup CAlreadyAdjacent = some (excClassObj nmAlreadyAdjacent qnAlreadyAdjacent CAlreadyAdjacent NAlreadyAdjacent bsAlreadyAdjacent (above EE) true snAlreadyAdjacent subAlreadyAdjacent abAlreadyAdjacent colAlreadyAdjacent ddAlreadyAdjacent pAlreadyAdjacent qAlreadyAdjacent rAlreadyAdjacent sAlreadyAdjacent tAlreadyAdjacent "ValueError.__new__"))
    (uAlreadyAdjacentc : PySem.W.findIn K (.ref CAlreadyAdjacent) "__setattr__" = some (some (.builtin "object.__setattr__"))) (uAlreadyAdjacentd : PySem.W.findIn K (.ref CAlreadyAdjacent) "__getattribute__" = some (some (.builtin "BaseException.__getattribute__"))) (uAlreadyAdjacente : PySem.W.findIn K (.ref CAlreadyAdjacent) "__getattr__" = some none)
    (uAlreadyAdjacentf : PySem.W.findIn K (.ref CAlreadyAdjacent) "__init__" = some (some (.ref gAlreadyAdjacent))) (uAlreadyAdjacentg : PySem.W.typeIn K (.ref gAlreadyAdjacent) = some (.type "function"))
    (uAlreadyAdjacenth : K.lookup gAlreadyAdjacent = some ⟨goAlreadyAdjacent, gdAlreadyAdjacent, .func (PySem.W.fnOf "__init__" "AlreadyAdjacent.__init__" (defArgs iAlreadyAdjacent) (defBody iAlreadyAdjacent) (defScope iAlreadyAdjacent) .none gkAlreadyAdjacent gvAlreadyAdjacent gpAlreadyAdjacent gaAlreadyAdjacent gcAlreadyAdjacent gtAlreadyAdjacent), gsAlreadyAdjacent⟩)
    (uAlreadyAdjacenti : PySem.W.codeIn K gcAlreadyAdjacent "AlreadyAdjacent.__init__" = true) (uAlreadyAdjacentj : PySem.W.keepIn K (.ref gAlreadyAdjacent) = true) (uAlreadyAdjacentk : PySem.W.keepIn K (.ref CAlreadyAdjacent) = true) (uAlreadyAdjacentl : PySem.W.typeIn K (.ref CAlreadyAdjacent) = some (.type "type")) (uAlreadyAdjacentm : PySem.W.hasDictIn K CAlreadyAdjacent = true)
    (uAlreadyAdjacentn : PySem.W.findIn K (.ref CAlreadyAdjacent) "__class__" = some (some (.builtin "object.__class__"))) (uAlreadyAdjacento : PySem.W.findIn K (.ref CAlreadyAdjacent) "room" = some none)
    (uAlreadyAdjacentp : PySem.W.specialIn K (.builtin "object.__class__") "__get__" = some (some (.builtin "getset_descriptor.__get__"))) (uAlreadyAdjacentq : PySem.W.takesIn K (.builtin "object.__class__") = some true)
    {CWouldFormCycle gWouldFormCycle NWouldFormCycle : Addr} {nmWouldFormCycle qnWouldFormCycle : Str} {bsWouldFormCycle subWouldFormCycle : List Value} {snWouldFormCycle : List Str} {abWouldFormCycle : Bool} {colWouldFormCycle : Option Bool} {ddWouldFormCycle : Option Addr} {pWouldFormCycle qWouldFormCycle rWouldFormCycle sWouldFormCycle tWouldFormCycle : Option Value} {gdWouldFormCycle gaWouldFormCycle : Option Addr} {gsWouldFormCycle : Array (Option Value)} {goWouldFormCycle gkWouldFormCycle gvWouldFormCycle gpWouldFormCycle gcWouldFormCycle gtWouldFormCycle : Value}
    (uWouldFormCyclea : PySem.W.nsIn K mainGlobals "WouldFormCycle" = some (some (.ref CWouldFormCycle)))
    (uWouldFormCycleb : K.lookup CWouldFormCycle = some (excClassObj nmWouldFormCycle qnWouldFormCycle CWouldFormCycle NWouldFormCycle bsWouldFormCycle (above EE) true snWouldFormCycle subWouldFormCycle abWouldFormCycle colWouldFormCycle ddWouldFormCycle pWouldFormCycle qWouldFormCycle rWouldFormCycle sWouldFormCycle tWouldFormCycle "ValueError.__new__"))
    (uWouldFormCyclec : PySem.W.findIn K (.ref CWouldFormCycle) "__setattr__" = some (some (.builtin "object.__setattr__"))) (uWouldFormCycled : PySem.W.findIn K (.ref CWouldFormCycle) "__getattribute__" = some (some (.builtin "BaseException.__getattribute__"))) (uWouldFormCyclee : PySem.W.findIn K (.ref CWouldFormCycle) "__getattr__" = some none)
    (uWouldFormCyclef : PySem.W.findIn K (.ref CWouldFormCycle) "__init__" = some (some (.ref gWouldFormCycle))) (uWouldFormCycleg : PySem.W.typeIn K (.ref gWouldFormCycle) = some (.type "function"))
    (uWouldFormCycleh : K.lookup gWouldFormCycle = some ⟨goWouldFormCycle, gdWouldFormCycle, .func (PySem.W.fnOf "__init__" "WouldFormCycle.__init__" (defArgs iWouldFormCycle) (defBody iWouldFormCycle) (defScope iWouldFormCycle) .none gkWouldFormCycle gvWouldFormCycle gpWouldFormCycle gaWouldFormCycle gcWouldFormCycle gtWouldFormCycle), gsWouldFormCycle⟩)
    (uWouldFormCyclei : PySem.W.codeIn K gcWouldFormCycle "WouldFormCycle.__init__" = true) (uWouldFormCyclej : PySem.W.keepIn K (.ref gWouldFormCycle) = true) (uWouldFormCyclek : PySem.W.keepIn K (.ref CWouldFormCycle) = true) (uWouldFormCyclel : PySem.W.typeIn K (.ref CWouldFormCycle) = some (.type "type")) (uWouldFormCyclem : PySem.W.hasDictIn K CWouldFormCycle = true)
    (uWouldFormCyclen : PySem.W.findIn K (.ref CWouldFormCycle) "__class__" = some (some (.builtin "object.__class__"))) (uWouldFormCycleo : PySem.W.findIn K (.ref CWouldFormCycle) "room" = some none)
    (uWouldFormCyclep : PySem.W.specialIn K (.builtin "object.__class__") "__get__" = some (some (.builtin "getset_descriptor.__get__"))) (uWouldFormCycleq : PySem.W.takesIn K (.builtin "object.__class__") = some true)
    {CBatchFailed gBatchFailed NBatchFailed : Addr} {nmBatchFailed qnBatchFailed : Str} {bsBatchFailed subBatchFailed : List Value} {snBatchFailed : List Str} {abBatchFailed : Bool} {colBatchFailed : Option Bool} {ddBatchFailed : Option Addr} {pBatchFailed qBatchFailed rBatchFailed sBatchFailed tBatchFailed : Option Value} {gdBatchFailed gaBatchFailed : Option Addr} {gsBatchFailed : Array (Option Value)} {goBatchFailed gkBatchFailed gvBatchFailed gpBatchFailed gcBatchFailed gtBatchFailed : Value}
    (uBatchFaileda : PySem.W.nsIn K mainGlobals "BatchFailed" = some (some (.ref CBatchFailed)))
    (uBatchFailedb : K.lookup CBatchFailed = some (excClassObj nmBatchFailed qnBatchFailed CBatchFailed NBatchFailed bsBatchFailed (above EE) true snBatchFailed subBatchFailed abBatchFailed colBatchFailed ddBatchFailed pBatchFailed qBatchFailed rBatchFailed sBatchFailed tBatchFailed "ValueError.__new__"))
    (uBatchFailedc : PySem.W.findIn K (.ref CBatchFailed) "__setattr__" = some (some (.builtin "object.__setattr__"))) (uBatchFailedd : PySem.W.findIn K (.ref CBatchFailed) "__getattribute__" = some (some (.builtin "BaseException.__getattribute__"))) (uBatchFailede : PySem.W.findIn K (.ref CBatchFailed) "__getattr__" = some none)
    (uBatchFailedf : PySem.W.findIn K (.ref CBatchFailed) "__init__" = some (some (.ref gBatchFailed))) (uBatchFailedg : PySem.W.typeIn K (.ref gBatchFailed) = some (.type "function"))
    (uBatchFailedh : K.lookup gBatchFailed = some ⟨goBatchFailed, gdBatchFailed, .func (PySem.W.fnOf "__init__" "BatchFailed.__init__" (defArgs iBatchFailed) (defBody iBatchFailed) (defScope iBatchFailed) .none gkBatchFailed gvBatchFailed gpBatchFailed gaBatchFailed gcBatchFailed gtBatchFailed), gsBatchFailed⟩)
    (uBatchFailedi : PySem.W.codeIn K gcBatchFailed "BatchFailed.__init__" = true) (uBatchFailedj : PySem.W.keepIn K (.ref gBatchFailed) = true) (uBatchFailedk : PySem.W.keepIn K (.ref CBatchFailed) = true) (uBatchFailedl : PySem.W.typeIn K (.ref CBatchFailed) = some (.type "type")) (uBatchFailedm : PySem.W.hasDictIn K CBatchFailed = true)
    (uBatchFailedn : PySem.W.findIn K (.ref CBatchFailed) "__class__" = some (some (.builtin "object.__class__"))) (uBatchFailedo : PySem.W.findIn K (.ref CBatchFailed) "position" = some none)
    (uBatchFailedp : PySem.W.specialIn K (.builtin "object.__class__") "__get__" = some (some (.builtin "getset_descriptor.__get__"))) (uBatchFailedq : PySem.W.takesIn K (.builtin "object.__class__") = some true)
    {CInvalidMoment gInvalidMoment NInvalidMoment : Addr} {nmInvalidMoment qnInvalidMoment : Str} {bsInvalidMoment subInvalidMoment : List Value} {snInvalidMoment : List Str} {abInvalidMoment : Bool} {colInvalidMoment : Option Bool} {ddInvalidMoment : Option Addr} {pInvalidMoment qInvalidMoment rInvalidMoment sInvalidMoment tInvalidMoment : Option Value} {gdInvalidMoment gaInvalidMoment : Option Addr} {gsInvalidMoment : Array (Option Value)} {goInvalidMoment gkInvalidMoment gvInvalidMoment gpInvalidMoment gcInvalidMoment gtInvalidMoment : Value}
    (uInvalidMomenta : PySem.W.nsIn K mainGlobals "InvalidMoment" = some (some (.ref CInvalidMoment)))
    (uInvalidMomentb : K.lookup CInvalidMoment = some (excClassObj nmInvalidMoment qnInvalidMoment CInvalidMoment NInvalidMoment bsInvalidMoment (above EE) true snInvalidMoment subInvalidMoment abInvalidMoment colInvalidMoment ddInvalidMoment pInvalidMoment qInvalidMoment rInvalidMoment sInvalidMoment tInvalidMoment "ValueError.__new__"))
    (uInvalidMomentc : PySem.W.findIn K (.ref CInvalidMoment) "__setattr__" = some (some (.builtin "object.__setattr__"))) (uInvalidMomentd : PySem.W.findIn K (.ref CInvalidMoment) "__getattribute__" = some (some (.builtin "BaseException.__getattribute__"))) (uInvalidMomente : PySem.W.findIn K (.ref CInvalidMoment) "__getattr__" = some none)
    (uInvalidMomentf : PySem.W.findIn K (.ref CInvalidMoment) "__init__" = some (some (.ref gInvalidMoment))) (uInvalidMomentg : PySem.W.typeIn K (.ref gInvalidMoment) = some (.type "function"))
    (uInvalidMomenth : K.lookup gInvalidMoment = some ⟨goInvalidMoment, gdInvalidMoment, .func (PySem.W.fnOf "__init__" "InvalidMoment.__init__" (defArgs iInvalidMoment) (defBody iInvalidMoment) (defScope iInvalidMoment) .none gkInvalidMoment gvInvalidMoment gpInvalidMoment gaInvalidMoment gcInvalidMoment gtInvalidMoment), gsInvalidMoment⟩)
    (uInvalidMomenti : PySem.W.codeIn K gcInvalidMoment "InvalidMoment.__init__" = true) (uInvalidMomentj : PySem.W.keepIn K (.ref gInvalidMoment) = true) (uInvalidMomentk : PySem.W.keepIn K (.ref CInvalidMoment) = true) (uInvalidMomentl : PySem.W.typeIn K (.ref CInvalidMoment) = some (.type "type")) (uInvalidMomentm : PySem.W.hasDictIn K CInvalidMoment = true)
    (uInvalidMomentn : PySem.W.findIn K (.ref CInvalidMoment) "__class__" = some (some (.builtin "object.__class__"))) (uInvalidMomento : PySem.W.findIn K (.ref CInvalidMoment) "position" = some none)
    (uInvalidMomentp : PySem.W.specialIn K (.builtin "object.__class__") "__get__" = some (some (.builtin "getset_descriptor.__get__"))) (uInvalidMomentq : PySem.W.takesIn K (.builtin "object.__class__") = some true)
    {CInvalidText gInvalidText NInvalidText : Addr} {nmInvalidText qnInvalidText : Str} {bsInvalidText subInvalidText : List Value} {snInvalidText : List Str} {abInvalidText : Bool} {colInvalidText : Option Bool} {ddInvalidText : Option Addr} {pInvalidText qInvalidText rInvalidText sInvalidText tInvalidText : Option Value} {gdInvalidText gaInvalidText : Option Addr} {gsInvalidText : Array (Option Value)} {goInvalidText gkInvalidText gvInvalidText gpInvalidText gcInvalidText gtInvalidText : Value}
    (uInvalidTexta : PySem.W.nsIn K mainGlobals "InvalidText" = some (some (.ref CInvalidText)))
    (uInvalidTextb : K.lookup CInvalidText = some (excClassObj nmInvalidText qnInvalidText CInvalidText NInvalidText bsInvalidText (above EE) true snInvalidText subInvalidText abInvalidText colInvalidText ddInvalidText pInvalidText qInvalidText rInvalidText sInvalidText tInvalidText "ValueError.__new__"))
    (uInvalidTextc : PySem.W.findIn K (.ref CInvalidText) "__setattr__" = some (some (.builtin "object.__setattr__"))) (uInvalidTextd : PySem.W.findIn K (.ref CInvalidText) "__getattribute__" = some (some (.builtin "BaseException.__getattribute__"))) (uInvalidTexte : PySem.W.findIn K (.ref CInvalidText) "__getattr__" = some none)
    (uInvalidTextf : PySem.W.findIn K (.ref CInvalidText) "__init__" = some (some (.ref gInvalidText))) (uInvalidTextg : PySem.W.typeIn K (.ref gInvalidText) = some (.type "function"))
    (uInvalidTexth : K.lookup gInvalidText = some ⟨goInvalidText, gdInvalidText, .func (PySem.W.fnOf "__init__" "InvalidText.__init__" (defArgs iInvalidText) (defBody iInvalidText) (defScope iInvalidText) .none gkInvalidText gvInvalidText gpInvalidText gaInvalidText gcInvalidText gtInvalidText), gsInvalidText⟩)
    (uInvalidTexti : PySem.W.codeIn K gcInvalidText "InvalidText.__init__" = true) (uInvalidTextj : PySem.W.keepIn K (.ref gInvalidText) = true) (uInvalidTextk : PySem.W.keepIn K (.ref CInvalidText) = true) (uInvalidTextl : PySem.W.typeIn K (.ref CInvalidText) = some (.type "type")) (uInvalidTextm : PySem.W.hasDictIn K CInvalidText = true)
    (uInvalidTextn : PySem.W.findIn K (.ref CInvalidText) "__class__" = some (some (.builtin "object.__class__"))) (uInvalidTexto : PySem.W.findIn K (.ref CInvalidText) "position" = some none)
    (uInvalidTextp : PySem.W.specialIn K (.builtin "object.__class__") "__get__" = some (some (.builtin "getset_descriptor.__get__"))) (uInvalidTextq : PySem.W.takesIn K (.builtin "object.__class__") = some true)
    {CNothingToUndo gNothingToUndo NNothingToUndo : Addr} {nmNothingToUndo qnNothingToUndo : Str} {bsNothingToUndo subNothingToUndo : List Value} {snNothingToUndo : List Str} {abNothingToUndo : Bool} {colNothingToUndo : Option Bool} {ddNothingToUndo : Option Addr} {pNothingToUndo qNothingToUndo rNothingToUndo sNothingToUndo tNothingToUndo : Option Value} {gdNothingToUndo gaNothingToUndo : Option Addr} {gsNothingToUndo : Array (Option Value)} {goNothingToUndo gkNothingToUndo gvNothingToUndo gpNothingToUndo gcNothingToUndo gtNothingToUndo : Value}
    (uNothingToUndoa : PySem.W.nsIn K mainGlobals "NothingToUndo" = some (some (.ref CNothingToUndo)))
    (uNothingToUndob : K.lookup CNothingToUndo = some (excClassObj nmNothingToUndo qnNothingToUndo CNothingToUndo NNothingToUndo bsNothingToUndo (above EE) true snNothingToUndo subNothingToUndo abNothingToUndo colNothingToUndo ddNothingToUndo pNothingToUndo qNothingToUndo rNothingToUndo sNothingToUndo tNothingToUndo "ValueError.__new__"))
    (uNothingToUndoc : PySem.W.findIn K (.ref CNothingToUndo) "__setattr__" = some (some (.builtin "object.__setattr__"))) (uNothingToUndod : PySem.W.findIn K (.ref CNothingToUndo) "__getattribute__" = some (some (.builtin "BaseException.__getattribute__"))) (uNothingToUndoe : PySem.W.findIn K (.ref CNothingToUndo) "__getattr__" = some none)
    (uNothingToUndof : PySem.W.findIn K (.ref CNothingToUndo) "__init__" = some (some (.ref gNothingToUndo))) (uNothingToUndog : PySem.W.typeIn K (.ref gNothingToUndo) = some (.type "function"))
    (uNothingToUndoh : K.lookup gNothingToUndo = some ⟨goNothingToUndo, gdNothingToUndo, .func (PySem.W.fnOf "__init__" "NothingToUndo.__init__" (defArgs iNothingToUndo) (defBody iNothingToUndo) (defScope iNothingToUndo) .none gkNothingToUndo gvNothingToUndo gpNothingToUndo gaNothingToUndo gcNothingToUndo gtNothingToUndo), gsNothingToUndo⟩)
    (uNothingToUndoi : PySem.W.codeIn K gcNothingToUndo "NothingToUndo.__init__" = true) (uNothingToUndoj : PySem.W.keepIn K (.ref gNothingToUndo) = true) (uNothingToUndok : PySem.W.keepIn K (.ref CNothingToUndo) = true) (uNothingToUndol : PySem.W.typeIn K (.ref CNothingToUndo) = some (.type "type")) (uNothingToUndom : PySem.W.hasDictIn K CNothingToUndo = true)
    (uNothingToUndon : PySem.W.findIn K (.ref CNothingToUndo) "__class__" = some (some (.builtin "object.__class__")))
    (uNothingToUndop : PySem.W.specialIn K (.builtin "object.__class__") "__get__" = some (some (.builtin "getset_descriptor.__get__"))) (uNothingToUndoq : PySem.W.takesIn K (.builtin "object.__class__") = some true)
    {CHistoryFull gHistoryFull NHistoryFull : Addr} {nmHistoryFull qnHistoryFull : Str} {bsHistoryFull subHistoryFull : List Value} {snHistoryFull : List Str} {abHistoryFull : Bool} {colHistoryFull : Option Bool} {ddHistoryFull : Option Addr} {pHistoryFull qHistoryFull rHistoryFull sHistoryFull tHistoryFull : Option Value} {gdHistoryFull gaHistoryFull : Option Addr} {gsHistoryFull : Array (Option Value)} {goHistoryFull gkHistoryFull gvHistoryFull gpHistoryFull gcHistoryFull gtHistoryFull : Value}
    (uHistoryFulla : PySem.W.nsIn K mainGlobals "HistoryFull" = some (some (.ref CHistoryFull)))
    (uHistoryFullb : K.lookup CHistoryFull = some (excClassObj nmHistoryFull qnHistoryFull CHistoryFull NHistoryFull bsHistoryFull (above EE) true snHistoryFull subHistoryFull abHistoryFull colHistoryFull ddHistoryFull pHistoryFull qHistoryFull rHistoryFull sHistoryFull tHistoryFull "ValueError.__new__"))
    (uHistoryFullc : PySem.W.findIn K (.ref CHistoryFull) "__setattr__" = some (some (.builtin "object.__setattr__"))) (uHistoryFulld : PySem.W.findIn K (.ref CHistoryFull) "__getattribute__" = some (some (.builtin "BaseException.__getattribute__"))) (uHistoryFulle : PySem.W.findIn K (.ref CHistoryFull) "__getattr__" = some none)
    (uHistoryFullf : PySem.W.findIn K (.ref CHistoryFull) "__init__" = some (some (.ref gHistoryFull))) (uHistoryFullg : PySem.W.typeIn K (.ref gHistoryFull) = some (.type "function"))
    (uHistoryFullh : K.lookup gHistoryFull = some ⟨goHistoryFull, gdHistoryFull, .func (PySem.W.fnOf "__init__" "HistoryFull.__init__" (defArgs iHistoryFull) (defBody iHistoryFull) (defScope iHistoryFull) .none gkHistoryFull gvHistoryFull gpHistoryFull gaHistoryFull gcHistoryFull gtHistoryFull), gsHistoryFull⟩)
    (uHistoryFulli : PySem.W.codeIn K gcHistoryFull "HistoryFull.__init__" = true) (uHistoryFullj : PySem.W.keepIn K (.ref gHistoryFull) = true) (uHistoryFullk : PySem.W.keepIn K (.ref CHistoryFull) = true) (uHistoryFulll : PySem.W.typeIn K (.ref CHistoryFull) = some (.type "type")) (uHistoryFullm : PySem.W.hasDictIn K CHistoryFull = true)
    (uHistoryFulln : PySem.W.findIn K (.ref CHistoryFull) "__class__" = some (some (.builtin "object.__class__")))
    (uHistoryFullp : PySem.W.specialIn K (.builtin "object.__class__") "__get__" = some (some (.builtin "getset_descriptor.__get__"))) (uHistoryFullq : PySem.W.takesIn K (.builtin "object.__class__") = some true)
    {CSessionBusy gSessionBusy NSessionBusy : Addr} {nmSessionBusy qnSessionBusy : Str} {bsSessionBusy subSessionBusy : List Value} {snSessionBusy : List Str} {abSessionBusy : Bool} {colSessionBusy : Option Bool} {ddSessionBusy : Option Addr} {pSessionBusy qSessionBusy rSessionBusy sSessionBusy tSessionBusy : Option Value} {gdSessionBusy gaSessionBusy : Option Addr} {gsSessionBusy : Array (Option Value)} {goSessionBusy gkSessionBusy gvSessionBusy gpSessionBusy gcSessionBusy gtSessionBusy : Value}
    (uSessionBusya : PySem.W.nsIn K mainGlobals "SessionBusy" = some (some (.ref CSessionBusy)))
    (uSessionBusyb : K.lookup CSessionBusy = some (excClassObj nmSessionBusy qnSessionBusy CSessionBusy NSessionBusy bsSessionBusy (above EE) true snSessionBusy subSessionBusy abSessionBusy colSessionBusy ddSessionBusy pSessionBusy qSessionBusy rSessionBusy sSessionBusy tSessionBusy "ValueError.__new__"))
    (uSessionBusyc : PySem.W.findIn K (.ref CSessionBusy) "__setattr__" = some (some (.builtin "object.__setattr__"))) (uSessionBusyd : PySem.W.findIn K (.ref CSessionBusy) "__getattribute__" = some (some (.builtin "BaseException.__getattribute__"))) (uSessionBusye : PySem.W.findIn K (.ref CSessionBusy) "__getattr__" = some none)
    (uSessionBusyf : PySem.W.findIn K (.ref CSessionBusy) "__init__" = some (some (.ref gSessionBusy))) (uSessionBusyg : PySem.W.typeIn K (.ref gSessionBusy) = some (.type "function"))
    (uSessionBusyh : K.lookup gSessionBusy = some ⟨goSessionBusy, gdSessionBusy, .func (PySem.W.fnOf "__init__" "SessionBusy.__init__" (defArgs iSessionBusy) (defBody iSessionBusy) (defScope iSessionBusy) .none gkSessionBusy gvSessionBusy gpSessionBusy gaSessionBusy gcSessionBusy gtSessionBusy), gsSessionBusy⟩)
    (uSessionBusyi : PySem.W.codeIn K gcSessionBusy "SessionBusy.__init__" = true) (uSessionBusyj : PySem.W.keepIn K (.ref gSessionBusy) = true) (uSessionBusyk : PySem.W.keepIn K (.ref CSessionBusy) = true) (uSessionBusyl : PySem.W.typeIn K (.ref CSessionBusy) = some (.type "type")) (uSessionBusym : PySem.W.hasDictIn K CSessionBusy = true)
    (uSessionBusyn : PySem.W.findIn K (.ref CSessionBusy) "__class__" = some (some (.builtin "object.__class__")))
    (uSessionBusyp : PySem.W.specialIn K (.builtin "object.__class__") "__get__" = some (some (.builtin "getset_descriptor.__get__"))) (uSessionBusyq : PySem.W.takesIn K (.builtin "object.__class__") = some true)
    {CInvalidActions gInvalidActions NInvalidActions : Addr} {nmInvalidActions qnInvalidActions : Str} {bsInvalidActions subInvalidActions : List Value} {snInvalidActions : List Str} {abInvalidActions : Bool} {colInvalidActions : Option Bool} {ddInvalidActions : Option Addr} {pInvalidActions qInvalidActions rInvalidActions sInvalidActions tInvalidActions : Option Value} {gdInvalidActions gaInvalidActions : Option Addr} {gsInvalidActions : Array (Option Value)} {goInvalidActions gkInvalidActions gvInvalidActions gpInvalidActions gcInvalidActions gtInvalidActions : Value}
    (uInvalidActionsa : PySem.W.nsIn K mainGlobals "InvalidActions" = some (some (.ref CInvalidActions)))
    (uInvalidActionsb : K.lookup CInvalidActions = some (excClassObj nmInvalidActions qnInvalidActions CInvalidActions NInvalidActions bsInvalidActions (above EE) true snInvalidActions subInvalidActions abInvalidActions colInvalidActions ddInvalidActions pInvalidActions qInvalidActions rInvalidActions sInvalidActions tInvalidActions "ValueError.__new__"))
    (uInvalidActionsc : PySem.W.findIn K (.ref CInvalidActions) "__setattr__" = some (some (.builtin "object.__setattr__"))) (uInvalidActionsd : PySem.W.findIn K (.ref CInvalidActions) "__getattribute__" = some (some (.builtin "BaseException.__getattribute__"))) (uInvalidActionse : PySem.W.findIn K (.ref CInvalidActions) "__getattr__" = some none)
    (uInvalidActionsf : PySem.W.findIn K (.ref CInvalidActions) "__init__" = some (some (.ref gInvalidActions))) (uInvalidActionsg : PySem.W.typeIn K (.ref gInvalidActions) = some (.type "function"))
    (uInvalidActionsh : K.lookup gInvalidActions = some ⟨goInvalidActions, gdInvalidActions, .func (PySem.W.fnOf "__init__" "InvalidActions.__init__" (defArgs iInvalidActions) (defBody iInvalidActions) (defScope iInvalidActions) .none gkInvalidActions gvInvalidActions gpInvalidActions gaInvalidActions gcInvalidActions gtInvalidActions), gsInvalidActions⟩)
    (uInvalidActionsi : PySem.W.codeIn K gcInvalidActions "InvalidActions.__init__" = true) (uInvalidActionsj : PySem.W.keepIn K (.ref gInvalidActions) = true) (uInvalidActionsk : PySem.W.keepIn K (.ref CInvalidActions) = true) (uInvalidActionsl : PySem.W.typeIn K (.ref CInvalidActions) = some (.type "type")) (uInvalidActionsm : PySem.W.hasDictIn K CInvalidActions = true)
    (uInvalidActionsn : PySem.W.findIn K (.ref CInvalidActions) "__class__" = some (some (.builtin "object.__class__")))
    (uInvalidActionsp : PySem.W.specialIn K (.builtin "object.__class__") "__get__" = some (some (.builtin "getset_descriptor.__get__"))) (uInvalidActionsq : PySem.W.takesIn K (.builtin "object.__class__") = some true)
    {CInvalidHouse gInvalidHouse NInvalidHouse : Addr} {nmInvalidHouse qnInvalidHouse : Str} {bsInvalidHouse subInvalidHouse : List Value} {snInvalidHouse : List Str} {abInvalidHouse : Bool} {colInvalidHouse : Option Bool} {ddInvalidHouse : Option Addr} {pInvalidHouse qInvalidHouse rInvalidHouse sInvalidHouse tInvalidHouse : Option Value} {gdInvalidHouse gaInvalidHouse : Option Addr} {gsInvalidHouse : Array (Option Value)} {goInvalidHouse gkInvalidHouse gvInvalidHouse gpInvalidHouse gcInvalidHouse gtInvalidHouse : Value}
    (uInvalidHousea : PySem.W.nsIn K mainGlobals "InvalidHouse" = some (some (.ref CInvalidHouse)))
    (uInvalidHouseb : K.lookup CInvalidHouse = some (excClassObj nmInvalidHouse qnInvalidHouse CInvalidHouse NInvalidHouse bsInvalidHouse (above EE) true snInvalidHouse subInvalidHouse abInvalidHouse colInvalidHouse ddInvalidHouse pInvalidHouse qInvalidHouse rInvalidHouse sInvalidHouse tInvalidHouse "ValueError.__new__"))
    (uInvalidHousec : PySem.W.findIn K (.ref CInvalidHouse) "__setattr__" = some (some (.builtin "object.__setattr__"))) (uInvalidHoused : PySem.W.findIn K (.ref CInvalidHouse) "__getattribute__" = some (some (.builtin "BaseException.__getattribute__"))) (uInvalidHousee : PySem.W.findIn K (.ref CInvalidHouse) "__getattr__" = some none)
    (uInvalidHousef : PySem.W.findIn K (.ref CInvalidHouse) "__init__" = some (some (.ref gInvalidHouse))) (uInvalidHouseg : PySem.W.typeIn K (.ref gInvalidHouse) = some (.type "function"))
    (uInvalidHouseh : K.lookup gInvalidHouse = some ⟨goInvalidHouse, gdInvalidHouse, .func (PySem.W.fnOf "__init__" "InvalidHouse.__init__" (defArgs iInvalidHouse) (defBody iInvalidHouse) (defScope iInvalidHouse) .none gkInvalidHouse gvInvalidHouse gpInvalidHouse gaInvalidHouse gcInvalidHouse gtInvalidHouse), gsInvalidHouse⟩)
    (uInvalidHousei : PySem.W.codeIn K gcInvalidHouse "InvalidHouse.__init__" = true) (uInvalidHousej : PySem.W.keepIn K (.ref gInvalidHouse) = true) (uInvalidHousek : PySem.W.keepIn K (.ref CInvalidHouse) = true) (uInvalidHousel : PySem.W.typeIn K (.ref CInvalidHouse) = some (.type "type")) (uInvalidHousem : PySem.W.hasDictIn K CInvalidHouse = true)
    (uInvalidHousen : PySem.W.findIn K (.ref CInvalidHouse) "__class__" = some (some (.builtin "object.__class__")))
    (uInvalidHousep : PySem.W.specialIn K (.builtin "object.__class__") "__get__" = some (some (.builtin "getset_descriptor.__get__"))) (uInvalidHouseq : PySem.W.takesIn K (.builtin "object.__class__") = some true)
    {CInvalidPlacement gInvalidPlacement NInvalidPlacement : Addr} {nmInvalidPlacement qnInvalidPlacement : Str} {bsInvalidPlacement subInvalidPlacement : List Value} {snInvalidPlacement : List Str} {abInvalidPlacement : Bool} {colInvalidPlacement : Option Bool} {ddInvalidPlacement : Option Addr} {pInvalidPlacement qInvalidPlacement rInvalidPlacement sInvalidPlacement tInvalidPlacement : Option Value} {gdInvalidPlacement gaInvalidPlacement : Option Addr} {gsInvalidPlacement : Array (Option Value)} {goInvalidPlacement gkInvalidPlacement gvInvalidPlacement gpInvalidPlacement gcInvalidPlacement gtInvalidPlacement : Value}
    (uInvalidPlacementa : PySem.W.nsIn K mainGlobals "InvalidPlacement" = some (some (.ref CInvalidPlacement)))
    (uInvalidPlacementb : K.lookup CInvalidPlacement = some (excClassObj nmInvalidPlacement qnInvalidPlacement CInvalidPlacement NInvalidPlacement bsInvalidPlacement (above EE) true snInvalidPlacement subInvalidPlacement abInvalidPlacement colInvalidPlacement ddInvalidPlacement pInvalidPlacement qInvalidPlacement rInvalidPlacement sInvalidPlacement tInvalidPlacement "ValueError.__new__"))
    (uInvalidPlacementc : PySem.W.findIn K (.ref CInvalidPlacement) "__setattr__" = some (some (.builtin "object.__setattr__"))) (uInvalidPlacementd : PySem.W.findIn K (.ref CInvalidPlacement) "__getattribute__" = some (some (.builtin "BaseException.__getattribute__"))) (uInvalidPlacemente : PySem.W.findIn K (.ref CInvalidPlacement) "__getattr__" = some none)
    (uInvalidPlacementf : PySem.W.findIn K (.ref CInvalidPlacement) "__init__" = some (some (.ref gInvalidPlacement))) (uInvalidPlacementg : PySem.W.typeIn K (.ref gInvalidPlacement) = some (.type "function"))
    (uInvalidPlacementh : K.lookup gInvalidPlacement = some ⟨goInvalidPlacement, gdInvalidPlacement, .func (PySem.W.fnOf "__init__" "InvalidPlacement.__init__" (defArgs iInvalidPlacement) (defBody iInvalidPlacement) (defScope iInvalidPlacement) .none gkInvalidPlacement gvInvalidPlacement gpInvalidPlacement gaInvalidPlacement gcInvalidPlacement gtInvalidPlacement), gsInvalidPlacement⟩)
    (uInvalidPlacementi : PySem.W.codeIn K gcInvalidPlacement "InvalidPlacement.__init__" = true) (uInvalidPlacementj : PySem.W.keepIn K (.ref gInvalidPlacement) = true) (uInvalidPlacementk : PySem.W.keepIn K (.ref CInvalidPlacement) = true) (uInvalidPlacementl : PySem.W.typeIn K (.ref CInvalidPlacement) = some (.type "type")) (uInvalidPlacementm : PySem.W.hasDictIn K CInvalidPlacement = true)
    (uInvalidPlacementn : PySem.W.findIn K (.ref CInvalidPlacement) "__class__" = some (some (.builtin "object.__class__")))
    (uInvalidPlacementp : PySem.W.specialIn K (.builtin "object.__class__") "__get__" = some (some (.builtin "getset_descriptor.__get__"))) (uInvalidPlacementq : PySem.W.takesIn K (.builtin "object.__class__") = some true)
    {f1 : Addr} {od1 an1 : Option Addr} {sl1 : Array (Option Value)} {oc1 kV1 dc1 pm1 cd1 ct1 : Value}
    (a1 : PySem.W.nsIn K mainGlobals "is_integer" = some (some (.ref f1)))
    (l1 : K.lookup f1 = some ⟨oc1, od1, .func (PySem.W.fnOf "is_integer" "is_integer" (defArgs sIsInt) (defBody sIsInt) (defScope sIsInt) .none kV1 dc1 pm1 an1 cd1 ct1), sl1⟩)
    (c1 : PySem.W.codeIn K cd1 "is_integer" = true) (k1 : PySem.W.keepIn K (.ref f1) = true)
    {f2 : Addr} {od2 an2 : Option Addr} {sl2 : Array (Option Value)} {oc2 kV2 dc2 pm2 cd2 ct2 : Value}
    (a2 : PySem.W.nsIn K mainGlobals "is_name" = some (some (.ref f2)))
    (l2 : K.lookup f2 = some ⟨oc2, od2, .func (PySem.W.fnOf "is_name" "is_name" (defArgs sIsName) (defBody sIsName) (defScope sIsName) .none kV2 dc2 pm2 an2 cd2 ct2), sl2⟩)
    (c2 : PySem.W.codeIn K cd2 "is_name" = true) (k2 : PySem.W.keepIn K (.ref f2) = true)
    {f3 : Addr} {od3 an3 : Option Addr} {sl3 : Array (Option Value)} {oc3 kV3 dc3 pm3 cd3 ct3 : Value}
    (a3 : PySem.W.nsIn K mainGlobals "is_pair" = some (some (.ref f3)))
    (l3 : K.lookup f3 = some ⟨oc3, od3, .func (PySem.W.fnOf "is_pair" "is_pair" (defArgs sIsPair) (defBody sIsPair) (defScope sIsPair) .none kV3 dc3 pm3 an3 cd3 ct3), sl3⟩)
    (c3 : PySem.W.codeIn K cd3 "is_pair" = true) (k3 : PySem.W.keepIn K (.ref f3) = true)
    {f4 : Addr} {od4 an4 : Option Addr} {sl4 : Array (Option Value)} {oc4 kV4 dc4 pm4 cd4 ct4 : Value}
    (a4 : PySem.W.nsIn K mainGlobals "is_ascending" = some (some (.ref f4)))
    (l4 : K.lookup f4 = some ⟨oc4, od4, .func (PySem.W.fnOf "is_ascending" "is_ascending" (defArgs sIsAsc) (defBody sIsAsc) (defScope sIsAsc) .none kV4 dc4 pm4 an4 cd4 ct4), sl4⟩)
    (c4 : PySem.W.codeIn K cd4 "is_ascending" = true) (k4 : PySem.W.keepIn K (.ref f4) = true)
    {f5 : Addr} {od5 an5 : Option Addr} {sl5 : Array (Option Value)} {oc5 kV5 dc5 pm5 cd5 ct5 : Value}
    (a5 : PySem.W.nsIn K mainGlobals "is_house" = some (some (.ref f5)))
    (l5 : K.lookup f5 = some ⟨oc5, od5, .func (PySem.W.fnOf "is_house" "is_house" (defArgs sIsHouse) (defBody sIsHouse) (defScope sIsHouse) .none kV5 dc5 pm5 an5 cd5 ct5), sl5⟩)
    (c5 : PySem.W.codeIn K cd5 "is_house" = true) (k5 : PySem.W.keepIn K (.ref f5) = true)
    {f6 : Addr} {od6 an6 : Option Addr} {sl6 : Array (Option Value)} {oc6 kV6 dc6 pm6 cd6 ct6 : Value}
    (a6 : PySem.W.nsIn K mainGlobals "is_room" = some (some (.ref f6)))
    (l6 : K.lookup f6 = some ⟨oc6, od6, .func (PySem.W.fnOf "is_room" "is_room" (defArgs sIsRoom) (defBody sIsRoom) (defScope sIsRoom) .none kV6 dc6 pm6 an6 cd6 ct6), sl6⟩)
    (c6 : PySem.W.codeIn K cd6 "is_room" = true) (k6 : PySem.W.keepIn K (.ref f6) = true)
    {f7 : Addr} {od7 an7 : Option Addr} {sl7 : Array (Option Value)} {oc7 kV7 dc7 pm7 cd7 ct7 : Value}
    (a7 : PySem.W.nsIn K mainGlobals "is_door" = some (some (.ref f7)))
    (l7 : K.lookup f7 = some ⟨oc7, od7, .func (PySem.W.fnOf "is_door" "is_door" (defArgs sIsDoor) (defBody sIsDoor) (defScope sIsDoor) .none kV7 dc7 pm7 an7 cd7 ct7), sl7⟩)
    (c7 : PySem.W.codeIn K cd7 "is_door" = true) (k7 : PySem.W.keepIn K (.ref f7) = true)
    {f8 : Addr} {od8 an8 : Option Addr} {sl8 : Array (Option Value)} {oc8 kV8 dc8 pm8 cd8 ct8 : Value}
    (a8 : PySem.W.nsIn K mainGlobals "has_cycle" = some (some (.ref f8)))
    (l8 : K.lookup f8 = some ⟨oc8, od8, .func (PySem.W.fnOf "has_cycle" "has_cycle" (defArgs sHasCyc) (defBody sHasCyc) (defScope sHasCyc) .none kV8 dc8 pm8 an8 cd8 ct8), sl8⟩)
    (c8 : PySem.W.codeIn K cd8 "has_cycle" = true) (k8 : PySem.W.keepIn K (.ref f8) = true)
    {f9 : Addr} {od9 an9 : Option Addr} {sl9 : Array (Option Value)} {oc9 kV9 dc9 pm9 cd9 ct9 : Value}
    (a9 : PySem.W.nsIn K mainGlobals "neighbors" = some (some (.ref f9)))
    (l9 : K.lookup f9 = some ⟨oc9, od9, .func (PySem.W.fnOf "neighbors" "neighbors" (defArgs sNb) (defBody sNb) (defScope sNb) .none kV9 dc9 pm9 an9 cd9 ct9), sl9⟩)
    (c9 : PySem.W.codeIn K cd9 "neighbors" = true) (k9 : PySem.W.keepIn K (.ref f9) = true)
    {f10 : Addr} {od10 an10 : Option Addr} {sl10 : Array (Option Value)} {oc10 kV10 dc10 pm10 cd10 ct10 : Value}
    (a10 : PySem.W.nsIn K mainGlobals "path_between" = some (some (.ref f10)))
    (l10 : K.lookup f10 = some ⟨oc10, od10, .func (PySem.W.fnOf "path_between" "path_between" (defArgs sPath) (defBody sPath) (defScope sPath) .none kV10 dc10 pm10 an10 cd10 ct10), sl10⟩)
    (c10 : PySem.W.codeIn K cd10 "path_between" = true) (k10 : PySem.W.keepIn K (.ref f10) = true)
    {f11 : Addr} {od11 an11 : Option Addr} {sl11 : Array (Option Value)} {oc11 kV11 dc11 pm11 cd11 ct11 : Value}
    (a11 : PySem.W.nsIn K mainGlobals "steps_toward" = some (some (.ref f11)))
    (l11 : K.lookup f11 = some ⟨oc11, od11, .func (PySem.W.fnOf "steps_toward" "steps_toward" (defArgs sSteps) (defBody sSteps) (defScope sSteps) .none kV11 dc11 pm11 an11 cd11 ct11), sl11⟩)
    (c11 : PySem.W.codeIn K cd11 "steps_toward" = true) (k11 : PySem.W.keepIn K (.ref f11) = true)
    {f12 : Addr} {od12 an12 : Option Addr} {sl12 : Array (Option Value)} {oc12 kV12 dc12 pm12 cd12 ct12 : Value}
    (a12 : PySem.W.nsIn K mainGlobals "is_placement" = some (some (.ref f12)))
    (l12 : K.lookup f12 = some ⟨oc12, od12, .func (PySem.W.fnOf "is_placement" "is_placement" (defArgs sIsPl) (defBody sIsPl) (defScope sIsPl) .none kV12 dc12 pm12 an12 cd12 ct12), sl12⟩)
    (c12 : PySem.W.codeIn K cd12 "is_placement" = true) (k12 : PySem.W.keepIn K (.ref f12) = true)
    {f13 : Addr} {od13 an13 : Option Addr} {sl13 : Array (Option Value)} {oc13 kV13 dc13 pm13 cd13 ct13 : Value}
    (a13 : PySem.W.nsIn K mainGlobals "is_person_in_room" = some (some (.ref f13)))
    (l13 : K.lookup f13 = some ⟨oc13, od13, .func (PySem.W.fnOf "is_person_in_room" "is_person_in_room" (defArgs sIsPR) (defBody sIsPR) (defScope sIsPR) .none kV13 dc13 pm13 an13 cd13 ct13), sl13⟩)
    (c13 : PySem.W.codeIn K cd13 "is_person_in_room" = true) (k13 : PySem.W.keepIn K (.ref f13) = true)
    {f14 : Addr} {od14 an14 : Option Addr} {sl14 : Array (Option Value)} {oc14 kV14 dc14 pm14 cd14 ct14 : Value}
    (a14 : PySem.W.nsIn K mainGlobals "is_target" = some (some (.ref f14)))
    (l14 : K.lookup f14 = some ⟨oc14, od14, .func (PySem.W.fnOf "is_target" "is_target" (defArgs sIsTg) (defBody sIsTg) (defScope sIsTg) .none kV14 dc14 pm14 an14 cd14 ct14), sl14⟩)
    (c14 : PySem.W.codeIn K cd14 "is_target" = true) (k14 : PySem.W.keepIn K (.ref f14) = true)
    {f15 : Addr} {od15 an15 : Option Addr} {sl15 : Array (Option Value)} {oc15 kV15 dc15 pm15 cd15 ct15 : Value}
    (a15 : PySem.W.nsIn K mainGlobals "names_of" = some (some (.ref f15)))
    (l15 : K.lookup f15 = some ⟨oc15, od15, .func (PySem.W.fnOf "names_of" "names_of" (defArgs sNamesOf) (defBody sNamesOf) (defScope sNamesOf) .none kV15 dc15 pm15 an15 cd15 ct15), sl15⟩)
    (c15 : PySem.W.codeIn K cd15 "names_of" = true) (k15 : PySem.W.keepIn K (.ref f15) = true)
    {f16 : Addr} {od16 an16 : Option Addr} {sl16 : Array (Option Value)} {oc16 kV16 dc16 pm16 cd16 ct16 : Value}
    (a16 : PySem.W.nsIn K mainGlobals "room_of" = some (some (.ref f16)))
    (l16 : K.lookup f16 = some ⟨oc16, od16, .func (PySem.W.fnOf "room_of" "room_of" (defArgs sRoomOf) (defBody sRoomOf) (defScope sRoomOf) .none kV16 dc16 pm16 an16 cd16 ct16), sl16⟩)
    (c16 : PySem.W.codeIn K cd16 "room_of" = true) (k16 : PySem.W.keepIn K (.ref f16) = true)
    {f17 : Addr} {od17 an17 : Option Addr} {sl17 : Array (Option Value)} {oc17 kV17 dc17 pm17 cd17 ct17 : Value}
    (a17 : PySem.W.nsIn K mainGlobals "format_house" = some (some (.ref f17)))
    (l17 : K.lookup f17 = some ⟨oc17, od17, .func (PySem.W.fnOf "format_house" "format_house" (defArgs sFmtH) (defBody sFmtH) (defScope sFmtH) .none kV17 dc17 pm17 an17 cd17 ct17), sl17⟩)
    (c17 : PySem.W.codeIn K cd17 "format_house" = true) (k17 : PySem.W.keepIn K (.ref f17) = true)
    {f18 : Addr} {od18 an18 : Option Addr} {sl18 : Array (Option Value)} {oc18 kV18 dc18 pm18 cd18 ct18 : Value}
    (a18 : PySem.W.nsIn K mainGlobals "format_placement" = some (some (.ref f18)))
    (l18 : K.lookup f18 = some ⟨oc18, od18, .func (PySem.W.fnOf "format_placement" "format_placement" (defArgs sFmtP) (defBody sFmtP) (defScope sFmtP) .none kV18 dc18 pm18 an18 cd18 ct18), sl18⟩)
    (c18 : PySem.W.codeIn K cd18 "format_placement" = true) (k18 : PySem.W.keepIn K (.ref f18) = true)
    {f19 : Addr} {od19 an19 : Option Addr} {sl19 : Array (Option Value)} {oc19 kV19 dc19 pm19 cd19 ct19 : Value}
    (a19 : PySem.W.nsIn K mainGlobals "joined" = some (some (.ref f19)))
    (l19 : K.lookup f19 = some ⟨oc19, od19, .func (PySem.W.fnOf "joined" "joined" (defArgs sJnd) (defBody sJnd) (defScope sJnd) .none kV19 dc19 pm19 an19 cd19 ct19), sl19⟩)
    (c19 : PySem.W.codeIn K cd19 "joined" = true) (k19 : PySem.W.keepIn K (.ref f19) = true)
    {f20 : Addr} {od20 an20 : Option Addr} {sl20 : Array (Option Value)} {oc20 kV20 dc20 pm20 cd20 ct20 : Value}
    (a20 : PySem.W.nsIn K mainGlobals "parse_house" = some (some (.ref f20)))
    (l20 : K.lookup f20 = some ⟨oc20, od20, .func (PySem.W.fnOf "parse_house" "parse_house" (defArgs sParH) (defBody sParH) (defScope sParH) .none kV20 dc20 pm20 an20 cd20 ct20), sl20⟩)
    (c20 : PySem.W.codeIn K cd20 "parse_house" = true) (k20 : PySem.W.keepIn K (.ref f20) = true)
    {f21 : Addr} {od21 an21 : Option Addr} {sl21 : Array (Option Value)} {oc21 kV21 dc21 pm21 cd21 ct21 : Value}
    (a21 : PySem.W.nsIn K mainGlobals "split_lines" = some (some (.ref f21)))
    (l21 : K.lookup f21 = some ⟨oc21, od21, .func (PySem.W.fnOf "split_lines" "split_lines" (defArgs sSpLn) (defBody sSpLn) (defScope sSpLn) .none kV21 dc21 pm21 an21 cd21 ct21), sl21⟩)
    (c21 : PySem.W.codeIn K cd21 "split_lines" = true) (k21 : PySem.W.keepIn K (.ref f21) = true)
    {f22 : Addr} {od22 an22 : Option Addr} {sl22 : Array (Option Value)} {oc22 kV22 dc22 pm22 cd22 ct22 : Value}
    (a22 : PySem.W.nsIn K mainGlobals "house_with_line" = some (some (.ref f22)))
    (l22 : K.lookup f22 = some ⟨oc22, od22, .func (PySem.W.fnOf "house_with_line" "house_with_line" (defArgs sHwl) (defBody sHwl) (defScope sHwl) .none kV22 dc22 pm22 an22 cd22 ct22), sl22⟩)
    (c22 : PySem.W.codeIn K cd22 "house_with_line" = true) (k22 : PySem.W.keepIn K (.ref f22) = true)
    {f23 : Addr} {od23 an23 : Option Addr} {sl23 : Array (Option Value)} {oc23 kV23 dc23 pm23 cd23 ct23 : Value}
    (a23 : PySem.W.nsIn K mainGlobals "is_digit" = some (some (.ref f23)))
    (l23 : K.lookup f23 = some ⟨oc23, od23, .func (PySem.W.fnOf "is_digit" "is_digit" (defArgs sDig) (defBody sDig) (defScope sDig) .none kV23 dc23 pm23 an23 cd23 ct23), sl23⟩)
    (c23 : PySem.W.codeIn K cd23 "is_digit" = true) (k23 : PySem.W.keepIn K (.ref f23) = true)
    {f24 : Addr} {od24 an24 : Option Addr} {sl24 : Array (Option Value)} {oc24 kV24 dc24 pm24 cd24 ct24 : Value}
    (a24 : PySem.W.nsIn K mainGlobals "parse_placement" = some (some (.ref f24)))
    (l24 : K.lookup f24 = some ⟨oc24, od24, .func (PySem.W.fnOf "parse_placement" "parse_placement" (defArgs sParP) (defBody sParP) (defScope sParP) .none kV24 dc24 pm24 an24 cd24 ct24), sl24⟩)
    (c24 : PySem.W.codeIn K cd24 "parse_placement" = true) (k24 : PySem.W.keepIn K (.ref f24) = true)
    {f25 : Addr} {od25 an25 : Option Addr} {sl25 : Array (Option Value)} {oc25 kV25 dc25 pm25 cd25 ct25 : Value}
    (a25 : PySem.W.nsIn K mainGlobals "_law_stream" = some (some (.ref f25)))
    (l25 : K.lookup f25 = some ⟨oc25, od25, .func (PySem.W.fnOf "_law_stream" "_law_stream" (defArgs sStream) (defBody sStream) (defScope sStream) .none kV25 dc25 pm25 an25 cd25 ct25), sl25⟩)
    (c25 : PySem.W.codeIn K cd25 "_law_stream" = true) (k25 : PySem.W.keepIn K (.ref f25) = true)
    {f26 : Addr} {od26 an26 : Option Addr} {sl26 : Array (Option Value)} {oc26 kV26 dc26 pm26 cd26 ct26 : Value}
    (a26 : PySem.W.nsIn K mainGlobals "_law_same" = some (some (.ref f26)))
    (l26 : K.lookup f26 = some ⟨oc26, od26, .func (PySem.W.fnOf "_law_same" "_law_same" (defArgs sSame) (defBody sSame) (defScope sSame) .none kV26 dc26 pm26 an26 cd26 ct26), sl26⟩)
    (c26 : PySem.W.codeIn K cd26 "_law_same" = true) (k26 : PySem.W.keepIn K (.ref f26) = true)
    {f27 : Addr} {od27 an27 : Option Addr} {sl27 : Array (Option Value)} {oc27 kV27 dc27 pm27 cd27 ct27 : Value}
    (a27 : PySem.W.nsIn K mainGlobals "_law_names" = some (some (.ref f27)))
    (l27 : K.lookup f27 = some ⟨oc27, od27, .func (PySem.W.fnOf "_law_names" "_law_names" (defArgs sNames) (defBody sNames) (defScope sNames) .none kV27 dc27 pm27 an27 cd27 ct27), sl27⟩)
    (c27 : PySem.W.codeIn K cd27 "_law_names" = true) (k27 : PySem.W.keepIn K (.ref f27) = true)
    {f28 : Addr} {od28 an28 : Option Addr} {sl28 : Array (Option Value)} {oc28 kV28 dc28 pm28 cd28 ct28 : Value}
    (a28 : PySem.W.nsIn K mainGlobals "_law_draw" = some (some (.ref f28)))
    (l28 : K.lookup f28 = some ⟨oc28, od28, .func (PySem.W.fnOf "_law_draw" "_law_draw" (defArgs sDraw) (defBody sDraw) (defScope sDraw) .none kV28 dc28 pm28 an28 cd28 ct28), sl28⟩)
    (c28 : PySem.W.codeIn K cd28 "_law_draw" = true) (k28 : PySem.W.keepIn K (.ref f28) = true)
    {f29 : Addr} {od29 an29 : Option Addr} {sl29 : Array (Option Value)} {oc29 kV29 dc29 pm29 cd29 ct29 : Value}
    (a29 : PySem.W.nsIn K mainGlobals "_law_house" = some (some (.ref f29)))
    (l29 : K.lookup f29 = some ⟨oc29, od29, .func (PySem.W.fnOf "_law_house" "_law_house" (defArgs sHouse) (defBody sHouse) (defScope sHouse) .none kV29 dc29 pm29 an29 cd29 ct29), sl29⟩)
    (c29 : PySem.W.codeIn K cd29 "_law_house" = true) (k29 : PySem.W.keepIn K (.ref f29) = true)
    {f30 : Addr} {od30 an30 : Option Addr} {sl30 : Array (Option Value)} {oc30 kV30 dc30 pm30 cd30 ct30 : Value}
    (a30 : PySem.W.nsIn K mainGlobals "_law_placement" = some (some (.ref f30)))
    (l30 : K.lookup f30 = some ⟨oc30, od30, .func (PySem.W.fnOf "_law_placement" "_law_placement" (defArgs sPl) (defBody sPl) (defScope sPl) .none kV30 dc30 pm30 an30 cd30 ct30), sl30⟩)
    (c30 : PySem.W.codeIn K cd30 "_law_placement" = true) (k30 : PySem.W.keepIn K (.ref f30) = true)
    {f31 : Addr} {od31 an31 : Option Addr} {sl31 : Array (Option Value)} {oc31 kV31 dc31 pm31 cd31 ct31 : Value}
    (a31 : PySem.W.nsIn K mainGlobals "_law_error_class" = some (some (.ref f31)))
    (l31 : K.lookup f31 = some ⟨oc31, od31, .func (PySem.W.fnOf "_law_error_class" "_law_error_class" (defArgs sLErrorClass) (defBody sLErrorClass) (defScope sLErrorClass) .none kV31 dc31 pm31 an31 cd31 ct31), sl31⟩)
    (c31 : PySem.W.codeIn K cd31 "_law_error_class" = true) (k31 : PySem.W.keepIn K (.ref f31) = true)
    {f32 : Addr} {od32 an32 : Option Addr} {sl32 : Array (Option Value)} {oc32 kV32 dc32 pm32 cd32 ct32 : Value}
    (a32 : PySem.W.nsIn K mainGlobals "_law_text_case" = some (some (.ref f32)))
    (l32 : K.lookup f32 = some ⟨oc32, od32, .func (PySem.W.fnOf "_law_text_case" "_law_text_case" (defArgs sLTxt) (defBody sLTxt) (defScope sLTxt) .none kV32 dc32 pm32 an32 cd32 ct32), sl32⟩)
    (c32 : PySem.W.codeIn K cd32 "_law_text_case" = true) (k32 : PySem.W.keepIn K (.ref f32) = true)
    {f33 : Addr} {od33 an33 : Option Addr} {sl33 : Array (Option Value)} {oc33 kV33 dc33 pm33 cd33 ct33 : Value}
    (a33 : PySem.W.nsIn K mainGlobals "_law_parse_outcome" = some (some (.ref f33)))
    (l33 : K.lookup f33 = some ⟨oc33, od33, .func (PySem.W.fnOf "_law_parse_outcome" "_law_parse_outcome" (defArgs sLPOut) (defBody sLPOut) (defScope sLPOut) .none kV33 dc33 pm33 an33 cd33 ct33), sl33⟩)
    (c33 : PySem.W.codeIn K cd33 "_law_parse_outcome" = true) (k33 : PySem.W.keepIn K (.ref f33) = true)
    {f34 : Addr} {od34 an34 : Option Addr} {sl34 : Array (Option Value)} {oc34 kV34 dc34 pm34 cd34 ct34 : Value}
    (a34 : PySem.W.nsIn K mainGlobals "_law_changed_text" = some (some (.ref f34)))
    (l34 : K.lookup f34 = some ⟨oc34, od34, .func (PySem.W.fnOf "_law_changed_text" "_law_changed_text" (defArgs sLChT) (defBody sLChT) (defScope sLChT) .none kV34 dc34 pm34 an34 cd34 ct34), sl34⟩)
    (c34 : PySem.W.codeIn K cd34 "_law_changed_text" = true) (k34 : PySem.W.keepIn K (.ref f34) = true)
    {f35 : Addr} {od35 an35 : Option Addr} {sl35 : Array (Option Value)} {oc35 kV35 dc35 pm35 cd35 ct35 : Value}
    (a35 : PySem.W.nsIn K mainGlobals "_law_text_stable" = some (some (.ref f35)))
    (l35 : K.lookup f35 = some ⟨oc35, od35, .func (PySem.W.fnOf "_law_text_stable" "_law_text_stable" (defArgs sLStab) (defBody sLStab) (defScope sLStab) .none kV35 dc35 pm35 an35 cd35 ct35), sl35⟩)
    (c35 : PySem.W.codeIn K cd35 "_law_text_stable" = true) (k35 : PySem.W.keepIn K (.ref f35) = true)
    {f36 : Addr} {od36 an36 : Option Addr} {sl36 : Array (Option Value)} {oc36 kV36 dc36 pm36 cd36 ct36 : Value}
    (a36 : PySem.W.nsIn K mainGlobals "_law_prefixes_right" = some (some (.ref f36)))
    (l36 : K.lookup f36 = some ⟨oc36, od36, .func (PySem.W.fnOf "_law_prefixes_right" "_law_prefixes_right" (defArgs sLPre) (defBody sLPre) (defScope sLPre) .none kV36 dc36 pm36 an36 cd36 ct36), sl36⟩)
    (c36 : PySem.W.codeIn K cd36 "_law_prefixes_right" = true) (k36 : PySem.W.keepIn K (.ref f36) = true)
    {f37 : Addr} {od37 an37 : Option Addr} {sl37 : Array (Option Value)} {oc37 kV37 dc37 pm37 cd37 ct37 : Value}
    (a37 : PySem.W.nsIn K mainGlobals "law" = some (some (.ref f37)))
    (l37 : K.lookup f37 = some ⟨oc37, od37, .func (PySem.W.fnOf "law" "law" (defArgs sLaw) (defBody sLaw) (defScope sLaw) .none kV37 dc37 pm37 an37 cd37 ct37), sl37⟩)
    (c37 : PySem.W.codeIn K cd37 "law" = true) (k37 : PySem.W.keepIn K (.ref f37) = true)
    (z_abs : PySem.W.nsIn K mainGlobals "abs" = some none) (z_len : PySem.W.nsIn K mainGlobals "len" = some none) (z_list : PySem.W.nsIn K mainGlobals "list" = some none) (z_range : PySem.W.nsIn K mainGlobals "range" = some none) (z_min : PySem.W.nsIn K mainGlobals "min" = some none) (z_max : PySem.W.nsIn K mainGlobals "max" = some none) (z_tuple : PySem.W.nsIn K mainGlobals "tuple" = some none) (z_sorted : PySem.W.nsIn K mainGlobals "sorted" = some none) (z_isinstance : PySem.W.nsIn K mainGlobals "isinstance" = some none) (z_all : PySem.W.nsIn K mainGlobals "all" = some none) (z_zip : PySem.W.nsIn K mainGlobals "zip" = some none) (z_bool : PySem.W.nsIn K mainGlobals "bool" = some none) (z_int : PySem.W.nsIn K mainGlobals "int" = some none) (z_str : PySem.W.nsIn K mainGlobals "str" = some none) (z_repr : PySem.W.nsIn K mainGlobals "repr" = some none) (z_ValueError : PySem.W.nsIn K mainGlobals "ValueError" = some none) (z_enumerate : PySem.W.nsIn K mainGlobals "enumerate" = some none) : LawAt P w K mg 10 fa (spLaw K) := by
  have e := hfa.symm.trans (PySem.W.mg_of X G a37)
  cases e
  have T : Nm mg := ⟨PySem.W.mg_none_of X G z_abs, PySem.W.mg_none_of X G z_len, PySem.W.mg_none_of X G z_list, PySem.W.mg_none_of X G z_range, PySem.W.mg_none_of X G z_min, PySem.W.mg_none_of X G z_max, PySem.W.mg_none_of X G z_tuple, PySem.W.mg_none_of X G z_sorted, PySem.W.mg_none_of X G z_isinstance, PySem.W.mg_none_of X G z_all, PySem.W.mg_none_of X G z_zip, PySem.W.mg_none_of X G z_bool, PySem.W.mg_none_of X G z_int, PySem.W.mg_none_of X G z_str, PySem.W.mg_none_of X G z_repr⟩
  obtain ⟨hUnknownPerson, vUnknownPerson⟩ := cf_mk (x := "UnknownPerson") (q := "UnknownPerson.__init__") (st := iUnknownPerson) (ps := ["self", "name"]) X G (fun fd F => F.binds fun _ _ _ _ _ _ us hl => match us, hl with | [_, _], _ => rfl) uUnknownPersona uUnknownPersonb uUnknownPersonc uUnknownPersond uUnknownPersone uUnknownPersonf uUnknownPersong uUnknownPersonh uUnknownPersoni uUnknownPersonj uUnknownPersonk uUnknownPersonl uUnknownPersonm uUnknownPersonn uUnknownPersonp uUnknownPersonq
  obtain ⟨hInvalidRoom, vInvalidRoom⟩ := cf_mk (x := "InvalidRoom") (q := "InvalidRoom.__init__") (st := iInvalidRoom) (ps := ["self", "room"]) X G (fun fd F => F.binds fun _ _ _ _ _ _ us hl => match us, hl with | [_, _], _ => rfl) uInvalidRooma uInvalidRoomb uInvalidRoomc uInvalidRoomd uInvalidRoome uInvalidRoomf uInvalidRoomg uInvalidRoomh uInvalidRoomi uInvalidRoomj uInvalidRoomk uInvalidRooml uInvalidRoomm uInvalidRoomn uInvalidRoomp uInvalidRoomq
  obtain ⟨hNotAdjacent, vNotAdjacent⟩ := cf_mk (x := "NotAdjacent") (q := "NotAdjacent.__init__") (st := iNotAdjacent) (ps := ["self", "room"]) X G (fun fd F => F.binds fun _ _ _ _ _ _ us hl => match us, hl with | [_, _], _ => rfl) uNotAdjacenta uNotAdjacentb uNotAdjacentc uNotAdjacentd uNotAdjacente uNotAdjacentf uNotAdjacentg uNotAdjacenth uNotAdjacenti uNotAdjacentj uNotAdjacentk uNotAdjacentl uNotAdjacentm uNotAdjacentn uNotAdjacentp uNotAdjacentq
  obtain ⟨hEmptyRoom, vEmptyRoom⟩ := cf_mk (x := "EmptyRoom") (q := "EmptyRoom.__init__") (st := iEmptyRoom) (ps := ["self", "room"]) X G (fun fd F => F.binds fun _ _ _ _ _ _ us hl => match us, hl with | [_, _], _ => rfl) uEmptyRooma uEmptyRoomb uEmptyRoomc uEmptyRoomd uEmptyRoome uEmptyRoomf uEmptyRoomg uEmptyRoomh uEmptyRoomi uEmptyRoomj uEmptyRoomk uEmptyRooml uEmptyRoomm uEmptyRoomn uEmptyRoomp uEmptyRoomq
  obtain ⟨hInvalidMoves, vInvalidMoves⟩ := cf_mk (x := "InvalidMoves") (q := "InvalidMoves.__init__") (st := iInvalidMoves) (ps := ["self", "position"]) X G (fun fd F => F.binds fun _ _ _ _ _ _ us hl => match us, hl with | [_, _], _ => rfl) uInvalidMovesa uInvalidMovesb uInvalidMovesc uInvalidMovesd uInvalidMovese uInvalidMovesf uInvalidMovesg uInvalidMovesh uInvalidMovesi uInvalidMovesj uInvalidMovesk uInvalidMovesl uInvalidMovesm uInvalidMovesn uInvalidMovesp uInvalidMovesq
  obtain ⟨hOtherRegion, vOtherRegion⟩ := cf_mk (x := "OtherRegion") (q := "OtherRegion.__init__") (st := iOtherRegion) (ps := ["self", "room"]) X G (fun fd F => F.binds fun _ _ _ _ _ _ us hl => match us, hl with | [_, _], _ => rfl) uOtherRegiona uOtherRegionb uOtherRegionc uOtherRegiond uOtherRegione uOtherRegionf uOtherRegiong uOtherRegionh uOtherRegioni uOtherRegionj uOtherRegionk uOtherRegionl uOtherRegionm uOtherRegionn uOtherRegionp uOtherRegionq
  obtain ⟨hTightRegion, vTightRegion⟩ := cf_mk (x := "TightRegion") (q := "TightRegion.__init__") (st := iTightRegion) (ps := ["self", "room"]) X G (fun fd F => F.binds fun _ _ _ _ _ _ us hl => match us, hl with | [_, _], _ => rfl) uTightRegiona uTightRegionb uTightRegionc uTightRegiond uTightRegione uTightRegionf uTightRegiong uTightRegionh uTightRegioni uTightRegionj uTightRegionk uTightRegionl uTightRegionm uTightRegionn uTightRegionp uTightRegionq
  obtain ⟨hBlocked, vBlocked⟩ := cf_mk (x := "Blocked") (q := "Blocked.__init__") (st := iBlocked) (ps := ["self", "block"]) X G (fun fd F => F.binds fun _ _ _ _ _ _ us hl => match us, hl with | [_, _], _ => rfl) uBlockeda uBlockedb uBlockedc uBlockedd uBlockede uBlockedf uBlockedg uBlockedh uBlockedi uBlockedj uBlockedk uBlockedl uBlockedm uBlockedn uBlockedp uBlockedq
  obtain ⟨hInvalidName, vInvalidName⟩ := cf_mk (x := "InvalidName") (q := "InvalidName.__init__") (st := iInvalidName) (ps := ["self", "name"]) X G (fun fd F => F.binds fun _ _ _ _ _ _ us hl => match us, hl with | [_, _], _ => rfl) uInvalidNamea uInvalidNameb uInvalidNamec uInvalidNamed uInvalidNamee uInvalidNamef uInvalidNameg uInvalidNameh uInvalidNamei uInvalidNamej uInvalidNamek uInvalidNamel uInvalidNamem uInvalidNamen uInvalidNamep uInvalidNameq
  obtain ⟨hDuplicateName, vDuplicateName⟩ := cf_mk (x := "DuplicateName") (q := "DuplicateName.__init__") (st := iDuplicateName) (ps := ["self", "name"]) X G (fun fd F => F.binds fun _ _ _ _ _ _ us hl => match us, hl with | [_, _], _ => rfl) uDuplicateNamea uDuplicateNameb uDuplicateNamec uDuplicateNamed uDuplicateNamee uDuplicateNamef uDuplicateNameg uDuplicateNameh uDuplicateNamei uDuplicateNamej uDuplicateNamek uDuplicateNamel uDuplicateNamem uDuplicateNamen uDuplicateNamep uDuplicateNameq
  obtain ⟨hLimitReached, vLimitReached⟩ := cf_mk (x := "LimitReached") (q := "LimitReached.__init__") (st := iLimitReached) (ps := ["self", "limit"]) X G (fun fd F => F.binds fun _ _ _ _ _ _ us hl => match us, hl with | [_, _], _ => rfl) uLimitReacheda uLimitReachedb uLimitReachedc uLimitReachedd uLimitReachede uLimitReachedf uLimitReachedg uLimitReachedh uLimitReachedi uLimitReachedj uLimitReachedk uLimitReachedl uLimitReachedm uLimitReachedn uLimitReachedp uLimitReachedq
  obtain ⟨hAlreadyAdjacent, vAlreadyAdjacent⟩ := cf_mk (x := "AlreadyAdjacent") (q := "AlreadyAdjacent.__init__") (st := iAlreadyAdjacent) (ps := ["self", "room"]) X G (fun fd F => F.binds fun _ _ _ _ _ _ us hl => match us, hl with | [_, _], _ => rfl) uAlreadyAdjacenta uAlreadyAdjacentb uAlreadyAdjacentc uAlreadyAdjacentd uAlreadyAdjacente uAlreadyAdjacentf uAlreadyAdjacentg uAlreadyAdjacenth uAlreadyAdjacenti uAlreadyAdjacentj uAlreadyAdjacentk uAlreadyAdjacentl uAlreadyAdjacentm uAlreadyAdjacentn uAlreadyAdjacentp uAlreadyAdjacentq
  obtain ⟨hWouldFormCycle, vWouldFormCycle⟩ := cf_mk (x := "WouldFormCycle") (q := "WouldFormCycle.__init__") (st := iWouldFormCycle) (ps := ["self", "room"]) X G (fun fd F => F.binds fun _ _ _ _ _ _ us hl => match us, hl with | [_, _], _ => rfl) uWouldFormCyclea uWouldFormCycleb uWouldFormCyclec uWouldFormCycled uWouldFormCyclee uWouldFormCyclef uWouldFormCycleg uWouldFormCycleh uWouldFormCyclei uWouldFormCyclej uWouldFormCyclek uWouldFormCyclel uWouldFormCyclem uWouldFormCyclen uWouldFormCyclep uWouldFormCycleq
  obtain ⟨hBatchFailed, vBatchFailed⟩ := cf_mk (x := "BatchFailed") (q := "BatchFailed.__init__") (st := iBatchFailed) (ps := ["self", "position"]) X G (fun fd F => F.binds fun _ _ _ _ _ _ us hl => match us, hl with | [_, _], _ => rfl) uBatchFaileda uBatchFailedb uBatchFailedc uBatchFailedd uBatchFailede uBatchFailedf uBatchFailedg uBatchFailedh uBatchFailedi uBatchFailedj uBatchFailedk uBatchFailedl uBatchFailedm uBatchFailedn uBatchFailedp uBatchFailedq
  obtain ⟨hInvalidMoment, vInvalidMoment⟩ := cf_mk (x := "InvalidMoment") (q := "InvalidMoment.__init__") (st := iInvalidMoment) (ps := ["self", "position"]) X G (fun fd F => F.binds fun _ _ _ _ _ _ us hl => match us, hl with | [_, _], _ => rfl) uInvalidMomenta uInvalidMomentb uInvalidMomentc uInvalidMomentd uInvalidMomente uInvalidMomentf uInvalidMomentg uInvalidMomenth uInvalidMomenti uInvalidMomentj uInvalidMomentk uInvalidMomentl uInvalidMomentm uInvalidMomentn uInvalidMomentp uInvalidMomentq
  obtain ⟨hInvalidText, vInvalidText⟩ := cf_mk (x := "InvalidText") (q := "InvalidText.__init__") (st := iInvalidText) (ps := ["self", "position"]) X G (fun fd F => F.binds fun _ _ _ _ _ _ us hl => match us, hl with | [_, _], _ => rfl) uInvalidTexta uInvalidTextb uInvalidTextc uInvalidTextd uInvalidTexte uInvalidTextf uInvalidTextg uInvalidTexth uInvalidTexti uInvalidTextj uInvalidTextk uInvalidTextl uInvalidTextm uInvalidTextn uInvalidTextp uInvalidTextq
  obtain ⟨hNothingToUndo, vNothingToUndo⟩ := cf_mk (x := "NothingToUndo") (q := "NothingToUndo.__init__") (st := iNothingToUndo) (ps := ["self"]) X G (fun fd F => F.binds fun _ _ _ _ _ _ us hl => match us, hl with | [_], _ => rfl) uNothingToUndoa uNothingToUndob uNothingToUndoc uNothingToUndod uNothingToUndoe uNothingToUndof uNothingToUndog uNothingToUndoh uNothingToUndoi uNothingToUndoj uNothingToUndok uNothingToUndol uNothingToUndom uNothingToUndon uNothingToUndop uNothingToUndoq
  obtain ⟨hHistoryFull, vHistoryFull⟩ := cf_mk (x := "HistoryFull") (q := "HistoryFull.__init__") (st := iHistoryFull) (ps := ["self"]) X G (fun fd F => F.binds fun _ _ _ _ _ _ us hl => match us, hl with | [_], _ => rfl) uHistoryFulla uHistoryFullb uHistoryFullc uHistoryFulld uHistoryFulle uHistoryFullf uHistoryFullg uHistoryFullh uHistoryFulli uHistoryFullj uHistoryFullk uHistoryFulll uHistoryFullm uHistoryFulln uHistoryFullp uHistoryFullq
  obtain ⟨hSessionBusy, vSessionBusy⟩ := cf_mk (x := "SessionBusy") (q := "SessionBusy.__init__") (st := iSessionBusy) (ps := ["self"]) X G (fun fd F => F.binds fun _ _ _ _ _ _ us hl => match us, hl with | [_], _ => rfl) uSessionBusya uSessionBusyb uSessionBusyc uSessionBusyd uSessionBusye uSessionBusyf uSessionBusyg uSessionBusyh uSessionBusyi uSessionBusyj uSessionBusyk uSessionBusyl uSessionBusym uSessionBusyn uSessionBusyp uSessionBusyq
  obtain ⟨hInvalidActions, vInvalidActions⟩ := cf_mk (x := "InvalidActions") (q := "InvalidActions.__init__") (st := iInvalidActions) (ps := ["self"]) X G (fun fd F => F.binds fun _ _ _ _ _ _ us hl => match us, hl with | [_], _ => rfl) uInvalidActionsa uInvalidActionsb uInvalidActionsc uInvalidActionsd uInvalidActionse uInvalidActionsf uInvalidActionsg uInvalidActionsh uInvalidActionsi uInvalidActionsj uInvalidActionsk uInvalidActionsl uInvalidActionsm uInvalidActionsn uInvalidActionsp uInvalidActionsq
  obtain ⟨hInvalidHouse, vInvalidHouse⟩ := cf_mk (x := "InvalidHouse") (q := "InvalidHouse.__init__") (st := iInvalidHouse) (ps := ["self"]) X G (fun fd F => F.binds fun _ _ _ _ _ _ us hl => match us, hl with | [_], _ => rfl) uInvalidHousea uInvalidHouseb uInvalidHousec uInvalidHoused uInvalidHousee uInvalidHousef uInvalidHouseg uInvalidHouseh uInvalidHousei uInvalidHousej uInvalidHousek uInvalidHousel uInvalidHousem uInvalidHousen uInvalidHousep uInvalidHouseq
  obtain ⟨hInvalidPlacement, vInvalidPlacement⟩ := cf_mk (x := "InvalidPlacement") (q := "InvalidPlacement.__init__") (st := iInvalidPlacement) (ps := ["self"]) X G (fun fd F => F.binds fun _ _ _ _ _ _ us hl => match us, hl with | [_], _ => rfl) uInvalidPlacementa uInvalidPlacementb uInvalidPlacementc uInvalidPlacementd uInvalidPlacemente uInvalidPlacementf uInvalidPlacementg uInvalidPlacementh uInvalidPlacementi uInvalidPlacementj uInvalidPlacementk uInvalidPlacementl uInvalidPlacementm uInvalidPlacementn uInvalidPlacementp uInvalidPlacementq
  have F1 := fun_mk (st := sIsInt) l1 c1 k1
  have b1 := F1.binds (ps := ["value"]) fun _ _ _ _ _ _ us hl => match us, hl with | [_], _ => rfl
  have F2 := fun_mk (st := sIsName) l2 c2 k2
  have b2 := F2.binds (ps := ["value"]) fun _ _ _ _ _ _ us hl => match us, hl with | [_], _ => rfl
  have F3 := fun_mk (st := sIsPair) l3 c3 k3
  have b3 := F3.binds (ps := ["value"]) fun _ _ _ _ _ _ us hl => match us, hl with | [_], _ => rfl
  have F4 := fun_mk (st := sIsAsc) l4 c4 k4
  have b4 := F4.binds (ps := ["sequence"]) fun _ _ _ _ _ _ us hl => match us, hl with | [_], _ => rfl
  have F5 := fun_mk (st := sIsHouse) l5 c5 k5
  have b5 := F5.binds (ps := ["value"]) fun _ _ _ _ _ _ us hl => match us, hl with | [_], _ => rfl
  have F6 := fun_mk (st := sIsRoom) l6 c6 k6
  have b6 := F6.binds (ps := ["house", "value"]) fun _ _ _ _ _ _ us hl => match us, hl with | [_, _], _ => rfl
  have F7 := fun_mk (st := sIsDoor) l7 c7 k7
  have b7 := F7.binds (ps := ["rooms", "value"]) fun _ _ _ _ _ _ us hl => match us, hl with | [_, _], _ => rfl
  have F8 := fun_mk (st := sHasCyc) l8 c8 k8
  have b8 := F8.binds (ps := ["rooms", "doors"]) fun _ _ _ _ _ _ us hl => match us, hl with | [_, _], _ => rfl
  have F9 := fun_mk (st := sNb) l9 c9 k9
  have b9 := F9.binds (ps := ["house", "room"]) fun _ _ _ _ _ _ us hl => match us, hl with | [_, _], _ => rfl
  have F10 := fun_mk (st := sPath) l10 c10 k10
  have b10 := F10.binds (ps := ["house", "a", "b"]) fun _ _ _ _ _ _ us hl => match us, hl with | [_, _, _], _ => rfl
  have F11 := fun_mk (st := sSteps) l11 c11 k11
  have b11 := F11.binds (ps := ["house", "goal", "rooms"]) fun _ _ _ _ _ _ us hl => match us, hl with | [_, _, _], _ => rfl
  have F12 := fun_mk (st := sIsPl) l12 c12 k12
  have b12 := F12.binds (ps := ["house", "value"]) fun _ _ _ _ _ _ us hl => match us, hl with | [_, _], _ => rfl
  have F13 := fun_mk (st := sIsPR) l13 c13 k13
  have b13 := F13.binds (ps := ["house", "value"]) fun _ _ _ _ _ _ us hl => match us, hl with | [_, _], _ => rfl
  have F14 := fun_mk (st := sIsTg) l14 c14 k14
  have b14 := F14.binds (ps := ["house", "placement", "value"]) fun _ _ _ _ _ _ us hl => match us, hl with | [_, _, _], _ => rfl
  have F15 := fun_mk (st := sNamesOf) l15 c15 k15
  have b15 := F15.binds (ps := ["placement"]) fun _ _ _ _ _ _ us hl => match us, hl with | [_], _ => rfl
  have F16 := fun_mk (st := sRoomOf) l16 c16 k16
  have b16 := F16.binds (ps := ["placement", "name"]) fun _ _ _ _ _ _ us hl => match us, hl with | [_, _], _ => rfl
  have F17 := fun_mk (st := sFmtH) l17 c17 k17
  have b17 := F17.binds (ps := ["house"]) fun _ _ _ _ _ _ us hl => match us, hl with | [_], _ => rfl
  have F18 := fun_mk (st := sFmtP) l18 c18 k18
  have b18 := F18.binds (ps := ["placement", "target"]) fun _ _ _ _ _ _ us hl => match us, hl with | [_, _], _ => rfl
  have F19 := fun_mk (st := sJnd) l19 c19 k19
  have b19 := F19.binds (ps := ["lines"]) fun _ _ _ _ _ _ us hl => match us, hl with | [_], _ => rfl
  have F20 := fun_mk (st := sParH) l20 c20 k20
  have b20 := F20.binds (ps := ["value"]) fun _ _ _ _ _ _ us hl => match us, hl with | [_], _ => rfl
  have F21 := fun_mk (st := sSpLn) l21 c21 k21
  have b21 := F21.binds (ps := ["value"]) fun _ _ _ _ _ _ us hl => match us, hl with | [_], _ => rfl
  have F22 := fun_mk (st := sHwl) l22 c22 k22
  have b22 := F22.binds (ps := ["house", "line"]) fun _ _ _ _ _ _ us hl => match us, hl with | [_, _], _ => rfl
  have F23 := fun_mk (st := sDig) l23 c23 k23
  have b23 := F23.binds (ps := ["word"]) fun _ _ _ _ _ _ us hl => match us, hl with | [_], _ => rfl
  have F24 := fun_mk (st := sParP) l24 c24 k24
  have b24 := F24.binds (ps := ["house", "value"]) fun _ _ _ _ _ _ us hl => match us, hl with | [_, _], _ => rfl
  have F25 := fun_mk (st := sStream) l25 c25 k25
  have b25 := F25.binds (ps := ["_law_script"]) fun _ _ _ _ _ _ us hl => match us, hl with | [_], _ => rfl
  have F26 := fun_mk (st := sSame) l26 c26 k26
  have b26 := F26.binds (ps := ["_law_found", "_law_expected"]) fun _ _ _ _ _ _ us hl => match us, hl with | [_, _], _ => rfl
  have F27 := fun_mk (st := sNames) l27 c27 k27
  have b27 := F27.binds (ps := ["_law_stream_here", "_law_many"]) fun _ _ _ _ _ _ us hl => match us, hl with | [_, _], _ => rfl
  have F28 := fun_mk (st := sDraw) l28 c28 k28
  have b28 := F28.binds (ps := ["_law_stream_here", "_law_many"]) fun _ _ _ _ _ _ us hl => match us, hl with | [_, _], _ => rfl
  have F29 := fun_mk (st := sHouse) l29 c29 k29
  have b29 := F29.binds (ps := ["_law_stream_here", "_law_least", "_law_most"]) fun _ _ _ _ _ _ us hl => match us, hl with | [_, _, _], _ => rfl
  have F30 := fun_mk (st := sPl) l30 c30 k30
  have b30 := F30.binds (ps := ["_law_stream_here", "_law_house_here", "_law_most"]) fun _ _ _ _ _ _ us hl => match us, hl with | [_, _, _], _ => rfl
  have F31 := fun_mk (st := sLErrorClass) l31 c31 k31
  have b31 := F31.binds (ps := ["_law_e"]) fun _ _ _ _ _ _ us hl => match us, hl with | [_], _ => rfl
  have F32 := fun_mk (st := sLTxt) l32 c32 k32
  have b32 := F32.binds (ps := ["_law_stream_here"]) fun _ _ _ _ _ _ us hl => match us, hl with | [_], _ => rfl
  have F33 := fun_mk (st := sLPOut) l33 c33 k33
  have b33 := F33.binds (ps := ["_law_kind", "_law_house_here", "_law_text"]) fun _ _ _ _ _ _ us hl => match us, hl with | [_, _, _], _ => rfl
  have F34 := fun_mk (st := sLChT) l34 c34 k34
  have b34 := F34.binds (ps := ["_law_stream_here", "_law_text"]) fun _ _ _ _ _ _ us hl => match us, hl with | [_, _], _ => rfl
  have F35 := fun_mk (st := sLStab) l35 c35 k35
  have b35 := F35.binds (ps := ["_law_kind", "_law_house_here", "_law_text"]) fun _ _ _ _ _ _ us hl => match us, hl with | [_, _, _], _ => rfl
  have F36 := fun_mk (st := sLPre) l36 c36 k36
  have b36 := F36.binds (ps := ["_law_stream_here", "_law_kind", "_law_house_here", "_law_text", "_law_parts_of"]) fun _ _ _ _ _ _ us hl => match us, hl with | [_, _, _, _, _], _ => rfl
  have F37 := fun_mk (st := sLaw) l37 c37 k37
  have Z : All K mg := ⟨T, PySem.W.mg_none_of X G z_ValueError, PySem.W.mg_none_of X G z_enumerate, ⟨_, PySem.W.mg_of X G q0⟩, ⟨_, PySem.W.mg_of X G q1⟩, ⟨_, PySem.W.mg_of X G q2⟩, ⟨_, PySem.W.mg_of X G q3⟩, ⟨_, he_mk X G uHEa uHEb uHEc uHEd, ⟨_, _, _, vUnknownPerson, uUnknownPersono⟩, ⟨_, _, _, vInvalidRoom, uInvalidRoomo⟩, ⟨_, _, _, vNotAdjacent, uNotAdjacento⟩, ⟨_, _, _, vEmptyRoom, uEmptyRoomo⟩, ⟨_, _, _, vInvalidMoves, uInvalidMoveso⟩, ⟨_, _, _, vOtherRegion, uOtherRegiono⟩, ⟨_, _, _, vTightRegion, uTightRegiono⟩, ⟨_, _, _, vBlocked, uBlockedo⟩, ⟨_, _, _, vInvalidName, uInvalidNameo⟩, ⟨_, _, _, vDuplicateName, uDuplicateNameo⟩, ⟨_, _, _, vLimitReached, uLimitReachedo⟩, ⟨_, _, _, vAlreadyAdjacent, uAlreadyAdjacento⟩, ⟨_, _, _, vWouldFormCycle, uWouldFormCycleo⟩, ⟨_, _, _, vBatchFailed, uBatchFailedo⟩, ⟨_, _, _, vInvalidMoment, uInvalidMomento⟩, ⟨_, _, _, vInvalidText, uInvalidTexto⟩, ⟨_, _, _, vNothingToUndo⟩, ⟨_, _, _, vHistoryFull⟩, ⟨_, _, _, vSessionBusy⟩, ⟨_, _, _, vInvalidActions⟩, ⟨_, _, _, vInvalidHouse⟩, ⟨_, _, _, vInvalidPlacement⟩⟩, ⟨_, _, ⟨F1, b1, PySem.W.mg_of X G a1⟩⟩, ⟨_, _, ⟨F2, b2, PySem.W.mg_of X G a2⟩⟩, ⟨_, _, ⟨F3, b3, PySem.W.mg_of X G a3⟩⟩, ⟨_, _, ⟨F4, b4, PySem.W.mg_of X G a4⟩⟩, ⟨_, _, ⟨F5, b5, PySem.W.mg_of X G a5⟩⟩, ⟨_, _, ⟨F6, b6, PySem.W.mg_of X G a6⟩⟩, ⟨_, _, ⟨F7, b7, PySem.W.mg_of X G a7⟩⟩, ⟨_, _, ⟨F8, b8, PySem.W.mg_of X G a8⟩⟩, ⟨_, _, ⟨F9, b9, PySem.W.mg_of X G a9⟩⟩, ⟨_, _, ⟨F10, b10, PySem.W.mg_of X G a10⟩⟩, ⟨_, _, ⟨F11, b11, PySem.W.mg_of X G a11⟩⟩, ⟨_, _, ⟨F12, b12, PySem.W.mg_of X G a12⟩⟩, ⟨_, _, ⟨F13, b13, PySem.W.mg_of X G a13⟩⟩, ⟨_, _, ⟨F14, b14, PySem.W.mg_of X G a14⟩⟩, ⟨_, _, ⟨F15, b15, PySem.W.mg_of X G a15⟩⟩, ⟨_, _, ⟨F16, b16, PySem.W.mg_of X G a16⟩⟩, ⟨_, _, ⟨F17, b17, PySem.W.mg_of X G a17⟩⟩, ⟨_, _, ⟨F18, b18, PySem.W.mg_of X G a18⟩⟩, ⟨_, _, ⟨F19, b19, PySem.W.mg_of X G a19⟩⟩, ⟨_, _, ⟨F20, b20, PySem.W.mg_of X G a20⟩⟩, ⟨_, _, ⟨F21, b21, PySem.W.mg_of X G a21⟩⟩, ⟨_, _, ⟨F22, b22, PySem.W.mg_of X G a22⟩⟩, ⟨_, _, ⟨F23, b23, PySem.W.mg_of X G a23⟩⟩, ⟨_, _, ⟨F24, b24, PySem.W.mg_of X G a24⟩⟩, ⟨_, _, ⟨F25, b25, PySem.W.mg_of X G a25⟩⟩, ⟨_, _, ⟨F26, b26, PySem.W.mg_of X G a26⟩⟩, ⟨_, _, ⟨F27, b27, PySem.W.mg_of X G a27⟩⟩, ⟨_, _, ⟨F28, b28, PySem.W.mg_of X G a28⟩⟩, ⟨_, _, ⟨F29, b29, PySem.W.mg_of X G a29⟩⟩, ⟨_, _, ⟨F30, b30, PySem.W.mg_of X G a30⟩⟩, ⟨_, _, ⟨F31, b31, PySem.W.mg_of X G a31⟩⟩, ⟨_, _, ⟨F32, b32, PySem.W.mg_of X G a32⟩⟩, ⟨_, _, ⟨F33, b33, PySem.W.mg_of X G a33⟩⟩, ⟨_, _, ⟨F34, b34, PySem.W.mg_of X G a34⟩⟩, ⟨_, _, ⟨F35, b35, PySem.W.mg_of X G a35⟩⟩, ⟨_, _, ⟨F36, b36, PySem.W.mg_of X G a36⟩⟩⟩
  refine ⟨_, fun s v => ?_, fun base _ _ => ok_law F37 Z⟩
  exact .of_eq rfl
theorem tells : Tells spLaw := fun K H a ns hl hS => ⟨a, ns, rfl, hS, hl, fun _ => rfl⟩
end Fw
open PySem PySem.W PyProof.Rows in
set_option maxRecDepth 100000 in
set_option maxHeartbeats 0 in
theorem PySem.Challenge.cw_fromwithin_k87_whole_texts_round_trip_holds : PySem.Challenge.rw_fromwithin_k87_whole_texts_round_trip.Holds := by
  w_on; o_law
  refine HandSHeadRun.head_any (r := FwH.hR) (q := FwH.hV) (H := kHook FwH.hK.heap_1 FwH.hK.2 FwH.hE) (ob := fun s => FwH.hK.2.map (HandSHeadRun.getT s)) (M := 30000) (loose := FwH.hN) (d := HandSHeadRun.topDef FwH.hR.prog 69) (kwd := [])
    (fun s => List.map_congr_left fun a _ => HandSHeadRun.getT_eq s a) (by kernel_rfl) (fun s => by kernel_rfl) (fun w => PySem.W.byRow2 "special-get-raises" FwH.run_f FwH.run_t w)
    (by kernel_rfl) (by kernel_rfl) (by kernel_rfl) (by rfl) (by first | assumption | decide +kernel) (by decide +kernel) ⟨rfl, rfl, rfl, rfl, rfl, by decide +kernel⟩ ?hw ?hc
  (case hw => w_witness2)
  k_fill
  refine Fw.walkG (l := PySem.Challenge.rw_fromwithin_k87_whole_texts_round_trip) (k := 10) Fw.tells rfl (by kernel_rfl) ⟨rfl, by decide, by decide⟩ (fun w h Y => PySem.W.kIn_of Y) ?F
  case F =>
    intro w mg fa h KX G hmg
    have named : (HandSHeadRun.topDef FwH.hR.prog 69).name = ("law" : PySem.Str) := by kernel_rfl
    rw [named] at hmg
    refine' Fw.all_mk KX G hmg ?q0 ?q1 ?q2 ?q3 ?uHEa ?uHEb ?uHEc ?uHEd ?uUnknownPersona ?uUnknownPersonb ?uUnknownPersonc ?uUnknownPersond ?uUnknownPersone ?uUnknownPersonf ?uUnknownPersong ?uUnknownPersonh ?uUnknownPersoni ?uUnknownPersonj ?uUnknownPersonk ?uUnknownPersonl ?uUnknownPersonm ?uUnknownPersonn ?uUnknownPersono ?uUnknownPersonp ?uUnknownPersonq ?uInvalidRooma ?uInvalidRoomb ?uInvalidRoomc ?uInvalidRoomd ?uInvalidRoome ?uInvalidRoomf ?uInvalidRoomg ?uInvalidRoomh ?uInvalidRoomi ?uInvalidRoomj ?uInvalidRoomk ?uInvalidRooml ?uInvalidRoomm ?uInvalidRoomn ?uInvalidRoomo ?uInvalidRoomp ?uInvalidRoomq ?uNotAdjacenta ?uNotAdjacentb ?uNotAdjacentc ?uNotAdjacentd ?uNotAdjacente ?uNotAdjacentf ?uNotAdjacentg ?uNotAdjacenth ?uNotAdjacenti ?uNotAdjacentj ?uNotAdjacentk ?uNotAdjacentl ?uNotAdjacentm ?uNotAdjacentn ?uNotAdjacento ?uNotAdjacentp ?uNotAdjacentq ?uEmptyRooma ?uEmptyRoomb ?uEmptyRoomc ?uEmptyRoomd ?uEmptyRoome ?uEmptyRoomf ?uEmptyRoomg ?uEmptyRoomh ?uEmptyRoomi ?uEmptyRoomj ?uEmptyRoomk ?uEmptyRooml ?uEmptyRoomm ?uEmptyRoomn ?uEmptyRoomo ?uEmptyRoomp ?uEmptyRoomq ?uInvalidMovesa ?uInvalidMovesb ?uInvalidMovesc ?uInvalidMovesd ?uInvalidMovese ?uInvalidMovesf ?uInvalidMovesg ?uInvalidMovesh ?uInvalidMovesi ?uInvalidMovesj ?uInvalidMovesk ?uInvalidMovesl ?uInvalidMovesm ?uInvalidMovesn ?uInvalidMoveso ?uInvalidMovesp ?uInvalidMovesq ?uOtherRegiona ?uOtherRegionb ?uOtherRegionc ?uOtherRegiond ?uOtherRegione ?uOtherRegionf ?uOtherRegiong ?uOtherRegionh ?uOtherRegioni ?uOtherRegionj ?uOtherRegionk ?uOtherRegionl ?uOtherRegionm ?uOtherRegionn ?uOtherRegiono ?uOtherRegionp ?uOtherRegionq ?uTightRegiona ?uTightRegionb ?uTightRegionc ?uTightRegiond ?uTightRegione ?uTightRegionf ?uTightRegiong ?uTightRegionh ?uTightRegioni ?uTightRegionj ?uTightRegionk ?uTightRegionl ?uTightRegionm ?uTightRegionn ?uTightRegiono ?uTightRegionp ?uTightRegionq ?uBlockeda ?uBlockedb ?uBlockedc ?uBlockedd ?uBlockede ?uBlockedf ?uBlockedg ?uBlockedh ?uBlockedi ?uBlockedj ?uBlockedk ?uBlockedl ?uBlockedm ?uBlockedn ?uBlockedo ?uBlockedp ?uBlockedq ?uInvalidNamea ?uInvalidNameb ?uInvalidNamec ?uInvalidNamed ?uInvalidNamee ?uInvalidNamef ?uInvalidNameg ?uInvalidNameh ?uInvalidNamei ?uInvalidNamej ?uInvalidNamek ?uInvalidNamel ?uInvalidNamem ?uInvalidNamen ?uInvalidNameo ?uInvalidNamep ?uInvalidNameq ?uDuplicateNamea ?uDuplicateNameb ?uDuplicateNamec ?uDuplicateNamed ?uDuplicateNamee ?uDuplicateNamef ?uDuplicateNameg ?uDuplicateNameh ?uDuplicateNamei ?uDuplicateNamej ?uDuplicateNamek ?uDuplicateNamel ?uDuplicateNamem ?uDuplicateNamen ?uDuplicateNameo ?uDuplicateNamep ?uDuplicateNameq ?uLimitReacheda ?uLimitReachedb ?uLimitReachedc ?uLimitReachedd ?uLimitReachede ?uLimitReachedf ?uLimitReachedg ?uLimitReachedh ?uLimitReachedi ?uLimitReachedj ?uLimitReachedk ?uLimitReachedl ?uLimitReachedm ?uLimitReachedn ?uLimitReachedo ?uLimitReachedp ?uLimitReachedq ?uAlreadyAdjacenta ?uAlreadyAdjacentb ?uAlreadyAdjacentc ?uAlreadyAdjacentd ?uAlreadyAdjacente ?uAlreadyAdjacentf ?uAlreadyAdjacentg ?uAlreadyAdjacenth ?uAlreadyAdjacenti ?uAlreadyAdjacentj ?uAlreadyAdjacentk ?uAlreadyAdjacentl ?uAlreadyAdjacentm ?uAlreadyAdjacentn ?uAlreadyAdjacento ?uAlreadyAdjacentp ?uAlreadyAdjacentq ?uWouldFormCyclea ?uWouldFormCycleb ?uWouldFormCyclec ?uWouldFormCycled ?uWouldFormCyclee ?uWouldFormCyclef ?uWouldFormCycleg ?uWouldFormCycleh ?uWouldFormCyclei ?uWouldFormCyclej ?uWouldFormCyclek ?uWouldFormCyclel ?uWouldFormCyclem ?uWouldFormCyclen ?uWouldFormCycleo ?uWouldFormCyclep ?uWouldFormCycleq ?uBatchFaileda ?uBatchFailedb ?uBatchFailedc ?uBatchFailedd ?uBatchFailede ?uBatchFailedf ?uBatchFailedg ?uBatchFailedh ?uBatchFailedi ?uBatchFailedj ?uBatchFailedk ?uBatchFailedl ?uBatchFailedm ?uBatchFailedn ?uBatchFailedo ?uBatchFailedp ?uBatchFailedq ?uInvalidMomenta ?uInvalidMomentb ?uInvalidMomentc ?uInvalidMomentd ?uInvalidMomente ?uInvalidMomentf ?uInvalidMomentg ?uInvalidMomenth ?uInvalidMomenti ?uInvalidMomentj ?uInvalidMomentk ?uInvalidMomentl ?uInvalidMomentm ?uInvalidMomentn ?uInvalidMomento ?uInvalidMomentp ?uInvalidMomentq ?uInvalidTexta ?uInvalidTextb ?uInvalidTextc ?uInvalidTextd ?uInvalidTexte ?uInvalidTextf ?uInvalidTextg ?uInvalidTexth ?uInvalidTexti ?uInvalidTextj ?uInvalidTextk ?uInvalidTextl ?uInvalidTextm ?uInvalidTextn ?uInvalidTexto ?uInvalidTextp ?uInvalidTextq ?uNothingToUndoa ?uNothingToUndob ?uNothingToUndoc ?uNothingToUndod ?uNothingToUndoe ?uNothingToUndof ?uNothingToUndog ?uNothingToUndoh ?uNothingToUndoi ?uNothingToUndoj ?uNothingToUndok ?uNothingToUndol ?uNothingToUndom ?uNothingToUndon ?uNothingToUndop ?uNothingToUndoq ?uHistoryFulla ?uHistoryFullb ?uHistoryFullc ?uHistoryFulld ?uHistoryFulle ?uHistoryFullf ?uHistoryFullg ?uHistoryFullh ?uHistoryFulli ?uHistoryFullj ?uHistoryFullk ?uHistoryFulll ?uHistoryFullm ?uHistoryFulln ?uHistoryFullp ?uHistoryFullq ?uSessionBusya ?uSessionBusyb ?uSessionBusyc ?uSessionBusyd ?uSessionBusye ?uSessionBusyf ?uSessionBusyg ?uSessionBusyh ?uSessionBusyi ?uSessionBusyj ?uSessionBusyk ?uSessionBusyl ?uSessionBusym ?uSessionBusyn ?uSessionBusyp ?uSessionBusyq ?uInvalidActionsa ?uInvalidActionsb ?uInvalidActionsc ?uInvalidActionsd ?uInvalidActionse ?uInvalidActionsf ?uInvalidActionsg ?uInvalidActionsh ?uInvalidActionsi ?uInvalidActionsj ?uInvalidActionsk ?uInvalidActionsl ?uInvalidActionsm ?uInvalidActionsn ?uInvalidActionsp ?uInvalidActionsq ?uInvalidHousea ?uInvalidHouseb ?uInvalidHousec ?uInvalidHoused ?uInvalidHousee ?uInvalidHousef ?uInvalidHouseg ?uInvalidHouseh ?uInvalidHousei ?uInvalidHousej ?uInvalidHousek ?uInvalidHousel ?uInvalidHousem ?uInvalidHousen ?uInvalidHousep ?uInvalidHouseq ?uInvalidPlacementa ?uInvalidPlacementb ?uInvalidPlacementc ?uInvalidPlacementd ?uInvalidPlacemente ?uInvalidPlacementf ?uInvalidPlacementg ?uInvalidPlacementh ?uInvalidPlacementi ?uInvalidPlacementj ?uInvalidPlacementk ?uInvalidPlacementl ?uInvalidPlacementm ?uInvalidPlacementn ?uInvalidPlacementp ?uInvalidPlacementq ?a1 ?l1 ?c1 ?k1 ?a2 ?l2 ?c2 ?k2 ?a3 ?l3 ?c3 ?k3 ?a4 ?l4 ?c4 ?k4 ?a5 ?l5 ?c5 ?k5 ?a6 ?l6 ?c6 ?k6 ?a7 ?l7 ?c7 ?k7 ?a8 ?l8 ?c8 ?k8 ?a9 ?l9 ?c9 ?k9 ?a10 ?l10 ?c10 ?k10 ?a11 ?l11 ?c11 ?k11 ?a12 ?l12 ?c12 ?k12 ?a13 ?l13 ?c13 ?k13 ?a14 ?l14 ?c14 ?k14 ?a15 ?l15 ?c15 ?k15 ?a16 ?l16 ?c16 ?k16 ?a17 ?l17 ?c17 ?k17 ?a18 ?l18 ?c18 ?k18 ?a19 ?l19 ?c19 ?k19 ?a20 ?l20 ?c20 ?k20 ?a21 ?l21 ?c21 ?k21 ?a22 ?l22 ?c22 ?k22 ?a23 ?l23 ?c23 ?k23 ?a24 ?l24 ?c24 ?k24 ?a25 ?l25 ?c25 ?k25 ?a26 ?l26 ?c26 ?k26 ?a27 ?l27 ?c27 ?k27 ?a28 ?l28 ?c28 ?k28 ?a29 ?l29 ?c29 ?k29 ?a30 ?l30 ?c30 ?k30 ?a31 ?l31 ?c31 ?k31 ?a32 ?l32 ?c32 ?k32 ?a33 ?l33 ?c33 ?k33 ?a34 ?l34 ?c34 ?k34 ?a35 ?l35 ?c35 ?k35 ?a36 ?l36 ?c36 ?k36 ?a37 ?l37 ?c37 ?k37 ?z_abs ?z_len ?z_list ?z_range ?z_min ?z_max ?z_tuple ?z_sorted ?z_isinstance ?z_all ?z_zip ?z_bool ?z_int ?z_str ?z_repr ?z_ValueError ?z_enumerate
    (case q0 => k_is)
    (case q1 => k_is)
    (case q2 => k_is)
    (case q3 => k_is)
    (case uHEa => k_is)
    (case uHEb => k_is)
    (case uHEc => k_is)
    (case uHEd => k_is)
    (case uUnknownPersona => k_is)
    (case uUnknownPersonb => k_is)
    (case uUnknownPersonc => k_is)
    (case uUnknownPersond => k_is)
    (case uUnknownPersone => k_is)
    (case uUnknownPersonf => k_is)
    (case uUnknownPersong => k_is)
    (case uUnknownPersonh => k_is)
    (case uUnknownPersoni => k_is)
    (case uUnknownPersonj => k_is)
    (case uUnknownPersonk => k_is)
    (case uUnknownPersonl => k_is)
    (case uUnknownPersonm => k_is)
    (case uUnknownPersonn => k_is)
    (case uUnknownPersono => k_is)
    (case uUnknownPersonp => k_is)
    (case uUnknownPersonq => k_is)
    (case uInvalidRooma => k_is)
    (case uInvalidRoomb => k_is)
    (case uInvalidRoomc => k_is)
    (case uInvalidRoomd => k_is)
    (case uInvalidRoome => k_is)
    (case uInvalidRoomf => k_is)
    (case uInvalidRoomg => k_is)
    (case uInvalidRoomh => k_is)
    (case uInvalidRoomi => k_is)
    (case uInvalidRoomj => k_is)
    (case uInvalidRoomk => k_is)
    (case uInvalidRooml => k_is)
    (case uInvalidRoomm => k_is)
    (case uInvalidRoomn => k_is)
    (case uInvalidRoomo => k_is)
    (case uInvalidRoomp => k_is)
    (case uInvalidRoomq => k_is)
    (case uNotAdjacenta => k_is)
    (case uNotAdjacentb => k_is)
    (case uNotAdjacentc => k_is)
    (case uNotAdjacentd => k_is)
    (case uNotAdjacente => k_is)
    (case uNotAdjacentf => k_is)
    (case uNotAdjacentg => k_is)
    (case uNotAdjacenth => k_is)
    (case uNotAdjacenti => k_is)
    (case uNotAdjacentj => k_is)
    (case uNotAdjacentk => k_is)
    (case uNotAdjacentl => k_is)
    (case uNotAdjacentm => k_is)
    (case uNotAdjacentn => k_is)
    (case uNotAdjacento => k_is)
    (case uNotAdjacentp => k_is)
    (case uNotAdjacentq => k_is)
    (case uEmptyRooma => k_is)
    (case uEmptyRoomb => k_is)
    (case uEmptyRoomc => k_is)
    (case uEmptyRoomd => k_is)
    (case uEmptyRoome => k_is)
    (case uEmptyRoomf => k_is)
    (case uEmptyRoomg => k_is)
    (case uEmptyRoomh => k_is)
    (case uEmptyRoomi => k_is)
    (case uEmptyRoomj => k_is)
    (case uEmptyRoomk => k_is)
    (case uEmptyRooml => k_is)
    (case uEmptyRoomm => k_is)
    (case uEmptyRoomn => k_is)
    (case uEmptyRoomo => k_is)
    (case uEmptyRoomp => k_is)
    (case uEmptyRoomq => k_is)
    (case uInvalidMovesa => k_is)
    (case uInvalidMovesb => k_is)
    (case uInvalidMovesc => k_is)
    (case uInvalidMovesd => k_is)
    (case uInvalidMovese => k_is)
    (case uInvalidMovesf => k_is)
    (case uInvalidMovesg => k_is)
    (case uInvalidMovesh => k_is)
    (case uInvalidMovesi => k_is)
    (case uInvalidMovesj => k_is)
    (case uInvalidMovesk => k_is)
    (case uInvalidMovesl => k_is)
    (case uInvalidMovesm => k_is)
    (case uInvalidMovesn => k_is)
    (case uInvalidMoveso => k_is)
    (case uInvalidMovesp => k_is)
    (case uInvalidMovesq => k_is)
    (case uOtherRegiona => k_is)
    (case uOtherRegionb => k_is)
    (case uOtherRegionc => k_is)
    (case uOtherRegiond => k_is)
    (case uOtherRegione => k_is)
    (case uOtherRegionf => k_is)
    (case uOtherRegiong => k_is)
    (case uOtherRegionh => k_is)
    (case uOtherRegioni => k_is)
    (case uOtherRegionj => k_is)
    (case uOtherRegionk => k_is)
    (case uOtherRegionl => k_is)
    (case uOtherRegionm => k_is)
    (case uOtherRegionn => k_is)
    (case uOtherRegiono => k_is)
    (case uOtherRegionp => k_is)
    (case uOtherRegionq => k_is)
    (case uTightRegiona => k_is)
    (case uTightRegionb => k_is)
    (case uTightRegionc => k_is)
    (case uTightRegiond => k_is)
    (case uTightRegione => k_is)
    (case uTightRegionf => k_is)
    (case uTightRegiong => k_is)
    (case uTightRegionh => k_is)
    (case uTightRegioni => k_is)
    (case uTightRegionj => k_is)
    (case uTightRegionk => k_is)
    (case uTightRegionl => k_is)
    (case uTightRegionm => k_is)
    (case uTightRegionn => k_is)
    (case uTightRegiono => k_is)
    (case uTightRegionp => k_is)
    (case uTightRegionq => k_is)
    (case uBlockeda => k_is)
    (case uBlockedb => k_is)
    (case uBlockedc => k_is)
    (case uBlockedd => k_is)
    (case uBlockede => k_is)
    (case uBlockedf => k_is)
    (case uBlockedg => k_is)
    (case uBlockedh => k_is)
    (case uBlockedi => k_is)
    (case uBlockedj => k_is)
    (case uBlockedk => k_is)
    (case uBlockedl => k_is)
    (case uBlockedm => k_is)
    (case uBlockedn => k_is)
    (case uBlockedo => k_is)
    (case uBlockedp => k_is)
    (case uBlockedq => k_is)
    (case uInvalidNamea => k_is)
    (case uInvalidNameb => k_is)
    (case uInvalidNamec => k_is)
    (case uInvalidNamed => k_is)
    (case uInvalidNamee => k_is)
    (case uInvalidNamef => k_is)
    (case uInvalidNameg => k_is)
    (case uInvalidNameh => k_is)
    (case uInvalidNamei => k_is)
    (case uInvalidNamej => k_is)
    (case uInvalidNamek => k_is)
    (case uInvalidNamel => k_is)
    (case uInvalidNamem => k_is)
    (case uInvalidNamen => k_is)
    (case uInvalidNameo => k_is)
    (case uInvalidNamep => k_is)
    (case uInvalidNameq => k_is)
    (case uDuplicateNamea => k_is)
    (case uDuplicateNameb => k_is)
    (case uDuplicateNamec => k_is)
    (case uDuplicateNamed => k_is)
    (case uDuplicateNamee => k_is)
    (case uDuplicateNamef => k_is)
    (case uDuplicateNameg => k_is)
    (case uDuplicateNameh => k_is)
    (case uDuplicateNamei => k_is)
    (case uDuplicateNamej => k_is)
    (case uDuplicateNamek => k_is)
    (case uDuplicateNamel => k_is)
    (case uDuplicateNamem => k_is)
    (case uDuplicateNamen => k_is)
    (case uDuplicateNameo => k_is)
    (case uDuplicateNamep => k_is)
    (case uDuplicateNameq => k_is)
    (case uLimitReacheda => k_is)
    (case uLimitReachedb => k_is)
    (case uLimitReachedc => k_is)
    (case uLimitReachedd => k_is)
    (case uLimitReachede => k_is)
    (case uLimitReachedf => k_is)
    (case uLimitReachedg => k_is)
    (case uLimitReachedh => k_is)
    (case uLimitReachedi => k_is)
    (case uLimitReachedj => k_is)
    (case uLimitReachedk => k_is)
    (case uLimitReachedl => k_is)
    (case uLimitReachedm => k_is)
    (case uLimitReachedn => k_is)
    (case uLimitReachedo => k_is)
    (case uLimitReachedp => k_is)
    (case uLimitReachedq => k_is)
    (case uAlreadyAdjacenta => k_is)
    (case uAlreadyAdjacentb => k_is)
    (case uAlreadyAdjacentc => k_is)
    (case uAlreadyAdjacentd => k_is)
    (case uAlreadyAdjacente => k_is)
    (case uAlreadyAdjacentf => k_is)
    (case uAlreadyAdjacentg => k_is)
    (case uAlreadyAdjacenth => k_is)
    (case uAlreadyAdjacenti => k_is)
    (case uAlreadyAdjacentj => k_is)
    (case uAlreadyAdjacentk => k_is)
    (case uAlreadyAdjacentl => k_is)
    (case uAlreadyAdjacentm => k_is)
    (case uAlreadyAdjacentn => k_is)
    (case uAlreadyAdjacento => k_is)
    (case uAlreadyAdjacentp => k_is)
    (case uAlreadyAdjacentq => k_is)
    (case uWouldFormCyclea => k_is)
    (case uWouldFormCycleb => k_is)
    (case uWouldFormCyclec => k_is)
    (case uWouldFormCycled => k_is)
    (case uWouldFormCyclee => k_is)
    (case uWouldFormCyclef => k_is)
    (case uWouldFormCycleg => k_is)
    (case uWouldFormCycleh => k_is)
    (case uWouldFormCyclei => k_is)
    (case uWouldFormCyclej => k_is)
    (case uWouldFormCyclek => k_is)
    (case uWouldFormCyclel => k_is)
    (case uWouldFormCyclem => k_is)
    (case uWouldFormCyclen => k_is)
    (case uWouldFormCycleo => k_is)
    (case uWouldFormCyclep => k_is)
    (case uWouldFormCycleq => k_is)
    (case uBatchFaileda => k_is)
    (case uBatchFailedb => k_is)
    (case uBatchFailedc => k_is)
    (case uBatchFailedd => k_is)
    (case uBatchFailede => k_is)
    (case uBatchFailedf => k_is)
    (case uBatchFailedg => k_is)
    (case uBatchFailedh => k_is)
    (case uBatchFailedi => k_is)
    (case uBatchFailedj => k_is)
    (case uBatchFailedk => k_is)
    (case uBatchFailedl => k_is)
    (case uBatchFailedm => k_is)
    (case uBatchFailedn => k_is)
    (case uBatchFailedo => k_is)
    (case uBatchFailedp => k_is)
    (case uBatchFailedq => k_is)
    (case uInvalidMomenta => k_is)
    (case uInvalidMomentb => k_is)
    (case uInvalidMomentc => k_is)
    (case uInvalidMomentd => k_is)
    (case uInvalidMomente => k_is)
    (case uInvalidMomentf => k_is)
    (case uInvalidMomentg => k_is)
    (case uInvalidMomenth => k_is)
    (case uInvalidMomenti => k_is)
    (case uInvalidMomentj => k_is)
    (case uInvalidMomentk => k_is)
    (case uInvalidMomentl => k_is)
    (case uInvalidMomentm => k_is)
    (case uInvalidMomentn => k_is)
    (case uInvalidMomento => k_is)
    (case uInvalidMomentp => k_is)
    (case uInvalidMomentq => k_is)
    (case uInvalidTexta => k_is)
    (case uInvalidTextb => k_is)
    (case uInvalidTextc => k_is)
    (case uInvalidTextd => k_is)
    (case uInvalidTexte => k_is)
    (case uInvalidTextf => k_is)
    (case uInvalidTextg => k_is)
    (case uInvalidTexth => k_is)
    (case uInvalidTexti => k_is)
    (case uInvalidTextj => k_is)
    (case uInvalidTextk => k_is)
    (case uInvalidTextl => k_is)
    (case uInvalidTextm => k_is)
    (case uInvalidTextn => k_is)
    (case uInvalidTexto => k_is)
    (case uInvalidTextp => k_is)
    (case uInvalidTextq => k_is)
    (case uNothingToUndoa => k_is)
    (case uNothingToUndob => k_is)
    (case uNothingToUndoc => k_is)
    (case uNothingToUndod => k_is)
    (case uNothingToUndoe => k_is)
    (case uNothingToUndof => k_is)
    (case uNothingToUndog => k_is)
    (case uNothingToUndoh => k_is)
    (case uNothingToUndoi => k_is)
    (case uNothingToUndoj => k_is)
    (case uNothingToUndok => k_is)
    (case uNothingToUndol => k_is)
    (case uNothingToUndom => k_is)
    (case uNothingToUndon => k_is)
    (case uNothingToUndop => k_is)
    (case uNothingToUndoq => k_is)
    (case uHistoryFulla => k_is)
    (case uHistoryFullb => k_is)
    (case uHistoryFullc => k_is)
    (case uHistoryFulld => k_is)
    (case uHistoryFulle => k_is)
    (case uHistoryFullf => k_is)
    (case uHistoryFullg => k_is)
    (case uHistoryFullh => k_is)
    (case uHistoryFulli => k_is)
    (case uHistoryFullj => k_is)
    (case uHistoryFullk => k_is)
    (case uHistoryFulll => k_is)
    (case uHistoryFullm => k_is)
    (case uHistoryFulln => k_is)
    (case uHistoryFullp => k_is)
    (case uHistoryFullq => k_is)
    (case uSessionBusya => k_is)
    (case uSessionBusyb => k_is)
    (case uSessionBusyc => k_is)
    (case uSessionBusyd => k_is)
    (case uSessionBusye => k_is)
    (case uSessionBusyf => k_is)
    (case uSessionBusyg => k_is)
    (case uSessionBusyh => k_is)
    (case uSessionBusyi => k_is)
    (case uSessionBusyj => k_is)
    (case uSessionBusyk => k_is)
    (case uSessionBusyl => k_is)
    (case uSessionBusym => k_is)
    (case uSessionBusyn => k_is)
    (case uSessionBusyp => k_is)
    (case uSessionBusyq => k_is)
    (case uInvalidActionsa => k_is)
    (case uInvalidActionsb => k_is)
    (case uInvalidActionsc => k_is)
    (case uInvalidActionsd => k_is)
    (case uInvalidActionse => k_is)
    (case uInvalidActionsf => k_is)
    (case uInvalidActionsg => k_is)
    (case uInvalidActionsh => k_is)
    (case uInvalidActionsi => k_is)
    (case uInvalidActionsj => k_is)
    (case uInvalidActionsk => k_is)
    (case uInvalidActionsl => k_is)
    (case uInvalidActionsm => k_is)
    (case uInvalidActionsn => k_is)
    (case uInvalidActionsp => k_is)
    (case uInvalidActionsq => k_is)
    (case uInvalidHousea => k_is)
    (case uInvalidHouseb => k_is)
    (case uInvalidHousec => k_is)
    (case uInvalidHoused => k_is)
    (case uInvalidHousee => k_is)
    (case uInvalidHousef => k_is)
    (case uInvalidHouseg => k_is)
    (case uInvalidHouseh => k_is)
    (case uInvalidHousei => k_is)
    (case uInvalidHousej => k_is)
    (case uInvalidHousek => k_is)
    (case uInvalidHousel => k_is)
    (case uInvalidHousem => k_is)
    (case uInvalidHousen => k_is)
    (case uInvalidHousep => k_is)
    (case uInvalidHouseq => k_is)
    (case uInvalidPlacementa => k_is)
    (case uInvalidPlacementb => k_is)
    (case uInvalidPlacementc => k_is)
    (case uInvalidPlacementd => k_is)
    (case uInvalidPlacemente => k_is)
    (case uInvalidPlacementf => k_is)
    (case uInvalidPlacementg => k_is)
    (case uInvalidPlacementh => k_is)
    (case uInvalidPlacementi => k_is)
    (case uInvalidPlacementj => k_is)
    (case uInvalidPlacementk => k_is)
    (case uInvalidPlacementl => k_is)
    (case uInvalidPlacementm => k_is)
    (case uInvalidPlacementn => k_is)
    (case uInvalidPlacementp => k_is)
    (case uInvalidPlacementq => k_is)
    (case a1 => k_is)
    (case l1 => k_is)
    (case c1 => k_is)
    (case k1 => k_is)
    (case a2 => k_is)
    (case l2 => k_is)
    (case c2 => k_is)
    (case k2 => k_is)
    (case a3 => k_is)
    (case l3 => k_is)
    (case c3 => k_is)
    (case k3 => k_is)
    (case a4 => k_is)
    (case l4 => k_is)
    (case c4 => k_is)
    (case k4 => k_is)
    (case a5 => k_is)
    (case l5 => k_is)
    (case c5 => k_is)
    (case k5 => k_is)
    (case a6 => k_is)
    (case l6 => k_is)
    (case c6 => k_is)
    (case k6 => k_is)
    (case a7 => k_is)
    (case l7 => k_is)
    (case c7 => k_is)
    (case k7 => k_is)
    (case a8 => k_is)
    (case l8 => k_is)
    (case c8 => k_is)
    (case k8 => k_is)
    (case a9 => k_is)
    (case l9 => k_is)
    (case c9 => k_is)
    (case k9 => k_is)
    (case a10 => k_is)
    (case l10 => k_is)
    (case c10 => k_is)
    (case k10 => k_is)
    (case a11 => k_is)
    (case l11 => k_is)
    (case c11 => k_is)
    (case k11 => k_is)
    (case a12 => k_is)
    (case l12 => k_is)
    (case c12 => k_is)
    (case k12 => k_is)
    (case a13 => k_is)
    (case l13 => k_is)
    (case c13 => k_is)
    (case k13 => k_is)
    (case a14 => k_is)
    (case l14 => k_is)
    (case c14 => k_is)
    (case k14 => k_is)
    (case a15 => k_is)
    (case l15 => k_is)
    (case c15 => k_is)
    (case k15 => k_is)
    (case a16 => k_is)
    (case l16 => k_is)
    (case c16 => k_is)
    (case k16 => k_is)
    (case a17 => k_is)
    (case l17 => k_is)
    (case c17 => k_is)
    (case k17 => k_is)
    (case a18 => k_is)
    (case l18 => k_is)
    (case c18 => k_is)
    (case k18 => k_is)
    (case a19 => k_is)
    (case l19 => k_is)
    (case c19 => k_is)
    (case k19 => k_is)
    (case a20 => k_is)
    (case l20 => k_is)
    (case c20 => k_is)
    (case k20 => k_is)
    (case a21 => k_is)
    (case l21 => k_is)
    (case c21 => k_is)
    (case k21 => k_is)
    (case a22 => k_is)
    (case l22 => k_is)
    (case c22 => k_is)
    (case k22 => k_is)
    (case a23 => k_is)
    (case l23 => k_is)
    (case c23 => k_is)
    (case k23 => k_is)
    (case a24 => k_is)
    (case l24 => k_is)
    (case c24 => k_is)
    (case k24 => k_is)
    (case a25 => k_is)
    (case l25 => k_is)
    (case c25 => k_is)
    (case k25 => k_is)
    (case a26 => k_is)
    (case l26 => k_is)
    (case c26 => k_is)
    (case k26 => k_is)
    (case a27 => k_is)
    (case l27 => k_is)
    (case c27 => k_is)
    (case k27 => k_is)
    (case a28 => k_is)
    (case l28 => k_is)
    (case c28 => k_is)
    (case k28 => k_is)
    (case a29 => k_is)
    (case l29 => k_is)
    (case c29 => k_is)
    (case k29 => k_is)
    (case a30 => k_is)
    (case l30 => k_is)
    (case c30 => k_is)
    (case k30 => k_is)
    (case a31 => k_is)
    (case l31 => k_is)
    (case c31 => k_is)
    (case k31 => k_is)
    (case a32 => k_is)
    (case l32 => k_is)
    (case c32 => k_is)
    (case k32 => k_is)
    (case a33 => k_is)
    (case l33 => k_is)
    (case c33 => k_is)
    (case k33 => k_is)
    (case a34 => k_is)
    (case l34 => k_is)
    (case c34 => k_is)
    (case k34 => k_is)
    (case a35 => k_is)
    (case l35 => k_is)
    (case c35 => k_is)
    (case k35 => k_is)
    (case a36 => k_is)
    (case l36 => k_is)
    (case c36 => k_is)
    (case k36 => k_is)
    (case a37 => k_is)
    (case l37 => k_is)
    (case c37 => k_is)
    (case k37 => k_is)
    (case z_abs => k_is)
    (case z_len => k_is)
    (case z_list => k_is)
    (case z_range => k_is)
    (case z_min => k_is)
    (case z_max => k_is)
    (case z_tuple => k_is)
    (case z_sorted => k_is)
    (case z_isinstance => k_is)
    (case z_all => k_is)
    (case z_zip => k_is)
    (case z_bool => k_is)
    (case z_int => k_is)
    (case z_str => k_is)
    (case z_repr => k_is)
    (case z_ValueError => k_is)
    (case z_enumerate => k_is)
