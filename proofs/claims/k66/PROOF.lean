import PyProof.Rows.All
import Wide.All
import OpenK.AllK
import Wide.FinOn
import HandS.ForMost
import HandS.Head0
import HandS.Head1
import HandS.Head2
import HandS.Wide
import HandS.Conv
import HandS.Style
import HandS.Sort
import HandS.SortRule
import HandS.SortInts
import HandS.Deep
import HandS.Text
import HandS.Words
import HandS.IsInst
import HandS.More
import HandS.TupSets
import HandS.Zip
import HandS.Walk
import KE.SortData
import PyProof.TupleOfSeq
import HandS.ExcInit
import HandS.ExcField
import HandS.SetFor
import KE.KExcIs
import HandS.ExcOwn
import HandS.TryMany
import HandS.WordsExc
import KE.KTryMore
import KE.KDictPairs
import PyProof.EqKinds
import HandS.TupAny
import HandS.Flow
import KE.GoesMore
import HandS.HotCalls
import HandS.SlotsOwn
import HandS.Star
import HandS.CallLocal
import OpenK.KOps
import KE.KCallOwn
import PyProof.CollectIter
import PyProof.WalksS
import HandS.FStr
import HandS.Defaults
import PySem.Challenge.RW_fromwithin_k66_people_in_sessions
set_option Elab.async false
set_option linter.all false
set_option maxRecDepth 100000
set_option maxHeartbeats 8000000
namespace FwH
open PySem PySem.W PySem.Calls PyProof.Rows
abbrev hR : OpenRow := OpenLaw.row PySem.Challenge.rw_fromwithin_k66_people_in_sessions
abbrev hV : Program := view hR.prog [114]
def hN0 : List PySem.Str := [PySem.Str.ofString "_wall", PySem.Str.ofString "MAX_ROOMS", PySem.Str.ofString "MAX_PEOPLE", PySem.Str.ofString "MAX_ACTIONS", PySem.Str.ofString "__name__", PySem.Str.ofString "LONGEST_NAME", PySem.Str.ofString "is_integer", PySem.Str.ofString "is_name", PySem.Str.ofString "is_pair", PySem.Str.ofString "is_ascending", PySem.Str.ofString "HouseError", PySem.Str.ofString "UnknownPerson", PySem.Str.ofString "InvalidRoom", PySem.Str.ofString "NotAdjacent", PySem.Str.ofString "EmptyRoom", PySem.Str.ofString "Blocked", PySem.Str.ofString "InvalidName", PySem.Str.ofString "DuplicateName", PySem.Str.ofString "LimitReached", PySem.Str.ofString "AlreadyAdjacent", PySem.Str.ofString "WouldFormCycle", PySem.Str.ofString "NothingToUndo", PySem.Str.ofString "HistoryFull", PySem.Str.ofString "SessionBusy", PySem.Str.ofString "InvalidActions", PySem.Str.ofString "BatchFailed", PySem.Str.ofString "InvalidMoment", PySem.Str.ofString "InvalidHouse", PySem.Str.ofString "InvalidPlacement", PySem.Str.ofString "is_house", PySem.Str.ofString "is_room", PySem.Str.ofString "is_door", PySem.Str.ofString "has_cycle", PySem.Str.ofString "neighbors", PySem.Str.ofString "path_between", PySem.Str.ofString "components", PySem.Str.ofString "steps_toward", PySem.Str.ofString "is_placement", PySem.Str.ofString "is_person_in_room", PySem.Str.ofString "names_of"]
def hN1 : List PySem.Str := [PySem.Str.ofString "room_of", PySem.Str.ofString "with_person_in", PySem.Str.ofString "people_in", PySem.Str.ofString "people_within", PySem.Str.ofString "find_regions", PySem.Str.ofString "surplus", PySem.Str.ofString "is_tight", PySem.Str.ofString "move_person", PySem.Str.ofString "after_move", PySem.Str.ofString "after_enter", PySem.Str.ofString "refuse_no_room", PySem.Str.ofString "with_more", PySem.Str.ofString "after_leave", PySem.Str.ofString "without", PySem.Str.ofString "after_set_target", PySem.Str.ofString "after_add_door", PySem.Str.ofString "door_between", PySem.Str.ofString "after_remove_door", PySem.Str.ofString "after_add_room", PySem.Str.ofString "CHANGES", PySem.Str.ofString "state_after", PySem.Str.ofString "people_outside", PySem.Str.ofString "people_leaving", PySem.Str.ofString "passed_rooms", PySem.Str.ofString "path_to_target", PySem.Str.ofString "next_toward_target", PySem.Str.ofString "all_at_target", PySem.Str.ofString "room_ahead", PySem.Str.ofString "find_certificate", PySem.Str.ofString "unwanted_rooms", PySem.Str.ofString "rows_to_try", PySem.Str.ofString "region_passing", PySem.Str.ofString "rooms_back", PySem.Str.ofString "conditions_hold", PySem.Str.ofString "has_way_back", PySem.Str.ofString "find_block", PySem.Str.ofString "refuse_block", PySem.Str.ofString "tight_regions", PySem.Str.ofString "LOG_ROWS", PySem.Str.ofString "Session"]
def hN2 : List PySem.Str := [PySem.Str.ofString "house_size", PySem.Str.ofString "_law_stream", PySem.Str.ofString "_law_names", PySem.Str.ofString "_law_draw", PySem.Str.ofString "_law_house", PySem.Str.ofString "_law_placement", PySem.Str.ofString "_law_neighbors", PySem.Str.ofString "_law_connected", PySem.Str.ofString "_law_moved", PySem.Str.ofString "_law_is_integer", PySem.Str.ofString "_law_is_name", PySem.Str.ofString "_law_apply", PySem.Str.ofString "_law_error_name", PySem.Str.ofString "_law_error_field", PySem.Str.ofString "_law_full_result", PySem.Str.ofString "_law_without", PySem.Str.ofString "_law_people_outcome", PySem.Str.ofString "_law_doors_outcome", PySem.Str.ofString "_law_expected_outcome", PySem.Str.ofString "_law_snapshot", PySem.Str.ofString "_law_expected_snapshot", PySem.Str.ofString "_law_random_action", PySem.Str.ofString "_law_initial", PySem.Str.ofString "_law_repeated_turn_holds"]
def hN : List PySem.Str := hN0 ++ hN1 ++ hN2
theorem laid {P : Prop} (H : Hook) (h : ∀ H' : Hook, H' = H → P) : P := h H rfl
local macro_rules | `(tactic| o_head $H) => `(tactic| refine FwH.laid $H ?_)
noncomputable def hPut (a : Params → Frag) (b : List Addr) (_ : (∀ (K : Params → Frag) (as : List Addr) (e : ∀ P, as = (K P).map (·.1)) (H : Hook), H = kHook K as e → K = a → as = b → hR.Holds) → hR.Holds) : (Params → Frag) × List Addr := (a, b)
noncomputable def hK : (Params → Frag) × List Addr := by
  apply hPut
  intro put
  k_head
  intro H' e
  exact put _ _ _ _ e rfl rfl
theorem hE : ∀ P, hK.2 = (hK.heap_1 P).map (·.1) := fun _ => by kernel_rfl
abbrev Run (w : World) : Prop := HandSHeadRun.RunEq hR hV (kHook hK.heap_1 hK.2 hE) (fun s => hK.2.map (HandSHeadRun.getT s)) 30000 hN w
set_option maxHeartbeats 0 in
theorem run_f (w : World) : Run (w.withFollow "special-get-raises" false) := by
  intro os
  kernel_rfl
set_option maxHeartbeats 0 in
theorem run_t (w : World) : Run (w.withFollow "special-get-raises" true) := by
  intro os
  kernel_rfl
end FwH
/-! Forests grown room by room: simple ways in them are unique. -/
namespace Fw
def adj (D : List (Int × Int)) (a b : Int) : Prop := (a, b) ∈ D ∨ (b, a) ∈ D
theorem adj_symm {D : List (Int × Int)} {a b : Int} (h : adj D a b) : adj D b a := h.symm
/-- a way without a room twice -/
inductive SP (R : Int → Int → Prop) : Int → Int → List Int → Prop
  | one (a : Int) : SP R a a [a]
  | cons {a c b : Int} {p : List Int} : R a c → SP R c b p → a ∉ p → SP R a b (a :: p)
section
variable {R R' : Int → Int → Prop}
theorem SP.head {a b : Int} {p : List Int} (h : SP R a b p) : a ∈ p := by
  cases h <;> simp
theorem SP.last {a b : Int} {p : List Int} (h : SP R a b p) : b ∈ p := by
  induction h with
  | one a => simp
  | cons _ _ _ ih => exact List.mem_cons_of_mem _ ih
theorem SP.loop {a : Int} {p : List Int} (h : SP R a a p) : p = [a] := by
  cases h with
  | one => rfl
  | cons r q n => exact absurd q.last n
theorem SP.nodup {a b : Int} {p : List Int} (h : SP R a b p) : p.Nodup := by
  induction h with
  | one a => simp
  | cons _ _ n ih => exact List.nodup_cons.mpr ⟨n, ih⟩
theorem SP.snoc {a b c : Int} {p : List Int} (h : SP R a b p) (r : R b c) (n : c ∉ p) : SP R a c (p ++ [c]) := by
  induction h with
  | one a =>
    refine .cons r (.one c) ?_
    intro e
    have e : a = c := List.mem_singleton.mp e
    exact n (by rw [e]; simp)
  | cons r' q n' ih =>
    rename_i a' c' b' p'
    rw [List.mem_cons, not_or] at n
    refine .cons r' (ih r n.2) ?_
    intro e
    rcases List.mem_append.mp e with e | e
    · exact n' e
    · exact n.1 (List.mem_singleton.mp e).symm
theorem SP.map {a b : Int} {p : List Int} (h : SP R a b p) (f : ∀ x y, x ∈ p → y ∈ p → R x y → R' x y) : SP R' a b p := by
  induction h with
  | one a => exact .one a
  | cons r q n ih =>
    exact .cons (f _ _ (List.mem_cons_self ..) (List.mem_cons_of_mem _ q.head) r) (ih fun x y hx hy => f x y (List.mem_cons_of_mem _ hx) (List.mem_cons_of_mem _ hy)) n
/-- what is closed under R and holds the end holds the start, and the other way -/
theorem SP.back {S : Int → Prop} (hs : ∀ x y, R x y → S y → S x) {a b : Int} {p : List Int} (h : SP R a b p) (e : S b) : S a := by
  induction h with
  | one a => exact e
  | cons r _ _ ih => exact hs _ _ r (ih e)
end
def Uniq (R : Int → Int → Prop) : Prop := ∀ a b p q, SP R a b p → SP R a b q → p = q
section
variable {R R' : Int → Int → Prop} {u v : Int}
/-- one more leaf v, on u -/
structure Leaf (R R' : Int → Int → Prop) (u v : Int) : Prop where
  iff : ∀ x y, R' x y ↔ (R x y ∨ (x = u ∧ y = v) ∨ (x = v ∧ y = u))
  no1 : ∀ x, ¬ R v x
  no2 : ∀ x, ¬ R x v
  ne : u ≠ v
theorem Leaf.into (L : Leaf R R' u v) {x : Int} (h : R' x v) : x = u := by
  rcases (L.iff x v).mp h with h | h | h
  · exact absurd h (L.no2 x)
  · exact h.1
  · exact absurd h.2.symm L.ne
theorem Leaf.out (L : Leaf R R' u v) {x : Int} (h : R' v x) : x = u := by
  rcases (L.iff v x).mp h with h | h | h
  · exact absurd h (L.no1 x)
  · exact absurd h.1.symm L.ne
  · exact h.2
theorem Leaf.off (L : Leaf R R' u v) {x y : Int} (hx : x ≠ v) (hy : y ≠ v) (h : R' x y) : R x y := by
  rcases (L.iff x y).mp h with h | h | h
  · exact h
  · exact absurd h.2 hy
  · exact absurd h.1 hx
theorem Leaf.avoid (L : Leaf R R' u v) {a b : Int} {p : List Int} (h : SP R' a b p) (n : v ∉ p) : SP R a b p :=
  h.map fun x y hx hy r => L.off (fun e => n (e ▸ hx)) (fun e => n (e ▸ hy)) r
theorem Leaf.free (L : Leaf R R' u v) {a b : Int} {p : List Int} (h : SP R' a b p) (ha : a ≠ v) (hb : b ≠ v) : v ∉ p := by
  induction h with
  | one a =>
    intro e
    rw [List.mem_singleton] at e
    exact ha e.symm
  | cons r q n ih =>
    rename_i a' c' b' p'
    by_cases hc : c' = v
    · subst hc
      have e := L.into r
      cases q with
      | one => exact absurd rfl hb
      | cons r2 q2 n2 =>
        rename_i c2 p2
        have e2 := L.out r2
        exact absurd (List.mem_cons_of_mem _ (e ▸ e2 ▸ q2.head)) n
    · intro e
      rw [List.mem_cons] at e
      rcases e with e | e
      · exact ha e.symm
      · exact ih hc hb e
theorem Leaf.from (L : Leaf R R' u v) {b : Int} {p : List Int} (h : SP R' v b p) (hb : b ≠ v) : ∃ p', p = v :: p' ∧ SP R u b p' := by
  cases h with
  | one => exact absurd rfl hb
  | cons r q n =>
    rename_i c p'
    have e := L.out r
    subst e
    exact ⟨p', rfl, L.avoid q n⟩
theorem Leaf.to (L : Leaf R R' u v) {a b : Int} {p : List Int} (h : SP R' a b p) : a ≠ v → b = v → ∃ p', p = p' ++ [v] ∧ SP R a u p' := by
  induction h with
  | one a =>
    intro h1 h2
    exact absurd h2 h1
  | cons r q n ih =>
    rename_i a' c' b' p'
    intro h1 h2
    by_cases hc : c' = v
    · subst hc
      subst h2
      have e := L.into r
      subst e
      have e2 := q.loop
      subst e2
      exact ⟨[a'], rfl, .one _⟩
    · obtain ⟨p2, e, q2⟩ := ih hc h2
      refine ⟨a' :: p2, by rw [e]; rfl, .cons (L.off h1 hc r) q2 ?_⟩
      intro m
      exact n (by rw [e]; exact List.mem_append_left _ m)
theorem Leaf.uniq (L : Leaf R R' u v) (U : Uniq R) : Uniq R' := by
  intro a b p q hp hq
  by_cases ha : a = v
  · subst ha
    by_cases hb : b = a
    · subst hb
      rw [hp.loop, hq.loop]
    · obtain ⟨p', e1, s1⟩ := L.from hp hb
      obtain ⟨q', e2, s2⟩ := L.from hq hb
      rw [e1, e2, U _ _ _ _ s1 s2]
  · by_cases hb : b = v
    · obtain ⟨p', e1, s1⟩ := L.to hp ha hb
      obtain ⟨q', e2, s2⟩ := L.to hq ha hb
      rw [e1, e2, U _ _ _ _ s1 s2]
    · exact U _ _ _ _ (L.avoid hp (L.free hp ha hb)) (L.avoid hq (L.free hq ha hb))
end
/-- a forest, room by room: the rooms that stand, and the doors -/
inductive Grown : List Int → List (Int × Int) → Prop
  | nil : Grown [] []
  | room {U : List Int} {E : List (Int × Int)} (v : Int) : Grown U E → v ∉ U → Grown (v :: U) E
  | door {U : List Int} {E : List (Int × Int)} (v u a b : Int) : Grown U E → v ∉ U → u ∈ U → (a = min u v ∧ b = max u v) → Grown (v :: U) ((a, b) :: E)
theorem minmax (u v a b : Int) (h : a = min u v ∧ b = max u v) : (a = u ∧ b = v ∧ u ≤ v) ∨ (a = v ∧ b = u ∧ v ≤ u) := by
  omega
theorem Grown.ends {U : List Int} {E : List (Int × Int)} (g : Grown U E) : ∀ a b, (a, b) ∈ E → a ∈ U ∧ b ∈ U ∧ a < b := by
  induction g with
  | nil => intro a b h; cases h
  | room v g n ih => intro a b h; exact ⟨List.mem_cons_of_mem _ (ih a b h).1, List.mem_cons_of_mem _ (ih a b h).2.1, (ih a b h).2.2⟩
  | door v u x y g n hu hm ih =>
    intro a b h
    have hne : u ≠ v := fun e => n (e ▸ hu)
    rw [List.mem_cons] at h
    rcases h with h | h
    · injection h with h1 h2
      subst h1 h2
      rcases minmax u v a b hm with ⟨h1, h2, h3⟩ | ⟨h1, h2, h3⟩
      · subst h1 h2
        exact ⟨List.mem_cons_of_mem _ hu, List.mem_cons_self .., by omega⟩
      · subst h1 h2
        exact ⟨List.mem_cons_self .., List.mem_cons_of_mem _ hu, by omega⟩
    · exact ⟨List.mem_cons_of_mem _ (ih a b h).1, List.mem_cons_of_mem _ (ih a b h).2.1, (ih a b h).2.2⟩
theorem Grown.nodup {U : List Int} {E : List (Int × Int)} (g : Grown U E) : E.Nodup := by
  induction g with
  | nil => exact List.nodup_nil
  | room v g n ih => exact ih
  | door v u x y g n hu hm ih =>
    refine List.nodup_cons.mpr ⟨fun h => ?_, ih⟩
    have e := g.ends x y h
    rcases minmax u v x y hm with ⟨h1, h2, _⟩ | ⟨h1, h2, _⟩
    · exact n (h2 ▸ e.2.1)
    · exact n (h1 ▸ e.1)
theorem Grown.length {U : List Int} {E : List (Int × Int)} (g : Grown U E) : E.length ≤ U.length := by
  induction g with
  | nil => exact Nat.le_refl _
  | room v g n ih => exact Nat.le_succ_of_le ih
  | door v u x y g n hu hm ih => exact Nat.succ_le_succ ih
theorem Grown.uniq {U : List Int} {E : List (Int × Int)} (g : Grown U E) : Uniq (adj E) := by
  induction g with
  | nil =>
    intro a b p q hp hq
    have k : ∀ {p : List Int}, SP (adj []) a b p → p = [a] := by
      intro p hp
      cases hp with
      | one => rfl
      | cons r _ _ => rcases r with r | r <;> cases r
    rw [k hp, k hq]
  | room v g n ih => exact ih
  | @door U E v u x y g n hu hm ih =>
    have L : Leaf (adj E) (adj ((x, y) :: E)) u v := by
      refine ⟨fun a b => ?_, fun z h => ?_, fun z h => ?_, fun e => n (e ▸ hu)⟩
      · unfold adj
        simp only [List.mem_cons, Prod.mk.injEq]
        rcases minmax u v x y hm with ⟨h1, h2, _⟩ | ⟨h1, h2, _⟩
        · subst h1 h2
          constructor
          · rintro ((h | h) | (h | h))
            · exact .inr (.inl h)
            · exact .inl (.inl h)
            · exact .inr (.inr ⟨h.2, h.1⟩)
            · exact .inl (.inr h)
          · rintro ((h | h) | h | h)
            · exact .inl (.inr h)
            · exact .inr (.inr h)
            · exact .inl (.inl h)
            · exact .inr (.inl ⟨h.2, h.1⟩)
        · subst h1 h2
          constructor
          · rintro ((h | h) | (h | h))
            · exact .inr (.inr h)
            · exact .inl (.inl h)
            · exact .inr (.inl ⟨h.2, h.1⟩)
            · exact .inl (.inr h)
          · rintro ((h | h) | h | h)
            · exact .inl (.inr h)
            · exact .inr (.inr h)
            · exact .inr (.inl ⟨h.2, h.1⟩)
            · exact .inl (.inl h)
      · rcases h with h | h
        · exact n (g.ends _ _ h).1
        · exact n (g.ends _ _ h).2.1
      · rcases h with h | h
        · exact n (g.ends _ _ h).2.1
        · exact n (g.ends _ _ h).1
    exact L.uniq ih
/-- a door stands ahead of another -/
def Dlt (a b : Int × Int) : Prop := a.1 < b.1 ∨ (a.1 = b.1 ∧ a.2 < b.2)
/-- a forest of n rooms, as an ascending list of doors -/
def Forest (n : Int) (D : List (Int × Int)) : Prop := ∃ U E, Grown U E ∧ (∀ x, x ∈ U ↔ 0 ≤ x ∧ x < n) ∧ D.Perm E ∧ U.length ≤ 8 ∧ D.Pairwise Dlt
theorem adj_perm {D E : List (Int × Int)} (h : D.Perm E) : adj D = adj E := by
  funext a b
  unfold adj
  rw [h.mem_iff, h.mem_iff]
theorem Forest.uniq {n : Int} {D : List (Int × Int)} (f : Forest n D) : Uniq (adj D) := by
  obtain ⟨U, E, g, _, p, _⟩ := f
  rw [adj_perm p]
  exact g.uniq
theorem Forest.nodup {n : Int} {D : List (Int × Int)} (f : Forest n D) : D.Nodup := by
  obtain ⟨U, E, g, _, p, _⟩ := f
  exact p.nodup_iff.mpr g.nodup
theorem Forest.up {n : Int} {D : List (Int × Int)} (f : Forest n D) : D.Pairwise Dlt := by
  obtain ⟨U, E, _, _, _, _, u⟩ := f
  exact u
theorem Forest.len {n : Int} {D : List (Int × Int)} (f : Forest n D) : D.length ≤ 8 := by
  obtain ⟨U, E, g, _, p, l, _⟩ := f
  rw [p.length_eq]
  exact Nat.le_trans g.length l
theorem Forest.ends {n : Int} {D : List (Int × Int)} (f : Forest n D) {a b : Int} (h : (a, b) ∈ D) : 0 ≤ a ∧ a < b ∧ b < n := by
  obtain ⟨U, E, g, u, p, _⟩ := f
  have e := g.ends a b (p.mem_iff.mp h)
  exact ⟨((u a).mp e.1).1, e.2.2, ((u b).mp e.2.1).2⟩
theorem Forest.adj {n : Int} {D : List (Int × Int)} (f : Forest n D) {a b : Int} (h : adj D a b) : 0 ≤ a ∧ a < n ∧ 0 ≤ b ∧ b < n := by
  rcases h with h | h
  · have e := f.ends h; omega
  · have e := f.ends h; omega
/-- the adjacent rooms, ascending -/
def nb (n : Int) (D : List (Int × Int)) (r : Int) : List Int := ((List.range n.toNat).map fun (i : Nat) => (i : Int)).filter fun o => decide ((r, o) ∈ D) || decide ((o, r) ∈ D)
theorem mem_nb {n : Int} {D : List (Int × Int)} {r o : Int} : o ∈ nb n D r ↔ (0 ≤ o ∧ o < n) ∧ adj D r o := by
  unfold nb adj
  rw [List.mem_filter, List.mem_map]
  simp only [List.mem_range, Bool.or_eq_true, decide_eq_true_eq]
  constructor
  · rintro ⟨⟨i, hi, rfl⟩, h⟩
    exact ⟨⟨by omega, by omega⟩, h⟩
  · rintro ⟨⟨h0, h1⟩, h⟩
    exact ⟨⟨o.toNat, by omega, by omega⟩, h⟩
theorem Forest.mem_nb {n : Int} {D : List (Int × Int)} (f : Forest n D) {r o : Int} : o ∈ nb n D r ↔ Fw.adj D r o := by
  rw [Fw.mem_nb]
  exact ⟨fun h => h.2, fun h => ⟨⟨(f.adj h).2.2.1, (f.adj h).2.2.2⟩, h⟩⟩
theorem range_up (n : Nat) : ((List.range n).map fun (i : Nat) => (i : Int)).Pairwise (· < ·) := by
  rw [List.pairwise_map]
  exact List.pairwise_lt_range.imp fun h => by omega
theorem nb_up (n : Int) (D : List (Int × Int)) (r : Int) : (nb n D r).Pairwise (· < ·) := (range_up _).filter _
theorem nb_len (n : Int) (D : List (Int × Int)) (r : Int) : (nb n D r).length ≤ n.toNat := by
  unfold nb
  refine Nat.le_trans (List.length_filter_le _ _) ?_
  simp
/-- two ascending lists with the same members are one -/
theorem up_ext : ∀ {xs ys : List Int}, xs.Pairwise (· < ·) → ys.Pairwise (· < ·) → (∀ x, x ∈ xs ↔ x ∈ ys) → xs = ys
  | [], [], _, _, _ => rfl
  | [], y :: ys, _, _, h => absurd ((h y).mpr (List.mem_cons_self ..)) (by simp)
  | x :: xs, [], _, _, h => absurd ((h x).mp (List.mem_cons_self ..)) (by simp)
  | x :: xs, y :: ys, hx, hy, h => by
    obtain ⟨hx1, hx2⟩ := List.pairwise_cons.mp hx
    obtain ⟨hy1, hy2⟩ := List.pairwise_cons.mp hy
    have e : x = y := by
      have h1 := (h x).mp (List.mem_cons_self ..)
      have h2 := (h y).mpr (List.mem_cons_self ..)
      rw [List.mem_cons] at h1 h2
      rcases h1 with h1 | h1
      · exact h1
      · rcases h2 with h2 | h2
        · exact h2.symm
        · have := hy1 _ h1
          have := hx1 _ h2
          omega
    subst e
    rw [up_ext hx2 hy2 fun z => ?_]
    have hz := h z
    rw [List.mem_cons, List.mem_cons] at hz
    constructor
    · intro m
      rcases hz.mp (.inr m) with e | e
      · subst e; have := hx1 _ m; omega
      · exact e
    · intro m
      rcases hz.mpr (.inr m) with e | e
      · subst e; have := hy1 _ m; omega
      · exact e
theorem up_of {xs : List Int} (h : xs.Pairwise (· ≤ ·)) (n : xs.Nodup) : xs.Pairwise (· < ·) := by
  refine (h.and n).imp ?_
  intro a b ⟨h1, h2⟩
  omega
/-- the doors from r and to r, as the law lists them -/
def outs (D : List (Int × Int)) (r : Int) : List Int := (D.filter fun d => decide (d.1 = r)).map (·.2)
def ins (D : List (Int × Int)) (r : Int) : List Int := (D.filter fun d => decide (d.2 = r)).map (·.1)
theorem mem_outs {D : List (Int × Int)} {r o : Int} : o ∈ outs D r ↔ (r, o) ∈ D := by
  unfold outs
  simp only [List.mem_map, List.mem_filter, decide_eq_true_eq]
  constructor
  · rintro ⟨⟨a, b⟩, ⟨h, rfl⟩, rfl⟩; exact h
  · intro h; exact ⟨(r, o), ⟨h, rfl⟩, rfl⟩
theorem mem_ins {D : List (Int × Int)} {r o : Int} : o ∈ ins D r ↔ (o, r) ∈ D := by
  unfold ins
  simp only [List.mem_map, List.mem_filter, decide_eq_true_eq]
  constructor
  · rintro ⟨⟨a, b⟩, ⟨h, rfl⟩, rfl⟩; exact h
  · intro h; exact ⟨(o, r), ⟨h, rfl⟩, rfl⟩
theorem nodup_map_on {α β : Type} {f : α → β} : ∀ {xs : List α}, xs.Nodup → (∀ x y, x ∈ xs → y ∈ xs → f x = f y → x = y) → (xs.map f).Nodup
  | [], _, _ => List.nodup_nil
  | x :: xs, n, h => by
    obtain ⟨n1, n2⟩ := List.nodup_cons.mp n
    rw [List.map_cons]
    refine List.nodup_cons.mpr ⟨fun m => ?_, nodup_map_on n2 fun a b ha hb => h a b (List.mem_cons_of_mem _ ha) (List.mem_cons_of_mem _ hb)⟩
    obtain ⟨y, hy, e⟩ := List.mem_map.mp m
    have := h y x (List.mem_cons_of_mem _ hy) (List.mem_cons_self ..) e
    subst this
    exact n1 hy
theorem Forest.both_nodup {n : Int} {D : List (Int × Int)} (f : Forest n D) (r : Int) : (outs D r ++ ins D r).Nodup := by
  rw [List.nodup_append]
  refine ⟨?_, ?_, ?_⟩
  · refine nodup_map_on (f.nodup.filter _) ?_
    rintro ⟨a, b⟩ ⟨c, d⟩ h1 h2 e
    have e1 := of_decide_eq_true (List.mem_filter.mp h1).2
    have e2 := of_decide_eq_true (List.mem_filter.mp h2).2
    simp only at e e1 e2
    rw [e, e1, e2]
  · refine nodup_map_on (f.nodup.filter _) ?_
    rintro ⟨a, b⟩ ⟨c, d⟩ h1 h2 e
    have e1 := of_decide_eq_true (List.mem_filter.mp h1).2
    have e2 := of_decide_eq_true (List.mem_filter.mp h2).2
    simp only at e e1 e2
    rw [e, e1, e2]
  · intro a ha b hb e
    subst e
    have h1 := f.ends (mem_outs.mp ha)
    have h2 := f.ends (mem_ins.mp hb)
    omega
theorem Forest.sorted_nb {n : Int} {D : List (Int × Int)} (f : Forest n D) {r : Int} {ys : List Int} (p : ys.Perm (outs D r ++ ins D r)) (s : ys.Pairwise (· ≤ ·)) : ys = nb n D r := by
  refine up_ext (up_of s (p.nodup_iff.mpr (f.both_nodup r))) (nb_up n D r) fun x => ?_
  rw [p.mem_iff, List.mem_append, mem_outs, mem_ins, f.mem_nb]
  exact Iff.rfl
/-- the doors to r and from r, one list behind the other, as the program lists them -/
theorem Forest.nb_eq {n : Int} {D : List (Int × Int)} (f : Forest n D) (r : Int) : ins D r ++ outs D r = nb n D r := by
  refine up_ext ?_ (nb_up n D r) fun x => ?_
  · rw [List.pairwise_append]
    refine ⟨?_, ?_, fun a ha b hb => ?_⟩
    · unfold ins
      rw [List.pairwise_map]
      refine (f.up.filter _).imp_of_mem fun {x y} hx hy h => ?_
      have e1 : x.2 = r := of_decide_eq_true (List.mem_filter.mp hx).2
      have e2 : y.2 = r := of_decide_eq_true (List.mem_filter.mp hy).2
      unfold Dlt at h
      omega
    · unfold outs
      rw [List.pairwise_map]
      refine (f.up.filter _).imp_of_mem fun {x y} hx hy h => ?_
      have e1 : x.1 = r := of_decide_eq_true (List.mem_filter.mp hx).2
      have e2 : y.1 = r := of_decide_eq_true (List.mem_filter.mp hy).2
      unfold Dlt at h
      omega
    · have h1 := f.ends (mem_ins.mp ha)
      have h2 := f.ends (mem_outs.mp hb)
      omega
  · rw [List.mem_append, mem_outs, mem_ins, f.mem_nb]
    exact or_comm
/-- how many rooms below n are not in S: it falls when one more is -/
def left (n : Nat) (S : Int → Bool) : Nat := (List.range n).countP fun (i : Nat) => !S (i : Int)
theorem countP_lt {α : Type} {p q : α → Bool} : ∀ {l : List α} {x : α}, (∀ y ∈ l, q y = true → p y = true) → x ∈ l → p x = true → q x = false → l.countP q < l.countP p
  | [], _, _, m, _, _ => by cases m
  | y :: l, x, h, m, hp, hq => by
    have hm : l.countP q ≤ l.countP p := List.countP_mono_left fun z hz => h z (List.mem_cons_of_mem _ hz)
    rw [List.countP_cons, List.countP_cons]
    rw [List.mem_cons] at m
    by_cases e : x = y
    · subst e
      rw [if_neg (by rw [hq]; exact Bool.false_ne_true), if_pos hp]
      omega
    · have ih := countP_lt (fun z hz => h z (List.mem_cons_of_mem _ hz)) (m.resolve_left e) hp hq
      have hy := h y (List.mem_cons_self ..)
      by_cases c : q y = true
      · rw [if_pos c, if_pos (hy c)]; omega
      · rw [if_neg c]; omega
theorem left_lt {n : Nat} {S S' : Int → Bool} {o : Int} (h : ∀ x, S x = true → S' x = true) (h0 : 0 ≤ o) (h1 : o < n) (hs : S o = false) (hs' : S' o = true) : left n S' < left n S := by
  refine countP_lt (x := o.toNat) (fun y _ hy => ?_) (List.mem_range.mpr (by omega)) ?_ ?_
  · cases e : S (y : Int) with
    | false => rfl
    | true => rw [h _ e] at hy; cases hy
  · rw [show ((o.toNat : Nat) : Int) = o by omega, hs]; rfl
  · rw [show ((o.toNat : Nat) : Int) = o by omega, hs']; rfl
theorem left_le (n : Nat) (S : Int → Bool) : left n S ≤ n := by
  refine Nat.le_trans List.countP_le_length ?_
  simp
end Fw
namespace Fw
open PySem PySem.Spec PyProof.Rows L2
def top (i : Nat) : Stmt := PySem.Challenge.pw_fromwithin_k66_people_in_sessions.main.body.getD i (.Pass ⟨0, 0, 0, 0⟩)
abbrev sIsInt : Stmt := top 6
abbrev sIsName : Stmt := top 7
abbrev sIsPair : Stmt := top 8
abbrev sIsAsc : Stmt := top 9
abbrev iUnknownPerson : Stmt := inClass (top 12) 0
abbrev iInvalidRoom : Stmt := inClass (top 13) 0
abbrev iNotAdjacent : Stmt := inClass (top 14) 0
abbrev iEmptyRoom : Stmt := inClass (top 15) 0
abbrev iBlocked : Stmt := inClass (top 16) 0
abbrev iInvalidName : Stmt := inClass (top 17) 0
abbrev iDuplicateName : Stmt := inClass (top 18) 0
abbrev iLimitReached : Stmt := inClass (top 19) 0
abbrev iAlreadyAdjacent : Stmt := inClass (top 20) 0
abbrev iWouldFormCycle : Stmt := inClass (top 21) 0
abbrev iNothingToUndo : Stmt := inClass (top 22) 0
abbrev iHistoryFull : Stmt := inClass (top 23) 0
abbrev iSessionBusy : Stmt := inClass (top 24) 0
abbrev iInvalidActions : Stmt := inClass (top 25) 0
abbrev iBatchFailed : Stmt := inClass (top 26) 0
abbrev iInvalidMoment : Stmt := inClass (top 27) 0
abbrev sIsHouse : Stmt := top 31
abbrev sIsRoom : Stmt := top 32
abbrev sIsDoor : Stmt := top 33
abbrev sHasCyc : Stmt := top 34
abbrev sNb : Stmt := top 35
abbrev sPath : Stmt := top 36
abbrev sSteps : Stmt := top 38
abbrev sIsPl : Stmt := top 40
abbrev sIsPR : Stmt := top 41
abbrev sNamesOf : Stmt := top 42
abbrev sRoomOf : Stmt := top 43
abbrev sWith : Stmt := top 44
abbrev sPIn : Stmt := top 45
abbrev sPWi : Stmt := top 46
abbrev sMove : Stmt := top 52
abbrev sAfterMove : Stmt := top 54
abbrev sAfterEnter : Stmt := top 55
abbrev sRefuseNoRoom : Stmt := top 56
abbrev sWithMore : Stmt := top 57
abbrev sAfterLeave : Stmt := top 58
abbrev sWithout : Stmt := top 59
abbrev sAfterSetTarget : Stmt := top 60
abbrev sStateAfter : Stmt := top 66
abbrev iSession : Stmt := inClass (top 88) 1
abbrev iSession_move : Stmt := inClass (top 88) 2
abbrev iSession_enter : Stmt := inClass (top 88) 3
abbrev iSession_leave : Stmt := inClass (top 88) 4
abbrev iSession_set_target : Stmt := inClass (top 88) 5
abbrev iSession_act : Stmt := inClass (top 88) 9
abbrev iSession_refuse_if_busy : Stmt := inClass (top 88) 10
abbrev iSession_apply_action : Stmt := inClass (top 88) 11
abbrev iSession_house : Stmt := inClass (top 88) 17
abbrev iSession_placement : Stmt := inClass (top 88) 18
abbrev iSession_targets : Stmt := inClass (top 88) 19
abbrev iSession_state_at : Stmt := inClass (top 88) 20
abbrev iSession_actions : Stmt := inClass (top 88) 21
abbrev iSession___len__ : Stmt := inClass (top 88) 25
abbrev iSession___str__ : Stmt := inClass (top 88) 27
abbrev sHouseSize : Stmt := top 89
abbrev sStream : Stmt := top 91
abbrev sNames : Stmt := top 92
abbrev sDraw : Stmt := top 93
abbrev sHouse : Stmt := top 94
abbrev sPl : Stmt := top 95
abbrev sLNb : Stmt := top 96
abbrev sLMoved : Stmt := top 98
abbrev sLInt : Stmt := top 99
abbrev sLIsName : Stmt := top 100
abbrev sLApply : Stmt := top 101
abbrev sLErrorName : Stmt := top 102
abbrev sLErrorField : Stmt := top 103
abbrev sLFullResult : Stmt := top 104
abbrev sLWithout : Stmt := top 105
abbrev sLPeopleOutcome : Stmt := top 106
abbrev sLExpectedOutcome : Stmt := top 108
abbrev sLSnapshot : Stmt := top 109
abbrev sLExpectedSnapshot : Stmt := top 110
abbrev sLRandomAction : Stmt := top 111
abbrev sLInitial : Stmt := top 112
abbrev sLRepeatedTurnHolds : Stmt := top 113
abbrev sLaw : Stmt := top 114
end Fw
namespace Fw
open PySem PySem.Spec PyProof.Rows L2
abbrev vi (ns : List Int) : List V := ns.map V.int
theorem same_upd {H : Hp} {p : Addr} {o : HO} (h : H p = none) : Same H (upd H p o) := fun b x e => by
  rw [upd_ne (ne_of_none e h)]
  exact e
/-- the stream of draws: s the list of three, A the great cells, B all cells; c bounds the count -/
structure StreamAt (H : Hp) (s A B : Addr) (c : Nat) : Prop where
  ex : ∃ (big cells : List Int) (cnt : Int), H s = some (.lst [.ref A, .ref B, .int cnt]) ∧ H A = some (.lst (vi big)) ∧ H B = some (.lst (vi cells)) ∧
    (∀ x ∈ big, 0 ≤ x) ∧ (∀ x ∈ cells, 0 ≤ x) ∧ 0 < cells.length ∧ cells.length ≤ 100 ∧ big.length ≤ 100 ∧ 0 ≤ cnt ∧ cnt ≤ c
  nAB : A ≠ B
  nsA : s ≠ A
  nsB : s ≠ B
/-- all but the stream's own lists stands as before -/
def Fr (s A : Addr) (H H' : Hp) : Prop := ∀ b o, b ≠ s → b ≠ A → H b = some o → H' b = some o
theorem Fr.trans {s A : Addr} {H H1 H2 : Hp} (a : Fr s A H H1) (b : Fr s A H1 H2) : Fr s A H H2 := fun c o h1 h2 e => b c o h1 h2 (a c o h1 h2 e)
theorem Fr.of {s A : Addr} {H H1 : Hp} (a : Same H H1) : Fr s A H H1 := fun c o _ _ e => a c o e
theorem same_put {H H1 : Hp} {p : Addr} {o : HO} (s : Same H H1) (h : H p = none) : Same H (upd H1 p o) := fun b x e => by
  rw [upd_ne (ne_of_none e h)]
  exact s _ _ e
theorem get_vi {ns : List Int} {i : Nat} {x : V} (h : (vi ns)[i]? = some x) : ∃ v, ns[i]? = some v ∧ x = .int v := by
  rw [List.getElem?_map] at h
  cases e : ns[i]? with
  | none => rw [e] at h; cases h
  | some v => rw [e] at h; exact ⟨v, rfl, (Option.some.inj h).symm⟩
theorem vi_app (a b : List Int) : vi (a ++ b) = vi a ++ vi b := List.map_append
def absI (i : Int) : Int := if i < 0 then -i else i
theorem absI_pos (i : Int) : 0 ≤ absI i := by unfold absI; split <;> omega
/-- the builtins' names are not taken -/
structure Nm (mg : Str → Option Value) : Prop where
  abs : mg "abs" = none
  len : mg "len" = none
  list : mg "list" = none
  range : mg "range" = none
  min : mg "min" = none
  max : mg "max" = none
  tuple : mg "tuple" = none
  sorted : mg "sorted" = none
  isinstance : mg "isinstance" = none
  all : mg "all" = none
  zip : mg "zip" = none
  bool : mg "bool" = none
  int : mg "int" = none
  str : mg "str" = none
  repr : mg "repr" = none
/-! ### data -/
theorem dp_ints {K : PySem.W.Frag} {H : Hp} : ∀ ns : List Int, DpAll K H (vi ns) (ns.map PyData.int)
  | [] => .nil
  | n :: ns => .cons (.int n) (dp_ints ns)
theorem lay_ints : ∀ ns : List Int, PyData.canLayAll0 (ns.map PyData.int) = true
  | [] => by simp [PyData.canLayAll0]
  | n :: ns => by
    rw [List.map_cons, PyData.canLayAll0, lay_ints ns, PyData.canLay0]
    rfl
theorem deep_ints : ∀ ns : List Int, PyData.depthAll (ns.map PyData.int) = 0
  | [] => by simp [PyData.depthAll]
  | n :: ns => by
    rw [List.map_cons, PyData.depthAll, deep_ints ns, PyData.depth]
    rfl
theorem shaped_list (ns : List Int) : SeqAt.shaped (.list (ns.map PyData.int)) = true := by
  unfold SeqAt.shaped
  rw [PyData.canLay0, lay_ints, PyData.depth, deep_ints]
  decide
theorem eqv_nil (ns : List Int) : PyData.eqv (.list (ns.map PyData.int)) (.list []) = ns.isEmpty := by
  rw [PyData.eqv]
  cases ns with
  | nil => rw [List.map_nil, PyData.eqvAll]; rfl
  | cons n ns => rw [List.map_cons, PyData.eqvAll]; rfl
theorem ix0 (n : Nat) : ixN (n + 1) 0 = some 0 := by
  unfold ixN
  rw [if_pos (by omega), if_pos (by omega)]
  rfl
theorem atI0 {α : Type} {x : α} {xs : List α} : atI (x :: xs) 0 = some x := atI_nat (j := 0) rfl
theorem atI1 {α : Type} {x y : α} {xs : List α} : atI (x :: y :: xs) 1 = some y := atI_nat (j := 1) rfl
theorem atI2 {α : Type} {x y z : α} {xs : List α} : atI (x :: y :: z :: xs) 2 = some z := atI_nat (j := 2) rfl
section
variable {P : Program} {w : World} {K : PySem.W.Frag} {mg : Str → Option Value} {base : Heap}
def spStream (K : PySem.W.Frag) : Sp := fun vs H Q _ => ∃ (a : Addr) (ns : List Int), vs = [.ref a] ∧ SqL K H a (ns.map V.int) ∧ ns.length ≤ 63 ∧
  ∀ H' s A B, Same H H' → H s = none → H A = none → StreamAt H' s A B 0 → Q (.ref s) H'
theorem scStream : FnScope ["_law_script", "_law_cells", "_law_cell"] ["_law_script"] (defScope sStream) := ⟨rfl, rfl, rfl, by decide +kernel, rfl, by decide +kernel, by decide +kernel⟩
theorem ok_stream {f : Addr} {fd : FuncData} {k : Nat} (F : Fun K "_law_stream" "_law_stream" sStream f fd) (T : Nm mg) : FnOk P w K mg base CX0 (k + 1) f fd ["_law_script"] (spStream K) := by
  refine F.ok scStream (fun vs H Q E h => ?_) (fun cdv A outer s H vs Q E hr h => ?_)
  · obtain ⟨a, ns, rfl, _⟩ := h
    rfl
  · obtain ⟨a, ns, rfl, hS, hlen, q⟩ := h
    refine ⟨_, pss_cons (ps_setLc (i := 1) (own := [("_law_cell", 2)]) (g := gName 2) (by rfl) scStream.nd rfl rfl (sw_true rfl rfl rfl (by decide +kernel)) (pi_list (pv 0))
        (blkOk_by (own := [("_law_cell", 2)]) (N := ["_law_script", "_law_cells", "_law_cell"]) (sc := defScope sStream) (by decide +kernel))
        (fun _ _ _ _ _ => pg_name (i := 2) scStream.nd rfl (Or.inl rfl)) (fun _ _ _ _ _ => pts_nil)
        (fun _ _ _ _ _ => pe_callB call_abs (by rfl) T.abs (by decide +kernel) (pa_cons (pv 2) pa_nil)))
      (pss_one (ps_ret (pe_lst (pa_cons
        (pe_lc (own := [("_law_cell", 2)]) (g := gName 2) (by rfl) scStream.nd (pi_list (pv 1))
          (blkOk_by (own := [("_law_cell", 2)]) (N := ["_law_script", "_law_cells", "_law_cell"]) (sc := defScope sStream) (by decide +kernel))
          (fun _ _ _ _ _ => pg_name (i := 2) scStream.nd rfl (Or.inl rfl)) (fun _ _ _ _ _ => pts_one (pt_cmpR op_ge (pv 2) (pe_op op_pow pe_int pe_int) (nomark _)))
          (fun _ _ _ _ _ => pv 2))
        (pa_cons (pe_op op_cat (pv 1) (pe_lst (pa_cons (pe_op op_add (pe_callB call_len_seq (by rfl) T.len PySem.boot_len (pa_cons (pv 1) pa_nil)) pe_int) pa_nil)))
        (pa_cons pe_int pa_nil)))))), ?_⟩
    refine ⟨.ref a, rfl, a, rfl, ⟨_, hS⟩, fun D hD => lc_list (K := K) (a := a) (xs := vi ns) (fun i H1 => Same H H1 ∧ H1 D = some (.lst (vi ((ns.map absI).take i))))
      ⟨same_upd hD, upd_same⟩ (fun i H1 _ h => h.1.seq hS) ?_ ?_⟩
    · rintro i x H1 hx ⟨s1, e1⟩
      obtain ⟨v, ev, rfl⟩ := get_vi hx
      refine ⟨rfl, ?_⟩
      unfold tYes
      refine iteT ?_
      refine ⟨_, rfl, v, rfl, _, e1, ?_, ?_, ?_⟩
      · rw [List.length_map, List.length_take, List.length_map]
        exact small1000 (by omega)
      · exact same_put s1 hD
      · rw [upd_same, List.take_add_one, List.getElem?_map, ev, vi_app]
        rfl
    · rintro H1 ⟨s1, e1⟩
      rw [List.length_map, ← List.length_map (f := absI), List.take_length] at e1
      refine ⟨_, rfl, D, rfl, ⟨_, SqL.of e1⟩, fun G hG => lc_list (K := K) (a := D) (xs := vi (ns.map absI)) (fun i H2 => Same H1 H2 ∧ H2 G = some (.lst (vi (((ns.map absI).take i).filter fun x => decide (10 ^ 18 ≤ x)))))
        ⟨same_upd hG, upd_same⟩ (fun i H2 _ h => h.1.seq (SqL.of e1)) ?_ ?_⟩
      · rintro i x H2 hx ⟨s2, e2⟩
        obtain ⟨v, ev, rfl⟩ := get_vi hx
        refine ⟨rfl, _, rfl, _, _, rfl, rfl, ⟨by decide, by decide, by decide⟩, _, _, rfl, rfl, _, rfl, ?_⟩
        have et : ((ns.map absI).take (i + 1)).filter (fun x => decide (10 ^ 18 ≤ x)) = ((ns.map absI).take i).filter (fun x => decide (10 ^ 18 ≤ x)) ++ (if 10 ^ 18 ≤ v then [v] else []) := by
          rw [List.take_add_one, ev, List.filter_append]
          congr 1
          by_cases c : (10 : Int) ^ 18 ≤ v
          · rw [if_pos c]
            show List.filter _ [v] = [v]
            rw [List.filter_cons_of_pos (by simpa using c)]
            rfl
          · rw [if_neg c]
            show List.filter _ [v] = []
            rw [List.filter_cons_of_neg (by simpa using c)]
            rfl
        refine ite2 (fun c => ?_) (fun c => ?_)
        · have c : (10 : Int) ^ 18 ≤ v := of_decide_eq_true c
          refine ⟨_, rfl, _, e2, ?_, same_put s2 hG, ?_⟩
          · rw [List.length_map]
            refine small1000 (Nat.le_trans (List.length_filter_le _ _) ?_)
            rw [List.length_take, List.length_map]
            omega
          · rw [upd_same, et, if_pos c, vi_app]
            rfl
        · have c : ¬ (10 : Int) ^ 18 ≤ v := fun e => c (decide_eq_true e)
          refine ⟨s2, ?_⟩
          rw [et, if_neg c, List.append_nil]
          exact e2
      · rintro H2 ⟨s2, e2⟩
        rw [List.length_map, List.take_length] at e2
        have e1' := s2 _ _ e1
        refine ⟨_, rfl, _, rfl, D, _, rfl, .inl (SqL.of e1'), _, _, rfl, rfl, by show 1 ≤ sizeLine; decide, fun O hO => ?_⟩
        have e1'' := same_upd (o := .lst [.int (((vi (ns.map absI)).length : Nat) + 3)]) hO _ _ e1'
        refine ⟨D, O, _, _, rfl, rfl, e1'', upd_same, ?_, fun B hB => ?_⟩
        · simp only [List.length_map, List.length_append, List.length_cons, List.length_nil]
          exact Nat.le_of_lt (small1000 (by omega))
        refine ⟨by show 3 ≤ sizeLine; decide, fun S hS' => ?_⟩
        have nGS : S ≠ G := fun e => by
          rw [e] at hS'
          exact absurd hS' (by rw [same_upd hB _ _ (same_upd hO _ _ e2)]; exact nofun)
        have nBS : S ≠ B := fun e => by
          rw [e, upd_same] at hS'
          cases hS'
        have nGB : G ≠ B := fun e => by
          rw [← e] at hB
          exact absurd hB (by rw [same_upd hO _ _ e2]; exact nofun)
        have sA : Same H (upd (upd H2 O (.lst [.int (((vi (ns.map absI)).length : Nat) + 3)])) B (.lst (vi (ns.map absI) ++ [.int (((vi (ns.map absI)).length : Nat) + 3)]))) := (s1.trans s2).trans ((same_upd hO).trans (same_upd hB))
        refine q _ S G B (sA.trans (same_upd hS')) (sA.free hS') (s1.free hG) ⟨⟨(ns.map absI).filter (fun x => decide (10 ^ 18 ≤ x)), ns.map absI ++ [((ns.length : Nat) : Int) + 3], 0, upd_same, ?_, ?_, ?_, ?_, ?_, ?_, ?_, Int.le_refl _, Int.le_refl _⟩, nGB, nGS, nBS⟩
        · rw [upd_ne nGS.symm, upd_ne nGB, same_upd hO _ _ e2]
        · rw [upd_ne nBS.symm, upd_same, vi_app]
          show some (HO.lst (vi (ns.map absI) ++ [V.int (((vi (ns.map absI)).length : Nat) + 3)])) = _
          rw [List.length_map, List.length_map]
          rfl
        · intro x hx
          obtain ⟨y, _, rfl⟩ := List.mem_map.mp (List.mem_filter.mp hx).1
          exact absI_pos y
        · intro x hx
          rcases List.mem_append.mp hx with hx | hx
          · obtain ⟨y, _, rfl⟩ := List.mem_map.mp hx
            exact absI_pos y
          · rw [List.mem_singleton.mp hx]
            omega
        · simp
        · simp only [List.length_map, List.length_append, List.length_cons, List.length_nil]
          omega
        · refine Nat.le_trans (List.length_filter_le _ _) ?_
          rw [List.length_map]
          omega
theorem lg60 {m : Int} (h0 : 0 < m) (h1 : m < 2 ^ 60) : m.natAbs.log2 < 9000 := by
  have : m.natAbs ≠ 0 := by omega
  have h2 : m.natAbs < 2 ^ 60 := by omega
  have := (Nat.log2_lt this).mpr h2
  omega
def spDraw : Sp := fun vs H Q _ => ∃ (s A B : Addr) (c : Nat) (m : Int), vs = [.ref s, .int m] ∧ StreamAt H s A B c ∧ c < 2 ^ 40 ∧ 0 < m ∧ m < 2 ^ 60 ∧
  ∀ H' r, StreamAt H' s A B (c + 1) → Fr s A H H' → 0 ≤ r → r < m → Q (.int r) H'
theorem scDraw : FnScope ["_law_stream_here", "_law_many", "_law_rest", "_law_turn", "_law_cell", "_law_mixed"] ["_law_stream_here", "_law_many"] (defScope sDraw) := ⟨rfl, rfl, rfl, by decide +kernel, rfl, by decide +kernel, by decide +kernel⟩
theorem ok_draw {f : Addr} {fd : FuncData} {k : Nat} (F : Fun K "_law_draw" "_law_draw" sDraw f fd) (T : Nm mg) : FnOk P w K mg base CX0 (k + 1) f fd ["_law_stream_here", "_law_many"] spDraw := by
  refine F.ok scDraw (fun vs H Q E h => ?_) (fun cdv A outer s H vs Q E hr h => ?_)
  · obtain ⟨s, A, B, c, m, rfl, _⟩ := h
    rfl
  · obtain ⟨s, A, B, c, m, rfl, hS, hc, hm0, hm1, q⟩ := h
    refine ⟨_, pss_cons (ps_while PassesOwn.never (pt_cmpR (op_neD hr.units) (pe_ix ix_list (pv 0) pe_int (fun _ _ => rfl)) (pe_lst pa_nil) (nomark _))
        (pss_cons (ps_set (i := 2) scDraw.nd rfl (.inl rfl) (pe_ix ix_list (pe_ix ix_list (pv 0) pe_int (fun _ _ => rfl)) pe_int (fun _ _ => rfl)))
        (pss_cons (ps_if (pt_cmpR op_gt (pv 2) pe_int (nomark _))
          (pss_cons (ps_asg (pe_op op_fdivW (pv 2) (pv 1)) (pg_sub (pe_ix ix_list (pv 0) pe_int (fun _ _ => rfl)) pe_int set_list))
          (pss_one (ps_ret (pe_op op_modN (pv 2) (pv 1))))) pss_nil)
        (pss_one (ps_expr (pe_bm PySem.F.plainAttrs_list PySem.F.slot_list_pop PySem.F.type_list_pop mt_popAt (pe_ix ix_list (pv 0) pe_int (fun _ _ => rfl)) (pa_cons pe_int pa_nil)))))))
      (pss_cons (ps_set (i := 3) scDraw.nd rfl (.inl rfl) (pe_op op_add (pe_ix ix_list (pv 0) pe_int (fun _ _ => rfl)) pe_int))
      (pss_cons (ps_asg (pv 3) (pg_sub (pv 0) pe_int set_list))
      (pss_cons (ps_set (i := 4) scDraw.nd rfl (.inl rfl) (pe_op op_modN (pe_ix ix_list (pe_ix ix_list (pv 0) pe_int (fun _ _ => rfl)) (pe_op op_modN (pv 3) (pe_callB call_len_seq (by rfl) T.len PySem.boot_len (pa_cons (pe_ix ix_list (pv 0) pe_int (fun _ _ => rfl)) pa_nil))) (fun _ _ => rfl)) pe_int))
      (pss_cons (ps_set (i := 5) scDraw.nd rfl (.inl rfl) (pe_op op_add (pe_op op_add (pe_op op_mul (pv 4) (pe_op op_add pe_int (pe_op op_mul pe_int (pv 3)))) (pe_op op_mul (pe_op op_mul pe_int (pv 3)) (pv 3))) pe_int))
      (pss_cons (ps_set (i := 5) scDraw.nd rfl (.inl rfl) (pe_op op_modN (pv 5) pe_int))
      (pss_one (ps_ret (pe_op op_modN (pe_op op_fdivN (pe_op op_modN (pe_op op_mul (pv 5) (pv 5)) pe_int) pe_int) (pv 1))))))))), ?_⟩
    have fm : ∀ x y : Int, 0 < y → 0 ≤ x.fmod y ∧ x.fmod y < y := fun x y hy => by
      rw [Int.fmod_eq_emod_of_nonneg x (Int.le_of_lt hy)]
      exact ⟨Int.emod_nonneg x (by omega), Int.emod_lt_of_pos x hy⟩
    refine ⟨fun n σ H' => ∃ y2, σ = [some (.ref s), some (.int m), y2, none, none, none] ∧ StreamAt H' s A B c ∧ Fr s A H H' ∧ ∃ big : List Int, H' A = some (.lst (vi big)) ∧ n = big.length, ?_, ?_⟩
    · obtain ⟨big, cells, cnt, _, h2, _⟩ := hS.ex
      exact ⟨_, none, rfl, hS, fun _ _ _ _ e => e, big, h2, rfl⟩
    rintro n σ H1 ⟨y2, rfl, hS1, fr1, big', hb', rfl⟩
    obtain ⟨big, cells, cnt, h1, h2, h3, p1, p2, l0, l1, l2, c0, c1⟩ := hS1.ex
    have eb : vi big' = vi big := by
      rw [h2] at hb'
      injection hb' with hb'
      injection hb' with hb'
      exact hb'.symm
    have el : big'.length = big.length := by
      have := congrArg List.length eb
      simpa using this
    rw [el]
    refine ⟨_, rfl, s, _, _, _, rfl, rfl, SqL.of h1, atI0, Nat.zero_le _, fun e he => ?_⟩
    have n1 : s ≠ e := ne_of_none h1 he
    have n2 : A ≠ e := ne_of_none h2 he
    have n3 : B ≠ e := ne_of_none h3 he
    have h1' : (upd H1 e (.lst [])) s = _ := (upd_ne n1).trans h1
    have h2' : (upd H1 e (.lst [])) A = _ := (upd_ne n2).trans h2
    have h3' : (upd H1 e (.lst [])) B = _ := (upd_ne n3).trans h3
    have sm : Same H1 (upd H1 e (.lst [])) := same_upd he
    refine ⟨.list (big.map .int), .list [], .lst (SqL.of h2') (dp_ints big), .lst (SqL.of upd_same) .nil, shaped_list big, shaped_list [], _, rfl, ?_⟩
    rw [eqv_nil]
    cases big with
    | nil =>
      refine iteF ?_
      -- turn = s[2] + 1; s[2] = turn
      refine ⟨_, rfl, s, _, _, _, rfl, rfl, SqL.of h1', atI2, _, _, rfl, rfl, ?_⟩
      refine ⟨_, rfl, _, rfl, s, _, _, 2, rfl, rfl, h1', rfl, ?_⟩
      have h3s : (upd (upd H1 e (.lst [])) s (.lst ([V.ref A, V.ref B, V.int cnt].set 2 (V.int (cnt + 1))))) B = _ := (upd_ne hS1.nsB.symm).trans h3'
      have h2s : (upd (upd H1 e (.lst [])) s (.lst ([V.ref A, V.ref B, V.int cnt].set 2 (V.int (cnt + 1))))) A = _ := (upd_ne hS1.nsA.symm).trans h2'
      have hS2 : StreamAt (upd (upd H1 e (.lst [])) s (.lst ([V.ref A, V.ref B, V.int cnt].set 2 (V.int (cnt + 1))))) s A B (c + 1) :=
        ⟨⟨[], cells, cnt + 1, upd_same, h2s, h3s, p1, p2, l0, l1, l2, by omega, by omega⟩, hS1.nAB, hS1.nsA, hS1.nsB⟩
      have fr2 : Fr s A H (upd (upd H1 e (.lst [])) s (.lst ([V.ref A, V.ref B, V.int cnt].set 2 (V.int (cnt + 1))))) := fun b o z1 z2 z3 => by
        rw [upd_ne z1]
        exact sm _ _ (fr1 b o z1 z2 z3)
      have h1s : (upd (upd H1 e (.lst [])) s (.lst ([V.ref A, V.ref B, V.int cnt].set 2 (V.int (cnt + 1))))) s = some (.lst [V.ref A, V.ref B, V.int (cnt + 1)]) := upd_same
      have hl : (0 : Int) < (cells.length : Nat) := by omega
      obtain ⟨g0, g1⟩ := fm (cnt + 1) ((cells.length : Nat) : Int) hl
      have hj : ((cnt + 1).fmod ((cells.length : Nat) : Int)).toNat < cells.length := by omega
      have hat : atI (vi cells) ((cnt + 1).fmod (((vi cells).length : Nat) : Int)) = some (V.int cells[((cnt + 1).fmod ((cells.length : Nat) : Int)).toNat]) := by
        rw [List.length_map]
        have := atI_nat (xs := vi cells) (j := ((cnt + 1).fmod ((cells.length : Nat) : Int)).toNat) (v := V.int cells[((cnt + 1).fmod ((cells.length : Nat) : Int)).toNat]) (by rw [List.getElem?_map, List.getElem?_eq_getElem hj]; rfl)
        rw [show ((((cnt + 1).fmod ((cells.length : Nat) : Int)).toNat : Nat) : Int) = (cnt + 1).fmod ((cells.length : Nat) : Int) by omega] at this
        exact this
      refine ⟨_, rfl, s, _, _, _, rfl, rfl, SqL.of h1s, atI1, _, rfl, _, rfl, s, _, _, _, rfl, rfl, SqL.of h1s, atI1, B, _, rfl, .inl (SqL.of h3s), _, _, rfl, rfl, by rw [List.length_map]; omega, B, _, _, _, rfl, rfl, SqL.of h3s, hat, _, _, rfl, rfl, (by show (2147483647 : Int) ≠ 0; decide), ?_⟩
      generalize cells[((cnt + 1).fmod ((cells.length : Nat) : Int)).toNat] = x
      obtain ⟨x0, x1⟩ := fm x 2147483647 (by decide)
      refine ⟨_, rfl, _, rfl, _, _, rfl, rfl, .inl ⟨by decide, by decide⟩, _, _, rfl, rfl, _, _, rfl, rfl, .inl ⟨by omega, by omega⟩, ?_⟩
      refine ⟨_, rfl, _, _, rfl, rfl, .inl ⟨by decide, by decide⟩, _, rfl, _, _, rfl, rfl, .inr ⟨by omega, by omega⟩, _, _, rfl, rfl, _, _, rfl, rfl, ?_⟩
      refine ⟨_, rfl, _, _, rfl, rfl, (by show (2147483629 : Int) ≠ 0; decide), ?_⟩
      refine ⟨_, rfl, _, rfl, _, _, rfl, rfl, .inl ?_, _, _, rfl, rfl, (by show (2147483587 : Int) ≠ 0; decide), _, _, rfl, rfl, ⟨by decide, by decide⟩, _, rfl, _, _, rfl, rfl, by omega, ?_⟩
      · generalize (x.fmod 2147483647 * _ + _ + _ : Int) = y
        obtain ⟨y0, y1⟩ := fm y 2147483629 (by decide)
        exact ⟨by omega, by omega⟩
      · exact q _ _ hS2 fr2 (fm _ m hm0).1 (fm _ m hm0).2
    | cons x r =>
      refine iteT ⟨_, fun _ _ h => h, ?_⟩
      refine ⟨_, rfl, s, _, _, _, rfl, rfl, SqL.of h1', atI0, A, _, _, _, rfl, rfl, SqL.of h2', atI0, ?_⟩
      refine ⟨_, rfl, _, _, rfl, rfl, _, rfl, ?_⟩
      have hx : 0 ≤ x := p1 x (List.mem_cons_self ..)
      have hr' : ∀ y ∈ r, 0 ≤ y := fun y hy => p1 y (List.mem_cons_of_mem _ hy)
      refine ite2 (fun cx => ?_) (fun cx => ?_)
      · refine ⟨_, rfl, _, rfl, _, _, rfl, rfl, ⟨hm0, lg60 hm0 hm1⟩, ?_⟩
        refine ⟨_, rfl, s, _, _, _, rfl, rfl, SqL.of h1', atI0, A, _, _, 0, rfl, rfl, h2', ix0 _, ?_⟩
        refine ⟨_, rfl, _, rfl, _, _, rfl, rfl, by omega, ?_⟩
        refine q _ _ ⟨⟨x / m :: r, cells, cnt, (upd_ne hS1.nsA).trans h1', upd_same, (upd_ne hS1.nAB.symm).trans h3', ?_, p2, l0, l1, l2, c0, by omega⟩, hS1.nAB, hS1.nsA, hS1.nsB⟩ ?_ (fm x m hm0).1 (fm x m hm0).2
        · intro y hy
          rcases List.mem_cons.mp hy with rfl | hy
          · exact Int.ediv_nonneg hx (Int.le_of_lt hm0)
          · exact hr' y hy
        · intro b o z1 z2 z3
          rw [upd_ne z2]
          exact sm _ _ (fr1 b o z1 z2 z3)
      · refine ⟨_, rfl, s, _, _, _, rfl, rfl, SqL.of h1', atI0, .inl ⟨rfl, _, SqL.of h2'⟩, A, _, _, 0, _, rfl, rfl, h2', by decide, by decide, (ixN_seq (ix0 _)).1, rfl, ?_⟩
        refine ⟨r.length, by simp, _, rfl, ⟨⟨r, cells, cnt, (upd_ne hS1.nsA).trans h1', upd_same, (upd_ne hS1.nAB.symm).trans h3', hr', p2, l0, l1, by simp at l2; omega, c0, c1⟩, hS1.nAB, hS1.nsA, hS1.nsB⟩, ?_, r, upd_same, rfl⟩
        intro b o z1 z2 z3
        rw [upd_ne z2]
        exact sm _ _ (fr1 b o z1 z2 z3)
end
end Fw
namespace Fw
open PySem PySem.Spec PyProof.Rows L2
structure Def (K : PySem.W.Frag) (mg : Str → Option Value) (x : Str) (st : Stmt) (f : Addr) (fd : FuncData) (ps : List Str) : Prop where
  F : Fun K x x st f fd
  b : Binds K fd ps []
  g : mg x = some (.ref f)
section
variable {s A B : Addr} {H H1 H2 : Hp} {c : Nat}
theorem StreamAt.ne (hS : StreamAt H s A B c) {L : Addr} (h : H L = none) : s ≠ L ∧ A ≠ L ∧ B ≠ L := by
  obtain ⟨big, cells, cnt, h1, h2, h3, _⟩ := hS.ex
  exact ⟨ne_of_none h1 h, ne_of_none h2 h, ne_of_none h3 h⟩
theorem StreamAt.put (hS : StreamAt H s A B c) {L : Addr} {o : HO} (n : s ≠ L ∧ A ≠ L ∧ B ≠ L) : StreamAt (upd H L o) s A B c := by
  obtain ⟨big, cells, cnt, h1, h2, h3, r⟩ := hS.ex
  exact ⟨⟨big, cells, cnt, (upd_ne n.1).trans h1, (upd_ne n.2.1).trans h2, (upd_ne n.2.2).trans h3, r⟩, hS.nAB, hS.nsA, hS.nsB⟩
theorem StreamAt.mono (hS : StreamAt H s A B c) {c' : Nat} (h : c ≤ c') : StreamAt H s A B c' := by
  obtain ⟨big, cells, cnt, h1, h2, h3, p1, p2, l0, l1, l2, c0, c1⟩ := hS.ex
  exact ⟨⟨big, cells, cnt, h1, h2, h3, p1, p2, l0, l1, l2, c0, by omega⟩, hS.nAB, hS.nsA, hS.nsB⟩
theorem StreamAt.same (hS : StreamAt H s A B c) (e : Same H H1) : StreamAt H1 s A B c := by
  obtain ⟨big, cells, cnt, h1, h2, h3, r⟩ := hS.ex
  exact ⟨⟨big, cells, cnt, e _ _ h1, e _ _ h2, e _ _ h3, r⟩, hS.nAB, hS.nsA, hS.nsB⟩
theorem StreamAt.tup (hS : StreamAt H s A B c) {t : Addr} {xs : List V} (h : H t = some (.tup xs)) : t ≠ s ∧ t ≠ A ∧ t ≠ B := by
  obtain ⟨big, cells, cnt, h1, h2, h3, _⟩ := hS.ex
  exact ⟨ne_of h h1 (by intro q; cases q), ne_of h h2 (by intro q; cases q), ne_of h h3 (by intro q; cases q)⟩
theorem Fr.refl : Fr s A H H := fun _ _ _ _ e => e
theorem Fr.free (f : Fr s A H H1) (hS : StreamAt H1 s A B c) {L : Addr} (h : H1 L = none) : H L = none := by
  obtain ⟨n1, n2, _⟩ := hS.ne h
  cases e : H L with
  | none => rfl
  | some o =>
    rw [f L o n1.symm n2.symm e] at h
    cases h
theorem Fr.put (f : Fr s A H H1) {L : Addr} {o : HO} (h : H L = none) : Fr s A H (upd H1 L o) := fun b u z1 z2 e => by
  rw [upd_ne (ne_of_none e h)]
  exact f b u z1 z2 e
theorem Fr.tup (f : Fr s A H H1) (hS : StreamAt H s A B c) {t : Addr} {xs : List V} (h : H t = some (.tup xs)) : H1 t = some (.tup xs) :=
  f t _ (hS.tup h).1 (hS.tup h).2.1 h
end
/-- a house, as it stands in memory -/
def HouseAt (H : Hp) (h : Addr) (n : Int) (D : List (Int × Int)) : Prop := ∃ (q : Addr) (ps : List (Addr × Int × Int)),
  H h = some (.tup [.int n, .ref q]) ∧ H q = some (.tup (ps.map fun p => V.ref p.1)) ∧ D = ps.map (·.2) ∧ ∀ p ∈ ps, H p.1 = some (.tup [.int p.2.1, .int p.2.2])
theorem HouseAt.same {H H' : Hp} {h : Addr} {n : Int} {D : List (Int × Int)} (x : HouseAt H h n D) (e : Same H H') : HouseAt H' h n D := by
  obtain ⟨q, ps, h1, h2, h3, h4⟩ := x
  exact ⟨q, ps, e _ _ h1, e _ _ h2, h3, fun p hp => e _ _ (h4 p hp)⟩
theorem HouseAt.fr {s A B : Addr} {c : Nat} {H H' : Hp} {h : Addr} {n : Int} {D : List (Int × Int)} (x : HouseAt H h n D) (hS : StreamAt H s A B c) (e : Fr s A H H') : HouseAt H' h n D := by
  obtain ⟨q, ps, h1, h2, h3, h4⟩ := x
  exact ⟨q, ps, e.tup hS h1, e.tup hS h2, h3, fun p hp => e.tup hS (h4 p hp)⟩
theorem perm_map_inv {α β : Type} {f : α → β} : ∀ {ys zs : List β}, ys.Perm zs → ∀ {ps : List α}, zs = ps.map f → ∃ ps' : List α, ps'.Perm ps ∧ ys = ps'.map f := by
  intro ys zs h
  induction h with
  | nil =>
    intro ps e
    cases ps with
    | nil => exact ⟨[], .nil, rfl⟩
    | cons p r => cases e
  | cons x _ ih =>
    intro ps e
    cases ps with
    | nil => cases e
    | cons p r =>
      rw [List.map_cons] at e
      injection e with e1 e2
      obtain ⟨ps', hp, he⟩ := ih e2
      exact ⟨p :: ps', hp.cons p, by rw [he, List.map_cons, e1]⟩
  | swap x y l =>
    intro ps e
    match ps, e with
    | p :: q :: r, e =>
      rw [List.map_cons, List.map_cons] at e
      injection e with e1 e2
      injection e2 with e2 e3
      exact ⟨q :: p :: r, List.Perm.swap p q r, by rw [List.map_cons, List.map_cons, e1, e2, e3]⟩
  | trans _ _ ih1 ih2 =>
    intro ps e
    obtain ⟨p2, h2, e2⟩ := ih2 e
    obtain ⟨p1, h1, e1⟩ := ih1 e2
    exact ⟨p1, h1.trans h2, e1⟩
theorem rg_vi (n : Int) : rgV 0 n = vi ((List.range n.toNat).map fun (i : Nat) => (i : Int)) := by
  unfold rgV vi
  rw [List.map_map, Int.sub_zero]
  refine List.map_congr_left fun i _ => ?_
  show V.int (0 + (i : Int)) = V.int (i : Int)
  rw [Int.zero_add]
def rg (n : Int) : List Int := (List.range n.toNat).map fun (i : Nat) => (i : Int)
theorem mem_rg {n x : Int} : x ∈ rg n ↔ 0 ≤ x ∧ x < n := by
  unfold rg
  rw [List.mem_map]
  constructor
  · rintro ⟨i, hi, rfl⟩
    rw [List.mem_range] at hi
    omega
  · rintro ⟨h0, h1⟩
    exact ⟨x.toNat, List.mem_range.mpr (by omega), by omega⟩
theorem rg_len (n : Int) : (rg n).length = n.toNat := by simp [rg]
theorem rg_nodup (n : Int) : (rg n).Nodup := (range_up n.toNat).imp fun h => by omega
theorem vi_erase (ns : List Int) (i : Nat) : (vi ns).eraseIdx i = vi (ns.eraseIdx i) := by
  induction ns generalizing i with
  | nil => rfl
  | cons n ns ih =>
    cases i with
    | zero => rfl
    | succ i =>
      show V.int n :: (vi ns).eraseIdx i = V.int n :: vi (ns.eraseIdx i)
      rw [ih]
theorem erase_perm : ∀ {ns : List Int} {i : Nat} (h : i < ns.length), (ns[i] :: ns.eraseIdx i).Perm ns
  | n :: ns, 0, _ => List.Perm.refl _
  | n :: ns, i + 1, h => by
    have h' : i < ns.length := by simpa using h
    show (ns[i] :: n :: ns.eraseIdx i).Perm (n :: ns)
    exact (List.Perm.swap _ _ _).trans ((erase_perm (by simpa using h)).cons n)
theorem lacks {r : Int} (h0 : 0 ≤ r) (h1 : r < 3) : ∃ lk : Int, atI [V.int 0, V.int 0, V.int 6] r = some (.int lk) ∧ (lk = 0 ∨ lk = 6) := by
  have : r = 0 ∨ r = 1 ∨ r = 2 := by omega
  rcases this with rfl | rfl | rfl
  · exact ⟨0, atI0, .inl rfl⟩
  · exact ⟨0, atI1, .inl rfl⟩
  · exact ⟨6, atI2, .inr rfl⟩
theorem pick3 {r r1 : Int} {i : Nat} (h0 : 0 ≤ r) (h1 : r < 3) (a0 : 0 ≤ r1) (a1 : r1 < 1 + (i : Int)) : ∃ ix : Int, atI [V.int (1 + (i : Int) - 1), V.int 0, V.int r1] r = some (.int ix) ∧ 0 ≤ ix ∧ ix ≤ i := by
  have : r = 0 ∨ r = 1 ∨ r = 2 := by omega
  rcases this with rfl | rfl | rfl
  · exact ⟨_, atI0, by omega, by omega⟩
  · exact ⟨_, atI1, by omega, by omega⟩
  · exact ⟨_, atI2, by omega, by omega⟩
/-- the two ints of a pair in memory -/
def twoOf (H : Hp) (x : V) : Int × Int := match x with
  | .ref t => match H t with
    | some (.tup [.int i, .int j]) => (i, j)
    | _ => (0, 0)
  | _ => (0, 0)
theorem twoOf_eq {H : Hp} {t : Addr} {d : Int × Int} (h : H t = some (.tup [.int d.1, .int d.2])) : twoOf H (.ref t) = d := by
  unfold twoOf
  simp only [h]
theorem Dlt_of {x y : Int × Int} (h : ¬ (y.1 < x.1 ∨ (y.1 = x.1 ∧ y.2 < x.2))) (n : x ≠ y) : Dlt x y := by
  unfold Dlt
  have : ¬ (x.1 = y.1 ∧ x.2 = y.2) := fun e => n (Prod.ext e.1 e.2)
  omega
/-- what stands while the doors are made -/
structure Mid (H : Hp) (s A B O R : Addr) (ord : List Int) (c : Nat) (ps : List (Addr × Int × Int)) (H' : Hp) : Prop where
  st : StreamAt H' s A B c
  frm : Fr s A H H'
  eO : H' O = some (.lst (vi ord))
  eR : H' R = some (.lst (ps.map fun p => V.ref p.1))
  eP : ∀ p ∈ ps, H' p.1 = some (.tup [.int p.2.1, .int p.2.2])
theorem Mid.fr {H H1 H2 : Hp} {s A B O R : Addr} {ord : List Int} {c c' : Nat} {ps : List (Addr × Int × Int)} (m : Mid H s A B O R ord c ps H1) (hS : StreamAt H2 s A B c') (f : Fr s A H1 H2) (zO : s ≠ O ∧ A ≠ O ∧ B ≠ O) (zR : s ≠ R ∧ A ≠ R ∧ B ≠ R) : Mid H s A B O R ord c' ps H2 :=
  ⟨hS, m.frm.trans f, f _ _ zO.1.symm zO.2.1.symm m.eO, f _ _ zR.1.symm zR.2.1.symm m.eR, fun p hp => f.tup m.st (m.eP p hp)⟩
theorem Mid.new {H H1 : Hp} {s A B O R : Addr} {ord : List Int} {c : Nat} {ps : List (Addr × Int × Int)} (m : Mid H s A B O R ord c ps H1) {N : Addr} {o : HO} (h : H1 N = none) : Mid H s A B O R ord c ps (upd H1 N o) :=
  ⟨m.st.same (same_upd h), m.frm.put (m.frm.free m.st h), same_upd h _ _ m.eO, same_upd h _ _ m.eR, fun p hp => same_upd h _ _ (m.eP p hp)⟩
theorem if_by {t : TT} {tb te : TS} {D : Ends} {σ : L2.St} {H : Hp} (Good : Bool → Hp → Prop) (hb : ∀ H', Good true H' → tb D σ H') (he : ∀ H', Good false H' → te D σ H')
    (h : ∀ Q : Bool → Hp → Prop, (∀ b H', Good b H' → Q b H') → t σ H Q) : tIfS t tb te D σ H := h _ fun b H' g => by
  cases b with
  | true => exact iteT (hb _ g)
  | false => exact iteF (he _ g)
section
variable {P : Program} {w : World} {K : PySem.W.Frag} {mg : Str → Option Value} {base : Heap}
def spHouse : Sp := fun vs H Q _ => ∃ (s A B : Addr) (c : Nat) (least most : Int), vs = [.ref s, .int least, .int most] ∧ StreamAt H s A B c ∧ c < 2 ^ 30 ∧ 1 ≤ least ∧ least ≤ most ∧ most ≤ 8 ∧
  ∀ H' h n D, StreamAt H' s A B (c + 40) → Fr s A H H' → HouseAt H' h n D → Forest n D → least ≤ n → n ≤ most → Q (.ref h) H'
abbrev nHouse : List Str := ["_law_stream_here", "_law_least", "_law_most", "_law_rooms", "_law_left", "_law_order", "_law_doors", "_law_lacks", "_law_k", "_law_on"]
theorem scHouse : FnScope nHouse ["_law_stream_here", "_law_least", "_law_most"] (defScope sHouse) := ⟨rfl, rfl, rfl, by decide +kernel, rfl, by decide +kernel, by decide +kernel⟩
theorem ok_house {f fD : Addr} {fd fdD : FuncData} (F : Fun K "_law_house" "_law_house" sHouse f fd) (T : Nm mg) (D : Def K mg "_law_draw" sDraw fD fdD ["_law_stream_here", "_law_many"]) : FnOk P w K mg base CX0 2 f fd ["_law_stream_here", "_law_least", "_law_most"] spHouse := by
  have GD : FnOk P w K mg base CX0 1 fD fdD ["_law_stream_here", "_law_many"] spDraw := ok_draw D.F T
  refine F.ok scHouse (fun vs H Q E h => ?_) (fun cdv A outer s H vs Q E hr h => ?_)
  · obtain ⟨s, A, B, c, least, most, rfl, _⟩ := h
    rfl
  · obtain ⟨s, A, B, c, least, most, rfl, hS, hc, hl1, hl2, hl3, q⟩ := h
    refine ⟨_, pss_cons (ps_set (i := 3) scHouse.nd rfl (.inl rfl) (pe_op op_add (pv 1) (pe_call GD hr (by rfl) D.g D.F.kp D.b .nil pass0 (pa_cons (pv 0) (pa_cons (pe_op op_add (pe_op op_sub (pv 2) (pv 1)) pe_int) pa_nil)))))
      (pss_cons (ps_par3 (i := 4) (j := 5) (l := 6) (by rfl) scHouse.nd rfl rfl rfl (by decide) (by decide) (by decide) rfl rfl rfl (pa_cons (pe_listRg (by rfl) (by rfl) T.list (prg_1 (by rfl) T.range (pv 3))) (pa_cons (pe_lst pa_nil) (pa_cons (pe_lst pa_nil) pa_nil))) (by rfl))
      (pss_cons (ps_while PassesOwn.never (pt_cmpR (op_neD hr.units) (pv 4) (pe_lst pa_nil) (nomark _))
        (pss_one (ps_expr (pe_bm PySem.F.plainAttrs_list PySem.F.slot_list_append PySem.F.type_list_append mt_append (pv 5) (pa_cons
          (pe_bm PySem.F.plainAttrs_list PySem.F.slot_list_pop PySem.F.type_list_pop mt_popAt (pv 4) (pa_cons
            (pe_call GD hr (by rfl) D.g D.F.kp D.b .nil pass0 (pa_cons (pv 0) (pa_cons (pe_callB call_len_seq (by rfl) T.len PySem.boot_len (pa_cons (pv 4) pa_nil)) pa_nil))) pa_nil)) pa_nil)))))
      (pss_cons (ps_set (i := 7) scHouse.nd rfl (.inl rfl) (pe_ix ix_list (pe_lst (pa_cons pe_int (pa_cons pe_int (pa_cons pe_int pa_nil)))) (pe_call GD hr (by rfl) D.g D.F.kp D.b .nil pass0 (pa_cons (pv 0) (pa_cons pe_int pa_nil))) (fun _ _ => rfl)))
      (pss_cons (ps_for PassesOwn.never rfl (pi_range2 (by rfl) T.range (pa_cons pe_int (pa_cons (pv 3) pa_nil))) (pg_name (i := 8) scHouse.nd rfl (Or.inl rfl))
        (pss_cons (ps_set (i := 9) scHouse.nd rfl (.inl rfl) (pe_ix ix_list (pv 5) (pe_ix ix_list (pe_lst (pa_cons (pe_op op_sub (pv 8) pe_int) (pa_cons pe_int (pa_cons (pe_call GD hr (by rfl) D.g D.F.kp D.b .nil pass0 (pa_cons (pv 0) (pa_cons (pv 8) pa_nil))) pa_nil))))
            (pe_call GD hr (by rfl) D.g D.F.kp D.b .nil pass0 (pa_cons (pv 0) (pa_cons pe_int pa_nil))) (fun _ _ => rfl)) (fun _ _ => rfl)))
        (pss_one (ps_if (PW.pt (pw_or (pt_cmpR op_eq (pv 7) pe_int (nomark _)) (pw_or1 (pt_cmpR op_gt (pe_call GD hr (by rfl) D.g D.F.kp D.b .nil pass0 (pa_cons (pv 0) (pa_cons (pv 7) pa_nil))) pe_int (nomark _)))))
          (pss_one (ps_expr (pe_bm PySem.F.plainAttrs_list PySem.F.slot_list_append PySem.F.type_list_append mt_append (pv 6) (pa_cons (pe_tup
            (pa_cons (pe_callB (call_min2 rfl) (by rfl) T.min (by decide +kernel) (pa_cons (pv 9) (pa_cons (pe_ix ix_list (pv 5) (pv 8) (fun _ _ => rfl)) pa_nil)))
            (pa_cons (pe_callB (call_max2 rfl) (by rfl) T.max (by decide +kernel) (pa_cons (pv 9) (pa_cons (pe_ix ix_list (pv 5) (pv 8) (fun _ _ => rfl)) pa_nil))) pa_nil))) pa_nil))))
          pss_nil))))
      (pss_one (ps_ret (pe_tup (pa_cons (pv 3) (pa_cons (pe_callTy call_tuple_of (by rfl) T.tuple (by decide +kernel) (pa_cons (pe_callB cr_sortedPO (by rfl) T.sorted (by decide +kernel) (pa_cons (pv 6) pa_nil)) pa_nil)) pa_nil))))))))), ?_⟩
    refine ⟨_, rfl, _, rfl, _, rfl, _, rfl, _, _, rfl, rfl, _, _, rfl, rfl, s, A, B, c, _, rfl, hS, by omega, by omega, by omega, fun H1 r hS1 fr1 r0 r1 => ⟨_, _, rfl, rfl, ?_⟩⟩
    show gName 3 (V.int (least + r)) _ _ _
    generalize hn : least + r = n
    have n0 : 1 ≤ n := by omega
    have n1 : n ≤ 8 := by omega
    have n2 : least ≤ n := by omega
    have n3 : n ≤ most := by omega
    clear hn r0 r1
    refine ⟨_, rfl, _, rfl, RgOk.of_le (by omega) (by omega) (by omega) (by omega), fun L hL => ⟨Nat.zero_le _, fun O hO => ⟨Nat.zero_le _, fun R hR => ⟨_, _, _, rfl, ?_⟩⟩⟩⟩
    rw [rg_vi] at hR hO ⊢
    rw [show ((List.range n.toNat).map fun (i : Nat) => (i : Int)) = rg n from rfl] at hR hO ⊢
    have nLO : O ≠ L := fun e => by rw [e, upd_same] at hO; cases hO
    have hO1 : H1 O = none := by rw [upd_ne nLO] at hO; exact hO
    have nOR : R ≠ O := fun e => by rw [e, upd_same] at hR; cases hR
    have nLR : R ≠ L := fun e => by rw [e, upd_ne nLO.symm, upd_same] at hR; cases hR
    have hR1 : H1 R = none := by rw [upd_ne nOR, upd_ne nLR] at hR; exact hR
    have zL := hS1.ne hL
    have zO := hS1.ne hO1
    have zR := hS1.ne hR1
    have gL := fr1.free hS1 hL
    have gO := fr1.free hS1 hO1
    have gR := fr1.free hS1 hR1
    have hS2 : StreamAt (upd (upd (upd H1 L (.lst (vi (rg n)))) O (.lst [])) R (.lst [])) s A B (c + 1) := ((hS1.put zL).put zO).put zR
    have fr2 : Fr s A H (upd (upd (upd H1 L (.lst (vi (rg n)))) O (.lst [])) R (.lst [])) := ((fr1.put gL).put gO).put gR
    -- while left != []: order.append(left.pop(draw(s, len(left))))
    refine ⟨fun m σ H' => ∃ (lft ord : List Int) (c' : Nat), σ = [some (.ref s), some (.int least), some (.int most), some (.int n), some (.ref L), some (.ref O), some (.ref R), none, none, none] ∧ StreamAt H' s A B c' ∧ c' + lft.length ≤ c + 1 + n.toNat ∧
        Fr s A H H' ∧ H' L = some (.lst (vi lft)) ∧ H' O = some (.lst (vi ord)) ∧ H' R = some (.lst []) ∧ (ord ++ lft).Perm (rg n) ∧ m = lft.length,
      ⟨_, rg n, [], c + 1, rfl, hS2, by rw [rg_len]; omega, fr2, ?_, ?_, upd_same, List.Perm.refl _, rfl⟩, ?_⟩
    · rw [upd_ne nLR.symm, upd_ne nLO.symm, upd_same]
    · rw [upd_ne nOR.symm, upd_same]
      rfl
    clear hS2 fr2 hR hO
    rintro m σ H2 ⟨lft, ord, c2, rfl, hS2, hc2, fr2, eL, eO, eR, pm, rfl⟩
    have plen : ord.length + lft.length = n.toNat := by
      have := pm.length_eq
      rw [List.length_append, rg_len] at this
      exact this
    refine ⟨_, rfl, Nat.zero_le _, fun e he => ?_⟩
    have sm : Same H2 (upd H2 e (.lst [])) := same_upd he
    have hS3 := hS2.same sm
    have fr3 := fr2.put (o := .lst []) (fr2.free hS2 he)
    have eL3 := sm _ _ eL
    have eO3 := sm _ _ eO
    have eR3 := sm _ _ eR
    refine ⟨.list (lft.map .int), .list [], .lst (SqL.of eL3) (dp_ints lft), .lst (SqL.of upd_same) .nil, shaped_list lft, shaped_list [], _, rfl, ?_⟩
    clear eL eO eR hS2 fr2
    generalize upd H2 e (.lst []) = H3 at *
    clear sm he
    rw [eqv_nil]
    cases lft with
    | cons x0 lft0 =>
      generalize hlf : x0 :: lft0 = lft at *
      have lpos : 0 < lft.length := by rw [← hlf]; simp
      have lem : lft.isEmpty = false := by rw [← hlf]; rfl
      rw [lem]
      clear lem hlf
      refine iteT ⟨_, fun _ _ h => h, ?_⟩
      refine ⟨_, rfl, .inl ⟨rfl, _, SqL.of eO3⟩, _, rfl, .inl ⟨rfl, _, SqL.of eL3⟩, _, rfl, _, rfl, L, _, rfl, .inl (SqL.of eL3), s, A, B, c2, _, rfl, hS3, by omega, ?_, ?_, fun H4 r hS4 fr4 r0 r1 => ?_⟩
      · rw [List.length_map]; omega
      · rw [List.length_map]; omega
      rw [List.length_map] at r1
      have eL4 := fr4 _ _ zL.1.symm zL.2.1.symm eL3
      have eO4 := fr4 _ _ zO.1.symm zO.2.1.symm eO3
      have eR4 := fr4 _ _ zR.1.symm zR.2.1.symm eR3
      have hj : r.toNat < lft.length := by omega
      have ixr : ixN (vi lft).length r = some r.toNat := by
        unfold ixN
        rw [List.length_map, if_pos r0, if_pos r1]
      have gx : (vi lft)[r.toNat]? = some (V.int lft[r.toNat]) := by
        rw [List.getElem?_map, List.getElem?_eq_getElem hj]
        rfl
      refine ⟨L, _, r, r.toNat, _, rfl, rfl, eL4, by omega, by omega, (ixN_seq ixr).1, gx, ?_⟩
      have eO5 : (upd H4 L (.lst ((vi lft).eraseIdx r.toNat))) O = some (.lst (vi ord)) := (upd_ne nLO).trans eO4
      refine ⟨O, _, _, rfl, rfl, eO5, ?_, ?_⟩
      · rw [List.length_map]
        exact small1000 (by omega)
      have el : (lft.eraseIdx r.toNat).length = lft.length - 1 := by
        rw [List.length_eraseIdx, if_pos hj]
      refine ⟨(lft.eraseIdx r.toNat).length, by omega, lft.eraseIdx r.toNat, ord ++ [lft[r.toNat]], c2 + 1, rfl, ((hS4.put zL).put zO), by omega, ((fr3.trans fr4).put gL).put gO, ?_, ?_, ?_, ?_, rfl⟩
      · rw [upd_ne nLO.symm, upd_same, vi_erase]
      · rw [upd_same, vi_app]
        rfl
      · rw [upd_ne nOR, upd_ne nLR]
        exact eR4
      · refine List.Perm.trans ?_ pm
        rw [List.append_assoc]
        refine List.Perm.append_left ord ?_
        exact erase_perm hj
    | nil =>
      refine iteF ?_
      rw [List.append_nil] at pm
      clear eL3 zL gL hL nLO nLR hS1 fr1 hO1 hR1
      simp only [List.length_nil, Nat.add_zero] at hc2 plen
      have zO3 := zO
      -- lacks = [0, 0, 6][draw(s, 3)]
      refine ⟨by show 3 ≤ sizeLine; decide, fun M hM => ?_⟩
      have sm : Same H3 (upd H3 M (.lst [.int 0, .int 0, .int 6])) := same_upd hM
      refine ⟨_, rfl, s, A, B, c2, 3, rfl, hS3.same sm, by omega, by decide, by decide, fun H4 r hS4 fr4 r0 r1 => ?_⟩
      have zM := hS3.ne hM
      have eM4 := fr4 M _ zM.1.symm zM.2.1.symm upd_same
      have eO4 := fr4 _ _ zO.1.symm zO.2.1.symm (sm _ _ eO3)
      have eR4 := fr4 _ _ zR.1.symm zR.2.1.symm (sm _ _ eR3)
      have fr4' : Fr s A H H4 := (fr3.put (fr3.free hS3 hM)).trans fr4
      obtain ⟨lk, elk, hlk⟩ := lacks r0 r1
      refine ⟨M, _, _, _, rfl, rfl, SqL.of eM4, elk, ?_⟩
      clear eM4 fr4 sm hM zM elk eO3 eR3 fr3 hS3
      -- for k in range(1, rooms)
      refine ⟨_, rfl, 1, n, rfl, ⟨by decide, by decide, by omega, by omega⟩, for_range (lo := 1) (n := (n - 1).toNat) (fun i σ H' => ∃ (cc : Nat) (y8 y9 : Option V) (ps : List (Addr × Int × Int)),
        σ = [some (.ref s), some (.int least), some (.int most), some (.int n), some (.ref L), some (.ref O), some (.ref R), some (.int lk), y8, y9] ∧ cc ≤ c2 + 1 + 3 * i ∧ Mid H s A B O R ord cc ps H' ∧
        ps.length ≤ i ∧ ∃ U E, Grown U E ∧ (∀ x, x ∈ U ↔ x ∈ ord.take (i + 1)) ∧ (ps.map (·.2)).Perm E ∧ U.length = i + 1) ⟨c2 + 1, none, none, [], rfl, by omega, ⟨hS4, fr4', eO4, eR4, fun p hp => nomatch hp⟩, Nat.le_refl _, ?_⟩ ?_ ?_⟩
      · have h0 : 0 < ord.length := by omega
        refine ⟨[ord[0]], [], .room _ .nil (by simp), fun x => ?_, .nil, rfl⟩
        rw [List.take_add_one, List.getElem?_eq_getElem h0]
        simp
      · rintro i σ H5 hi ⟨cc, y8, y9, ps, rfl, hcc, M5, hps, U, E, g, hU, pE, lU⟩
        have hi1 : i + 1 < ord.length := by omega
        refine ⟨_, rfl, _, rfl, _, _, rfl, rfl, _, rfl, _, rfl, s, A, B, cc, _, rfl, M5.st, by omega, by omega, by omega, fun H6 r1 hS6 fr6 r10 r11 => ?_⟩
        have M6 := M5.fr hS6 fr6 zO zR
        refine ⟨by show 3 ≤ sizeLine; decide, fun N hN => ?_⟩
        have M7 := M6.new (o := .lst [.int (1 + (i : Int) - 1), .int 0, .int r1]) hN
        refine ⟨_, rfl, s, A, B, cc + 1, 3, rfl, M7.st, by omega, by decide, by decide, fun H8 r2 hS8 fr8 r20 r21 => ?_⟩
        have M8 := M7.fr hS8 fr8 zO zR
        have zN := M6.st.ne hN
        have eN8 := fr8 N _ zN.1.symm zN.2.1.symm upd_same
        obtain ⟨ix, eix, hix0, hix1⟩ := pick3 (i := i) r20 r21 r10 r11
        have hixl : ix.toNat < ord.length := by omega
        have eon : atI (vi ord) ix = some (V.int ord[ix.toNat]) := by
          have := atI_nat (xs := vi ord) (j := ix.toNat) (v := V.int ord[ix.toNat]) (by rw [List.getElem?_map, List.getElem?_eq_getElem hixl]; rfl)
          rw [show ((ix.toNat : Nat) : Int) = ix by omega] at this
          exact this
        have ekk : atI (vi ord) (1 + (i : Int)) = some (V.int ord[i + 1]) := by
          have := atI_nat (xs := vi ord) (j := i + 1) (v := V.int ord[i + 1]) (by rw [List.getElem?_map, List.getElem?_eq_getElem hi1]; rfl)
          rw [show ((i + 1 : Nat) : Int) = 1 + (i : Int) by omega] at this
          exact this
        refine ⟨N, _, _, _, rfl, rfl, SqL.of eN8, eix, O, _, _, _, rfl, rfl, SqL.of M8.eO, eon, ?_⟩
        clear eN8 fr8 zN hN M7 M6 fr6 eix
        have nd : ord.Nodup := pm.nodup_iff.mpr (rg_nodup n)
        have nv : ord[i + 1] ∉ U := fun m => by
          obtain ⟨j, hj, e⟩ := List.mem_take_iff_getElem.mp ((hU _).mp m)
          exact (List.pairwise_iff_getElem.mp nd) j (i + 1) (by omega) hi1 (by omega) e
        have mu : ord[ix.toNat] ∈ U := (hU _).mpr (List.mem_take_iff_getElem.mpr ⟨ix.toNat, by omega, rfl⟩)
        have hU' : ∀ x, x ∈ (ord[i + 1] :: U) ↔ x ∈ ord.take (i + 1 + 1) := fun x => by
          rw [List.take_add_one (i := i + 1), List.getElem?_eq_getElem hi1, List.mem_append, List.mem_cons, hU]
          simp [or_comm]
        dsimp only [gName]
        refine if_by (fun _ H' => ∃ c9, c9 ≤ cc + 3 ∧ Mid H s A B O R ord c9 ps H') ?_ ?_ ?_
        · rintro H9 ⟨c9, hc9, M9⟩
          refine ⟨_, rfl, .inl ⟨rfl, _, SqL.of M9.eR⟩, _, rfl, _, rfl, _, rfl, O, _, _, _, rfl, rfl, SqL.of M9.eO, ekk, _, _, rfl, _, rfl, _, rfl, _, rfl, O, _, _, _, rfl, rfl, SqL.of M9.eO, ekk, _, _, rfl, by show 2 ≤ sizeLine; decide, fun t ht => ?_⟩
          generalize hu : ord[ix.toNat] = u at *
          generalize hv : ord[i + 1] = v at *
          have M10 := M9.new (o := .tup [.int (if v < u then v else u), .int (if v > u then v else u)]) ht
          refine ⟨R, _, _, rfl, rfl, M10.eR, ?_, ?_⟩
          · rw [List.length_map]
            exact small1000 (by omega)
          refine ⟨c9, _, _, ps ++ [(t, if v < u then v else u, if v > u then v else u)], rfl, by omega, ⟨M10.st.put zR, M10.frm.put gR, ?_, ?_, ?_⟩, ?_, v :: U, _, .door v u (if v < u then v else u) (if v > u then v else u) g nv mu ?_, hU', ?_, ?_⟩
          · rw [upd_ne nOR.symm]
            exact M10.eO
          · rw [upd_same, List.map_append]
            rfl
          · intro p hp
            rcases List.mem_append.mp hp with hp | hp
            · have h1 := M10.eP p hp
              rw [upd_ne (ne_of h1 M10.eR (by intro q; cases q))]
              exact h1
            · rw [List.mem_singleton.mp hp]
              have h1 : (upd H9 t (.tup [.int (if v < u then v else u), .int (if v > u then v else u)])) t = some (.tup [.int (if v < u then v else u), .int (if v > u then v else u)]) := upd_same
              rw [upd_ne (ne_of h1 M10.eR (by intro q; cases q))]
              exact h1
          · rw [List.length_append, List.length_singleton]
            omega
          · constructor
            · split <;> omega
            · split <;> omega
          · rw [List.map_append]
            exact (List.perm_append_comm).trans (pE.cons _)
          · rw [List.length_cons, lU]
        · rintro H9 ⟨c9, hc9, M9⟩
          exact ⟨c9, _, _, ps, rfl, by omega, M9, by omega, _, _, .room _ g nv, hU', pE, by rw [List.length_cons, lU]⟩
        · intro QQ hQ
          refine ⟨_, rfl, rfl, _, rfl, ?_⟩
          refine ite2 (fun _ => ?_) (fun hz => ?_)
          · exact hQ _ _ ⟨cc + 2, by omega, M8⟩
          · have hlk6 : lk = 6 := by
              rcases hlk with e | e
              · subst e
                exact absurd (decide_eq_true rfl) hz
              · exact e
            subst hlk6
            refine ⟨_, rfl, _, rfl, s, A, B, cc + 2, 6, rfl, M8.st, by omega, by decide, by decide, fun H9 r3 hS9 fr9 _ _ => ?_⟩
            exact ⟨_, _, rfl, rfl, _, rfl, hQ _ _ ⟨cc + 3, by omega, M8.fr hS9 fr9 zO zR⟩⟩
      · rintro σ H5 ⟨cc, y8, y9, ps, rfl, hcc, M5, hps, U, E, g, hU, pE, lU⟩
        have kz : ∀ z ∈ ps, twoOf H5 (.ref z.1) = z.2 := fun z hz => twoOf_eq (M5.eP z hz)
        refine ⟨_, rfl, _, rfl, R, _, twoOf H5, rfl, SqL.of M5.eR, ?_, fun ys p hsrt hstb hp => ?_⟩
        · intro x hx
          obtain ⟨z, hz, rfl⟩ := List.mem_map.mp hx
          refine ⟨z.1, rfl, ?_⟩
          rw [kz z hz]
          exact M5.eP z hz
        obtain ⟨ps', pp, rfl⟩ := perm_map_inv hstb.perm rfl
        have upD : (ps'.map (·.2)).Pairwise Dlt := by
          have nd : (ps'.map (·.2)).Nodup := ((pp.map _).trans pE).nodup_iff.mpr g.nodup
          rw [List.nodup_iff_pairwise_ne, List.pairwise_map] at nd
          rw [List.pairwise_map]
          have hs : ps'.Pairwise fun x y => ltP (twoOf H5) (.ref y.1) (.ref x.1) = false := List.pairwise_map.mp hsrt
          refine (hs.and nd).imp_of_mem fun {x y} hx hy h => ?_
          have h1 : SrtO.lexB y.2 x.2 = false := by
            have := h.1
            unfold ltP at this
            rw [kz x (pp.mem_iff.mp hx), kz y (pp.mem_iff.mp hy)] at this
            exact this
          exact Dlt_of (SrtO.lexB_no.mp h1) h.2
        have M6 := M5.new (o := .lst (ps'.map fun p => V.ref p.1)) hp
        refine ⟨p, _, rfl, .inl ⟨SqL.of upd_same, fun d hd => ?_⟩⟩
        have M7 := M6.new (o := .tup (ps'.map fun p => V.ref p.1)) hd
        refine ⟨by show 2 ≤ sizeLine; decide, fun h hh => ?_⟩
        have M8 := M7.new (o := .tup [.int n, .ref d]) hh
        have tk : ord.take ((n - 1).toNat + 1) = ord := List.take_of_length_le (by omega)
        refine q _ h n (ps'.map (·.2)) (M8.st.mono (by omega)) M8.frm ⟨d, ps', upd_same, ?_, rfl, fun z hz => M8.eP z (pp.mem_iff.mp hz)⟩ ⟨U, E, g, fun x => ?_, (pp.map _).trans pE, by omega, upD⟩ n2 n3
        · rw [upd_ne (fun e => ?_), upd_same]
          rw [← e, upd_same] at hh
          cases hh
        · rw [hU, tk, pm.mem_iff, mem_rg]
end
end Fw
namespace Fw
open PySem PySem.Spec PyProof.Rows L2
/-! ### x in a tuple, by data -/
theorem units65 {k : Nat} {A : Around} (r : Room k A) : A.units + 65 < cLine := by have := r.un; omega
/-- a door as data -/
def pd (d : Int × Int) : PyData := .tuple [.int d.1, .int d.2]
theorem pd_deep : ∀ D : List (Int × Int), PyData.depthAll (D.map pd) ≤ 1
  | [] => by simp [PyData.depthAll]
  | d :: D => by
    rw [List.map_cons, PyData.depthAll]
    have := pd_deep D
    simp [pd, PyData.depth, PyData.depthAll]
    omega
theorem dp_pair {K : PySem.W.Frag} {H : Hp} {t : Addr} {d : Int × Int} (h : H t = some (.tup [.int d.1, .int d.2])) : Dp K H (.ref t) (pd d) :=
  .tup (SqT.of h) (.cons (.int _) (.cons (.int _) .nil))
theorem dp_pairs {K : PySem.W.Frag} {H : Hp} : ∀ {ps : List (Addr × Int × Int)}, (∀ p ∈ ps, H p.1 = some (.tup [.int p.2.1, .int p.2.2])) → DpAll K H (ps.map fun p => V.ref p.1) ((ps.map (·.2)).map pd)
  | [], _ => .nil
  | p :: ps, h => .cons (dp_pair (h p (List.mem_cons_self ..))) (dp_pairs fun q hq => h q (List.mem_cons_of_mem _ hq))
theorem tt_by {t : TT} {Q : Bool → Hp → Prop} {σ : L2.St} {H : Hp} (Good : Bool → Hp → Prop) (h : ∀ Q' : Bool → Hp → Prop, (∀ b H', Good b H' → Q' b H') → t σ H Q') (hq : ∀ b H', Good b H' → Q b H') : t σ H Q := h _ hq
theorem get_ref {ps : List (Addr × Int × Int)} {i : Nat} {x : V} (h : (ps.map fun p => V.ref p.1)[i]? = some x) : ∃ p, ps[i]? = some p ∧ x = .ref p.1 := by
  rw [List.getElem?_map] at h
  cases e : ps[i]? with
  | none => rw [e] at h; cases h
  | some v => rw [e] at h; exact ⟨v, rfl, (Option.some.inj h).symm⟩
theorem outs_succ {D : List (Int × Int)} {r : Int} {i : Nat} {d : Int × Int} (h : D[i]? = some d) : outs (D.take (i + 1)) r = outs (D.take i) r ++ if d.1 = r then [d.2] else [] := by
  unfold outs
  rw [List.take_add_one, h, List.filter_append, List.map_append]
  congr 1
  by_cases c : d.1 = r
  · rw [if_pos c]
    show List.map _ (List.filter _ [d]) = _
    rw [List.filter_cons_of_pos (by simpa using c)]
    rfl
  · rw [if_neg c]
    show List.map _ (List.filter _ [d]) = _
    rw [List.filter_cons_of_neg (by simpa using c)]
    rfl
theorem ins_succ {D : List (Int × Int)} {r : Int} {i : Nat} {d : Int × Int} (h : D[i]? = some d) : ins (D.take (i + 1)) r = ins (D.take i) r ++ if d.2 = r then [d.1] else [] := by
  unfold ins
  rw [List.take_add_one, h, List.filter_append, List.map_append]
  congr 1
  by_cases c : d.2 = r
  · rw [if_pos c]
    show List.map _ (List.filter _ [d]) = _
    rw [List.filter_cons_of_pos (by simpa using c)]
    rfl
  · rw [if_neg c]
    show List.map _ (List.filter _ [d]) = _
    rw [List.filter_cons_of_neg (by simpa using c)]
    rfl
theorem outs_len (D : List (Int × Int)) (r : Int) : (outs D r).length ≤ D.length := by
  unfold outs
  rw [List.length_map]
  exact List.length_filter_le _ _
theorem ins_len (D : List (Int × Int)) (r : Int) : (ins D r).length ≤ D.length := by
  unfold ins
  rw [List.length_map]
  exact List.length_filter_le _ _
section
variable {P : Program} {w : World} {K : PySem.W.Frag} {mg : Str → Option Value} {base : Heap}
def spNb : Sp := fun vs H Q _ => ∃ (h : Addr) (n : Int) (D : List (Int × Int)) (r : Int), vs = [.ref h, .int r] ∧ HouseAt H h n D ∧ Forest n D ∧
  ∀ H' t, Same H H' → H' t = some (.tup (vi (nb n D r))) → Q (.ref t) H'
abbrev nNb : List Str := ["house", "room", "doors", "a", "b"]
abbrev gAB : PySem.W.Frag → TG := fun K => gTup K 2 (gCons (gName 3) (gCons (gName 4) gNil))
theorem scNb : FnScope nNb ["house", "room"] (defScope sNb) := ⟨rfl, rfl, rfl, by decide +kernel, rfl, by decide +kernel, by decide +kernel⟩
theorem ok_nb {f : Addr} {fd : FuncData} {k : Nat} (F : Fun K "neighbors" "neighbors" sNb f fd) (T : Nm mg) : FnOk P w K mg base CX0 (k + 1) f fd ["house", "room"] spNb := by
  refine F.ok scNb (fun vs H Q E h => ?_) (fun cdv A outer s H vs Q E hr h => ?_)
  · obtain ⟨h, n, D, r, rfl, _⟩ := h
    rfl
  · obtain ⟨h, n, D, r, rfl, ⟨q0, ps, h1, h2, h3, h4⟩, hF, q⟩ := h
    refine ⟨_, pss_cons (ps_set (i := 2) scNb.nd rfl (.inl rfl) (pe_ix ix_tup (pv 0) pe_int (fun _ _ => rfl)))
      (pss_one (ps_ret (pe_callTy call_tuple_of (by rfl) T.tuple (by decide +kernel) (pa_cons (pe_op op_cat
        (pe_lc (own := [("a", 3), ("b", 4)]) (g := gAB K) (by rfl) scNb.nd (pi_tup (pv 2))
          (blkOk_by (own := [("a", 3), ("b", 4)]) (N := nNb) (sc := defScope sNb) (by decide +kernel))
          (fun _ _ _ _ _ => pg_tup (by rfl) (pgs_cons (pg_name (i := 3) scNb.nd rfl (Or.inl rfl)) (pgs_cons (pg_name (i := 4) scNb.nd rfl (Or.inl rfl)) pgs_nil)))
          (fun _ _ _ _ _ => pts_one (pt_cmpR op_eq (pv 4) (pv 1) (nomark _)))
          (fun _ _ _ _ _ => pv 3))
        (pe_lc (own := [("a", 3), ("b", 4)]) (g := gAB K) (by rfl) scNb.nd (pi_tup (pv 2))
          (blkOk_by (own := [("a", 3), ("b", 4)]) (N := nNb) (sc := defScope sNb) (by decide +kernel))
          (fun _ _ _ _ _ => pg_tup (by rfl) (pgs_cons (pg_name (i := 3) scNb.nd rfl (Or.inl rfl)) (pgs_cons (pg_name (i := 4) scNb.nd rfl (Or.inl rfl)) pgs_nil)))
          (fun _ _ _ _ _ => pts_one (pt_cmpR op_eq (pv 3) (pv 1) (nomark _)))
          (fun _ _ _ _ _ => pv 4))) pa_nil)))), ?_⟩
    have el := hF.len
    have eD : D.take (ps.map fun p => V.ref p.1).length = D := by
      rw [h3, List.length_map, ← List.length_map (f := fun x : Addr × Int × Int => x.2), List.take_length]
    refine ⟨_, rfl, h, _, _, _, rfl, rfl, SqT.of h1, atI1, ?_⟩
    refine ⟨_, rfl, q0, rfl, ⟨_, SqT.of h2⟩, fun L hL => lc_tup (K := K) (a := q0) (xs := ps.map fun p => V.ref p.1) (fun i H1 => Same H H1 ∧ H1 L = some (.lst (vi (ins (D.take i) r))))
      ⟨same_upd hL, upd_same⟩ (fun i H1 _ hh => SqT.of (hh.1 _ _ h2)) ?_ ?_⟩
    · rintro i x H1 hx ⟨s1, e1⟩
      obtain ⟨p, hp, rfl⟩ := get_ref hx
      have ed : D[i]? = some p.2 := by rw [h3, List.getElem?_map, hp]; rfl
      refine ⟨p.1, _, rfl, SqT.of (s1 _ _ (h4 p (List.mem_of_getElem? hp))), rfl, _, _, rfl, _, _, rfl, rfl, rfl, _, rfl, _, rfl, rfl, _, rfl, ?_⟩
      refine ite2 (fun c => ?_) (fun c => ?_)
      · have c : p.2.2 = r := V.int.inj (of_decide_eq_true c)
        refine ⟨_, rfl, _, e1, ?_, same_put s1 hL, ?_⟩
        · rw [List.length_map]
          exact small1000 (Nat.le_trans (ins_len _ _) (by rw [List.length_take]; omega))
        · rw [upd_same, ins_succ ed, if_pos c, vi_app]
          rfl
      · have c : ¬ p.2.2 = r := fun e => c (decide_eq_true (by rw [e]))
        refine ⟨s1, ?_⟩
        rw [ins_succ ed, if_neg c, List.append_nil]
        exact e1
    · rintro H1 ⟨s1, e1⟩
      rw [eD] at e1
      refine ⟨_, rfl, q0, rfl, ⟨_, SqT.of (s1 _ _ h2)⟩, fun M hM => lc_tup (K := K) (a := q0) (xs := ps.map fun p => V.ref p.1) (fun i H2 => Same H1 H2 ∧ H2 M = some (.lst (vi (outs (D.take i) r))))
        ⟨same_upd hM, upd_same⟩ (fun i H2 _ hh => SqT.of (hh.1 _ _ (s1 _ _ h2))) ?_ ?_⟩
      · rintro i x H2 hx ⟨s2, e2⟩
        obtain ⟨p, hp, rfl⟩ := get_ref hx
        have ed : D[i]? = some p.2 := by rw [h3, List.getElem?_map, hp]; rfl
        refine ⟨p.1, _, rfl, SqT.of (s2 _ _ (s1 _ _ (h4 p (List.mem_of_getElem? hp)))), rfl, _, _, rfl, _, _, rfl, rfl, rfl, _, rfl, _, rfl, rfl, _, rfl, ?_⟩
        refine ite2 (fun c => ?_) (fun c => ?_)
        · have c : p.2.1 = r := V.int.inj (of_decide_eq_true c)
          refine ⟨_, rfl, _, e2, ?_, same_put s2 hM, ?_⟩
          · rw [List.length_map]
            exact small1000 (Nat.le_trans (outs_len _ _) (by rw [List.length_take]; omega))
          · rw [upd_same, outs_succ ed, if_pos c, vi_app]
            rfl
        · have c : ¬ p.2.1 = r := fun e => c (decide_eq_true (by rw [e]))
          refine ⟨s2, ?_⟩
          rw [outs_succ ed, if_neg c, List.append_nil]
          exact e2
      · rintro H2 ⟨s2, e2⟩
        rw [eD] at e2
        refine ⟨L, M, _, _, rfl, rfl, s2 _ _ e1, e2, ?_, fun N hN => ?_⟩
        · rw [List.length_map, List.length_map]
          have h1 := outs_len D r
          have h2 := ins_len D r
          exact Nat.le_of_lt (small1000 (by omega))
        rw [← vi_app, hF.nb_eq r]
        refine ⟨N, _, rfl, .inl ⟨SqL.of upd_same, fun t ht => q _ t ?_ upd_same⟩⟩
        exact ((s1.trans s2).trans (same_upd hN)).trans (same_upd ht)
def spLNb : Sp := fun vs H Q _ => ∃ (h : Addr) (n : Int) (D : List (Int × Int)) (r : Int), vs = [.ref h, .int r] ∧ HouseAt H h n D ∧ Forest n D ∧
  ∀ H' l, Same H H' → H l = none → H' l = some (.lst (vi (nb n D r))) → Q (.ref l) H'
abbrev nLNb : List Str := ["_law_house_here", "_law_room", "_law_found", "_law_one", "_law_other"]
abbrev gOO : PySem.W.Frag → TG := fun K => gTup K 2 (gCons (gName 3) (gCons (gName 4) gNil))
theorem scLNb : FnScope nLNb ["_law_house_here", "_law_room"] (defScope sLNb) := ⟨rfl, rfl, rfl, by decide +kernel, rfl, by decide +kernel, by decide +kernel⟩
theorem ok_lnb {f : Addr} {fd : FuncData} {k : Nat} (F : Fun K "_law_neighbors" "_law_neighbors" sLNb f fd) (T : Nm mg) : FnOk P w K mg base CX0 (k + 1) f fd ["_law_house_here", "_law_room"] spLNb := by
  refine F.ok scLNb (fun vs H Q E h => ?_) (fun cdv A outer s H vs Q E hr h => ?_)
  · obtain ⟨h, n, D, r, rfl, _⟩ := h
    rfl
  · obtain ⟨h, n, D, r, rfl, ⟨q0, ps, h1, h2, h3, h4⟩, hF, q⟩ := h
    refine ⟨_, pss_cons (ps_setLc (i := 2) (own := [("_law_one", 3), ("_law_other", 4)]) (g := gOO K) (by rfl) scLNb.nd rfl rfl (sw_true rfl rfl rfl (by decide +kernel)) (pi_tup (pe_ix ix_tup (pv 0) pe_int (fun _ _ => rfl)))
        (blkOk_by (own := [("_law_one", 3), ("_law_other", 4)]) (N := nLNb) (sc := defScope sLNb) (by decide +kernel))
        (fun _ _ _ _ _ => pg_tup (by rfl) (pgs_cons (pg_name (i := 3) scLNb.nd rfl (Or.inl rfl)) (pgs_cons (pg_name (i := 4) scLNb.nd rfl (Or.inl rfl)) pgs_nil)))
        (fun _ _ _ _ _ => pts_one (pt_cmpR op_eq (pv 3) (pv 1) (nomark _)))
        (fun _ _ _ _ _ => pv 4))
      (pss_one (ps_ret (pe_callB cr_sortedI (by rfl) T.sorted (by decide +kernel) (pa_cons (pe_op op_cat (pv 2)
        (pe_lc (own := [("_law_one", 3), ("_law_other", 4)]) (g := gOO K) (by rfl) scLNb.nd (pi_tup (pe_ix ix_tup (pv 0) pe_int (fun _ _ => rfl)))
          (blkOk_by (own := [("_law_one", 3), ("_law_other", 4)]) (N := nLNb) (sc := defScope sLNb) (by decide +kernel))
          (fun _ _ _ _ _ => pg_tup (by rfl) (pgs_cons (pg_name (i := 3) scLNb.nd rfl (Or.inl rfl)) (pgs_cons (pg_name (i := 4) scLNb.nd rfl (Or.inl rfl)) pgs_nil)))
          (fun _ _ _ _ _ => pts_one (pt_cmpR op_eq (pv 4) (pv 1) (nomark _)))
          (fun _ _ _ _ _ => pv 3))) pa_nil)))), ?_⟩
    refine ⟨_, rfl, h, _, _, _, rfl, rfl, SqT.of h1, atI1, q0, rfl, ⟨_, SqT.of h2⟩, fun L hL => lc_tup (K := K) (a := q0) (xs := ps.map fun p => V.ref p.1) (fun i H1 => Same H H1 ∧ H1 L = some (.lst (vi (outs (D.take i) r))))
      ⟨same_upd hL, upd_same⟩ (fun i H1 _ hh => SqT.of (hh.1 _ _ h2)) ?_ ?_⟩
    · rintro i x H1 hx ⟨s1, e1⟩
      obtain ⟨p, hp, rfl⟩ := get_ref hx
      have ed : D[i]? = some p.2 := by rw [h3, List.getElem?_map, hp]; rfl
      have em := List.mem_of_getElem? hp
      refine ⟨p.1, _, rfl, SqT.of (s1 _ _ (h4 p em)), rfl, _, _, rfl, _, _, rfl, rfl, rfl, _, rfl, _, rfl, rfl, _, rfl, ?_⟩
      refine ite2 (fun c => ?_) (fun c => ?_)
      · have c : p.2.1 = r := V.int.inj (of_decide_eq_true c)
        refine ⟨_, rfl, _, e1, ?_, same_put s1 hL, ?_⟩
        · rw [List.length_map]
          exact small1000 (Nat.le_trans (outs_len _ _) (by have := hF.len; rw [List.length_take]; omega))
        · rw [upd_same, outs_succ ed, if_pos c, vi_app]
          rfl
      · have c : ¬ p.2.1 = r := fun e => c (decide_eq_true (by rw [e]))
        refine ⟨s1, ?_⟩
        rw [outs_succ ed, if_neg c, List.append_nil]
        exact e1
    · rintro H1 ⟨s1, e1⟩
      have eD : D.take (ps.map fun p => V.ref p.1).length = D := by
        rw [h3, List.length_map, ← List.length_map (f := fun x : Addr × Int × Int => x.2), List.take_length]
      rw [eD] at e1
      refine ⟨_, rfl, _, rfl, h, _, _, _, rfl, rfl, SqT.of (s1 _ _ h1), atI1, q0, rfl, ⟨_, SqT.of (s1 _ _ h2)⟩, fun M hM => lc_tup (K := K) (a := q0) (xs := ps.map fun p => V.ref p.1) (fun i H2 => Same H1 H2 ∧ H2 M = some (.lst (vi (ins (D.take i) r))))
        ⟨same_upd hM, upd_same⟩ (fun i H2 _ hh => SqT.of (hh.1 _ _ (s1 _ _ h2))) ?_ ?_⟩
      · rintro i x H2 hx ⟨s2, e2⟩
        obtain ⟨p, hp, rfl⟩ := get_ref hx
        have ed : D[i]? = some p.2 := by rw [h3, List.getElem?_map, hp]; rfl
        have em := List.mem_of_getElem? hp
        refine ⟨p.1, _, rfl, SqT.of (s2 _ _ (s1 _ _ (h4 p em))), rfl, _, _, rfl, _, _, rfl, rfl, rfl, _, rfl, _, rfl, rfl, _, rfl, ?_⟩
        refine ite2 (fun c => ?_) (fun c => ?_)
        · have c : p.2.2 = r := V.int.inj (of_decide_eq_true c)
          refine ⟨_, rfl, _, e2, ?_, same_put s2 hM, ?_⟩
          · rw [List.length_map]
            exact small1000 (Nat.le_trans (ins_len _ _) (by have := hF.len; rw [List.length_take]; omega))
          · rw [upd_same, ins_succ ed, if_pos c, vi_app]
            rfl
        · have c : ¬ p.2.2 = r := fun e => c (decide_eq_true (by rw [e]))
          refine ⟨s2, ?_⟩
          rw [ins_succ ed, if_neg c, List.append_nil]
          exact e2
      · rintro H2 ⟨s2, e2⟩
        rw [eD] at e2
        have el := hF.len
        refine ⟨L, M, _, _, rfl, rfl, s2 _ _ e1, e2, ?_, fun N hN => ?_⟩
        · rw [List.length_map, List.length_map]
          have h1 := outs_len D r
          have h2 := ins_len D r
          exact Nat.le_of_lt (small1000 (by omega))
        · rw [← vi_app]
          refine ⟨N, _, rfl, SqL.of upd_same, fun ys Z hp hup hZ => ?_⟩
          refine q _ Z ((s1.trans s2).trans ((same_upd hN).trans (same_upd hZ))) (s1.free (s2.free ((same_upd hN).free hZ))) ?_
          rw [upd_same, hF.sorted_nb hp hup]
end
end Fw
namespace Fw
open PySem PySem.Spec PyProof.Rows L2
/-! ### repr, where no repr is under way -/
def rRepr (K : PySem.W.Frag) : List V → Hp → VK → Prop := fun vs H Q => ∃ (a : Addr) (d : PyData), vs = [.ref a] ∧ Dp K H (.ref a) d ∧ d.showable = true ∧ d.hasDict = false ∧ d.depth ≤ 60 ∧ d.shown.length ≤ sizeLine ∧ Q (.str d.shown) H
theorem call_repr {X : Cx} (hg : X.A.guards = some []) (hu : X.A.units + 65 < cLine) : CallR X (.builtin "repr") (rRepr X.K) := by
  intro pins s σ H vs us Q I r h
  obtain ⟨a, d, rfl, hd, hs, hn, hp, hz, q⟩ := h
  obtain ⟨u, rfl, ru⟩ := vals1 r
  obtain rfl : u = Value.ref a := ru
  obtain ⟨as, rd⟩ := Dp.reads I d _ _ hd rfl
  refine repr_of_reads' rd hs (fun z => ?_) hg (by omega) (fun _ _ e => e) (fun h' t tk hk => ?_) hz
  · rw [hn] at z
    cases z
  · exact ⟨.str _, H, I.kept hk, ⟨_, rfl⟩, q⟩
/-! ### a def that is run where no repr is under way -/
structure FnG (P : Program) (w : World) (K : PySem.W.Frag) (mg : Str → Option Value) (base : Heap) (k : Nat) (f : Addr) (fd : FuncData) (ps : List Str) (sp : Sp) : Prop where
  len : ∀ vs H Q E, sp vs H Q E → vs.length = ps.length
  go : ∀ (A : Around) (out : List Env) (st : Shared) (H : Hp) (as : Args) (us : List Value) (vs : List V) (Q : VK), A.guards = some [] → Room k A → Env0 P w K mg base A out st H → BindsTo st fd as (ps.zip us) → Vals vs us → sp vs H Q E0 →
    codeAny (model P w) A (.call (.ref f) as) (CR CX0 out P w H st Q E0) st
section
variable {P : Program} {w : World} {K : PySem.W.Frag} {mg : Str → Option Value} {base : Heap}
theorem Fun.okG {x : Str} {st : Stmt} {f : Addr} {fd : FuncData} {N ps : List Str} {k : Nat} {sp : Sp} (F : Fun K x x st f fd) (S : FnScope N ps (defScope st)) (len : ∀ vs H Q E, sp vs H Q E → vs.length = ps.length)
    (bd : ∀ (c : Value) (A : Around) (out : List Env) (z : Shared) (H : Hp) (vs : List V) (Q : VK), (A.deeper (envOfC x (defScope st) z.heap.objs.size f c)).guards = some [] → Room k (A.deeper (envOfC x (defScope st) z.heap.objs.size f c)) → sp vs H Q E0 →
      ∃ t, PSs (cxOf CX0 P w K mg base N x (defScope st) f c A out z H E0).nox (defBody st) t ∧ t { nx := fun _ H' => Q .non H', rt := Q } (L2.start N vs) H) : FnG P w K mg base (k + 1) f fd ps sp := by
  obtain ⟨oc, od, kV, doc, pm, an, c, ct, osl, rfl, lk, hc⟩ := F.ex
  refine ⟨len, fun A out z H as us vs Q gd room en bi rel hs => ?_⟩
  have kin : K.In z.heap := fun b o e => (en.bs b o (en.mod.kin b o e)).1
  refine codeAny_call_function room.depth (kin _ _ lk) rfl S.co S.gen rfl (PySem.W.codeRec_of kin hc) (bi _ _ _ _ ?_)
  have kinds : ∀ y ∈ ps.zip us, (defScope st).names.lookup y.1 = some .local ∨ ((defScope st).names.lookup y.1 = some .cell ∧ ((cellsFrom (z.heap.objs.size + 1) (defScope st).names []).lookup y.1).isSome = true) := by
    rintro ⟨n, v⟩ hy
    exact (S.par n (List.of_mem_zip hy).1).imp id fun q => ⟨q, PySem.W.cellsFrom_some _ _ _ (.inl q)⟩
  refine wpAny_newFunctionEnv_cells S.kind kinds fun env ee z1 ic => ?_
  subst ee
  refine ⟨(en.mod.nolimit.keeps fun b o e => (en.bs b o e).1).keeps ic.toInCall.keep, codeAny_func ?_⟩
  obtain ⟨t, d, rd⟩ := bd c A out z H vs Q gd (room.deeper _) hs
  have inv := inv_start (CX := CX0) (E := E0) S room.hd en (len _ _ _ _ hs) rel ic
  refine wpAny_mono (d.nox.run [] z1 _ H _ inv rd) (fun fl z2 e => ?_) fun _ _ e => e
  match fl, e with
  | .ret u, ⟨v, σ', H', J, rv, q⟩ => exact ⟨v, H', J.os, J.bare, J.base, J.hok, rv, q⟩
  | .next, ⟨σ', H', J, q⟩ => exact ⟨.non, H', J.os, J.bare, J.base, J.hok, rfl, q⟩
  | .brk, ⟨_, _, _, q⟩ => exact q.elim
  | .cont, ⟨_, _, _, q⟩ => exact q.elim
/-- a call of such a def -/
theorem pe_callG {X : Cx} {k : Nat} {f : Addr} {fd : FuncData} {ps : List Str} {sp : Sp} {x : Str} {p pos : Pos} {e : Expr} {es : List Expr} {t : TA} (F : FnG X.prog X.w X.K X.mg X.base k f fd ps sp) (gd : X.A.guards = some []) (hr : Room k X.A)
    (hg : Gl X x) (hm : X.mg x = some (.ref f)) (hk : PySem.W.keepIn X.K (.ref f) = true) (hb : Binds X.K fd ps []) (ha : PA X (e :: es) t) (hdb : (x == ("__debug__" : Str)) = false := by decide)
    (h1 : starEach (e :: es) X.env = (false, eval e X.env) :: starEach es X.env := by rfl) (h2 : (backTo pos (starEach es X.env)).any (·.1) = false := by rfl) : PE X (.Call (.Name x p) (e :: es) [] pos) (tCall sp [] E0 t) := by
  constructor
  intro pins z σ H Q I h
  refine wpAny_Call_Name_kw (ld_glob I hg hm (PySem.W.callWith_K (h₀ := X.base) I.ok.mod.kin hk (thn (ha.run pos pins z σ H _ I h) ?_) h1 h2) hdb)
  rintro us z1 ⟨vs, H1, I1, r, q⟩
  refine ⟨I1.kIn, wpAny_call (codeAny_mono (F.go X.A X.stack z1 H1 ⟨us, []⟩ (us ++ []) (vs ++ []) Q gd hr I1.env0 (hb z1 us I1.kIn ?_) (r.append .nil) q) fun a z2 hq => ?_)⟩
  · rw [← (r.append .nil).length]
    exact F.len _ _ _ _ q
  · match a, hq with
    | .error _, hq => exact hq.elim
    | .ok (.ret u), hq => exact I1.after hq
    | .ok .next, hq => exact hq.elim
    | .ok .brk, hq => exact hq.elim
    | .ok .cont, hq => exact hq.elim
end
end Fw
namespace Fw
open PySem PySem.Spec PyProof.Rows L2
/-- the state at the law's own call: only the script is tracked -/
theorem top_state {P : Program} {w : World} {K : PySem.W.Frag} {mg mb : Str → Option Value} {a : Addr} {z : Shared} {vs : List Value} {ns : List Int} (kin : K.In z.heap) (gl : z.heap.Ns mainGlobals mg) (bl : z.heap.Ns builtinsNs mb)
    (bb : ∀ x : Str, x ≠ "__name__" → mb x = bootBuiltins x) (lim : z.heap.NoLimit) (ge : z.gens = #[]) (obj : z.heap.get? a = some { cls := .type "list", data := .seq vs.toArray }) (hi : IntsAre vs ns) (hl : ns.length ≤ sizeLine) :
    ∃ (H : Hp) (base : Heap), SqL K H a (vi ns) ∧ K.In base ∧ base.Ns mainGlobals mg ∧ Env0 P w K mg base callerA [] z H ∧ ∀ (H' : Hp) (z' : Shared), Un (frs []) [] H H' z.heap z'.heap → HOk P w H' z'.heap → OldK z.heap z'.heap := by
  have rel : Vals (vi ns) vs := vals_ints hi
  -- what is tracked: nothing, or the script alone
  have pick : ∃ H : Hp, SqL K H a (vi ns) ∧ HOk P w H z.heap ∧ (∀ b, H b = none ∨ (b = a ∧ K.lookup a = none ∧ ∃ xs, H b = some (.frz { cls := .type "list", data := .seq vs.toArray } (.lst xs)))) := by
    cases e : K.lookup a with
    | some o =>
      have e2 : o = { cls := .type "list", data := .seq vs.toArray } := by
        have := kin a o e
        rw [obj] at this
        exact (Option.some.inj this).symm
      subst e2
      refine ⟨fun _ => none, .inr ⟨_, vs.toArray, _, e, rfl, rfl, rfl, ?_, rel⟩, fun b u q => ?_, fun b => .inl rfl⟩
      · rw [List.size_toArray, hi.length]
        exact hl
      · cases (show (none : Option HO) = some u from q)
    | none =>
      refine ⟨upd (fun _ => none) a (.frz { cls := .type "list", data := .seq vs.toArray } (.lst (vi ns))), .inl (.inr ⟨_, upd_same⟩), fun b u q => ?_, fun b => ?_⟩
      · by_cases eb : b = a
        · rw [eb, upd_same] at q
          cases q
          rw [eb]
          exact ⟨obj, by rw [List.length_map]; exact hl, vs, _, rel, obj⟩
        · rw [upd_ne eb] at q
          cases q
      · by_cases eb : b = a
        · exact .inr ⟨eb, rfl, _, by rw [eb]; exact upd_same⟩
        · exact .inl (upd_ne eb)
  obtain ⟨H, hS, hok, only⟩ := pick
  have low : ∀ {b : Addr} {o : Obj}, z.heap.get? b = some o → (b = a → K.lookup a ≠ none) → (hidT z.heap H).get? b = some o := fun {b o} e q => hidT_get e (by
    rcases only b with n | ⟨eb, n, _⟩
    · exact n
    · exact absurd n (q eb))
  have dic : ∀ {b : Addr} {m : Str → Option Value}, z.heap.Ns b m → (hidT z.heap H).Ns b m := fun {b m} h => by
    obtain ⟨o, es, ep, e, d, r⟩ := h
    refine ⟨o, es, ep, hidT_get e ?_, d, r⟩
    rcases only b with n | ⟨eb, _, _⟩
    · exact n
    · rw [eb, obj] at e
      cases e
      cases (show Data.seq vs.toArray _ = Data.dict es ep from d)
  have kb : K.In (hidT z.heap H) := fun b o e => low (kin b o e) fun eb n => by
    rw [eb, n] at e
    cases e
  refine ⟨H, hidT z.heap H, hS, kb, dic gl, ?_, fun H' z' un ok' => OldK.of_keep fun b o e => ?_⟩
  · refine { frames := rfl, mod := ⟨kb, dic gl, ⟨mb, dic bl, bb⟩, ?_⟩, bs := fun b o e => of_hidT e, bsz := Nat.le_of_eq (hidT_size _ _), funs := trivial, frf := fun b hb => ?_, hok := hok, bare := .of_eq ge }
    · obtain ⟨mc, h1, h2⟩ := lim
      exact ⟨mc, dic h1, h2⟩
    · cases (show b ∈ ([] : List Addr) from hb)
  · rcases only b with n | ⟨eb, _, xs, fz⟩
    · refine un.keep b o e n (fun hb => ?_) (fun hb => ?_)
      · cases (show b ∈ ([] : List Addr) from hb)
      · cases hb
    · have f2 := (ok' b _ (un.frzs b _ _ fz)).1
      rw [eb, obj] at e
      cases e
      exact f2
/-- the law's def takes the script alone -/
abbrev Takes1 (fd : FuncData) : Prop := ∀ (z : Shared) (v : Value), BindsTo z fd ⟨[v], []⟩ [("_law_script", v)]
/-- the law's def, at fa, keeps sp over whatever holds the written part -/
def LawAt (P : Program) (w : World) (K : PySem.W.Frag) (mg : Str → Option Value) (k : Nat) (fa : Addr) (sp : Sp) : Prop :=
  ∃ fd, Takes1 fd ∧ ∀ b : Heap, K.In b → b.Ns mainGlobals mg → FnG P w K mg b k fa fd ["_law_script"] sp
/-- a promise that says True of every script -/
def Tells (sp : PySem.W.Frag → Sp) : Prop := ∀ K H a ns, ns.length ≤ 63 → SqL K H a (vi ns) → sp K [.ref a] H (fun v _ => v = .bl true) E0
/-- how a call that keeps such a promise ends -/
structure Told (P : Program) (w : World) (H : Hp) (z : Shared) (r : Result) (z' : Shared) : Prop where
  res : r = .ok (.ret (.bool true))
  os : z'.os = z.os
  bare : AllBare z'.gens
  st : ∃ H', Un (frs []) [] H H' z.heap z'.heap ∧ HOk P w H' z'.heap
theorem told {P : Program} {w : World} {H : Hp} {z z' : Shared} {r : Result} (e : CR CX0 [] P w H z (fun v _ => v = .bl true) E0 r z') : Told P w H z r z' := by
  rcases r with _ | f
  · exact False.elim e
  cases f
  all_goals first | exact False.elim e | skip
  rename_i u
  obtain ⟨v, H', o1, o2, un, ok, rv, qv⟩ := e
  have qv : v = .bl true := qv
  rw [qv] at rv
  exact ⟨by rw [show u = Value.bool true from rv], o1, o2, H', un, ok⟩
/-- the end of a law whose def wants that no repr is under way -/
theorem walkG {l : PySem.W.OpenLaw} {k : Nat} {q : Program} {ls : List Str} {XP : (Str → Option Value) → Heap → Prop} {Y : World → Heap → Prop} {d : DefRec} {K : Params → PySem.W.Frag} {sp : PySem.W.Frag → Sp} (t : Tells sp) (m : l.most = some 63) (nd : d.params.defaults = []) (room : Room k callerA)
    (inK : ∀ w h, Y w h → (K w.params).In h) (L : ∀ w mg fa h, (K w.params).In h → h.Ns mainGlobals mg → mg d.name = some (.ref fa) → LawAt l.prog w (K w.params) mg k fa (sp (K w.params))) :
    PySem.W.WalkO q ls XP Y l.row.toRowW d [] (fun f vs => PySem.call f vs) := by
  apply Att.attach_call m nd
  intro w _ z mg _ fa _ _ _ _ a vs ns G y _ _ _ here obj hi few gens
  obtain ⟨fd, one, keeps⟩ := L w mg fa _ (inK w _ y) G.T.g here
  obtain ⟨H, b, hS, kb, gb, en, old⟩ := top_state (P := l.prog) (w := w) (inK w _ y) G.T.g G.T.b G.T.builtins G.T.nolimit gens obj hi (Nat.le_trans few (by decide))
  have c := (keeps b kb gb).go callerA [] z H ⟨[.ref a], []⟩ [.ref a] [.ref a] (fun v _ => v = .bl true) rfl room en (one z (.ref a)) (.cons rfl .nil) (t _ H a ns few hS)
  exact codeAny_mono c fun r z' e => by
    have e := told e
    obtain ⟨H', un, ok⟩ := e.st
    exact ⟨e.res, old H' z' un ok, e.os, e.bare⟩
end Fw
namespace Fw
open PySem PySem.Spec PyProof.Rows L2
/-- a house as data -/
def hd (n : Int) (D : List (Int × Int)) : PyData := .tuple [.int n, .tuple (D.map pd)]
theorem log_small {i : Int} (h0 : 0 ≤ i) (h1 : i ≤ 100) : i.natAbs.log2 < 1920 := by
  by_cases h : i.natAbs = 0
  · rw [h]; decide
  · exact (Nat.log2_lt h).mpr (Nat.lt_of_le_of_lt (show i.natAbs ≤ 2 ^ 7 by omega) (Nat.pow_lt_pow_right (by decide) (by decide)))
theorem pds_show : ∀ {D : List (Int × Int)}, (∀ d ∈ D, 0 ≤ d.1 ∧ d.1 ≤ 100 ∧ 0 ≤ d.2 ∧ d.2 ≤ 100) → PyData.showableAll (D.map pd) = true ∧ PyData.leavesShortAll 13 (D.map pd) = true
  | [], _ => by simp [PyData.showableAll, PyData.leavesShortAll]
  | d :: D, h => by
    obtain ⟨i1, i2⟩ := pds_show (D := D) fun x hx => h x (List.mem_cons_of_mem _ hx)
    obtain ⟨a0, a1, b0, b1⟩ := h d (List.mem_cons_self ..)
    have s1 := PyData.shown_int_le2 (i := d.1) (by omega) (by omega)
    have s2 := PyData.shown_int_le2 (i := d.2) (by omega) (by omega)
    rw [List.map_cons, PyData.showableAll, PyData.leavesShortAll, i1, i2]
    simp only [pd, PyData.showable, PyData.showableAll, PyData.leavesShort, PyData.leavesShortAll, Bool.and_true]
    exact ⟨by rw [decide_eq_true (log_small a0 a1), decide_eq_true (log_small b0 b1)]; rfl, by rw [decide_eq_true s1, decide_eq_true s2]; rfl⟩
theorem pds_nodict : ∀ D : List (Int × Int), PyData.hasDictAll (D.map pd) = false
  | [] => by simp [PyData.hasDictAll]
  | d :: D => by
    rw [List.map_cons, PyData.hasDictAll, pds_nodict D]
    simp [pd, PyData.hasDict, PyData.hasDictAll]
theorem pds_bulk : ∀ D : List (Int × Int), PyData.bulkAll (D.map pd) = 3 * D.length
  | [] => by simp [PyData.bulkAll]
  | d :: D => by
    rw [List.map_cons, PyData.bulkAll, pds_bulk D]
    simp [pd, PyData.bulk, PyData.bulkAll]
    omega
structure Shows (d : PyData) : Prop where
  s : d.showable = true
  n : d.hasDict = false
  p : d.depth ≤ 60
  z : d.shown.length ≤ sizeLine
theorem hd_shows {n : Int} {D : List (Int × Int)} (n0 : 0 ≤ n) (n1 : n ≤ 100) (h : ∀ d ∈ D, 0 ≤ d.1 ∧ d.1 ≤ 100 ∧ 0 ≤ d.2 ∧ d.2 ≤ 100) (hl : D.length ≤ 100) : Shows (hd n D) := by
  obtain ⟨i1, i2⟩ := pds_show h
  have s1 := PyData.shown_int_le2 (i := n) (by omega) (by omega)
  have dp := pd_deep D
  refine ⟨?_, ?_, ?_, PyData.shown_fits_bulk (B := 13) (by decide) (by decide) ?_ ?_⟩
  · simp only [hd, PyData.showable, PyData.showableAll, Bool.and_true, i1]
    rw [decide_eq_true (log_small n0 n1)]
  · simp only [hd, PyData.hasDict, PyData.hasDictAll, Bool.or_false, Bool.false_or]
    exact pds_nodict D
  · simp only [hd, PyData.depth, PyData.depthAll]
    omega
  · simp only [hd, PyData.leavesShort, PyData.leavesShortAll, Bool.and_true, i2]
    rw [decide_eq_true s1]
  · simp only [hd, PyData.bulk, PyData.bulkAll, pds_bulk]
    omega
theorem Forest.shows {n : Int} {D : List (Int × Int)} (f : Forest n D) (n0 : 0 ≤ n) (n1 : n ≤ 8) : Shows (hd n D) := by
  refine hd_shows n0 (by omega) (fun d hd => ?_) (Nat.le_trans f.len (by decide))
  have := f.ends (a := d.1) (b := d.2) hd
  omega
theorem HouseAt.dp {K : PySem.W.Frag} {H : Hp} {h : Addr} {n : Int} {D : List (Int × Int)} (x : HouseAt H h n D) : Dp K H (.ref h) (hd n D) := by
  obtain ⟨q, ps, h1, h2, h3, h4⟩ := x
  rw [h3]
  exact .tup (SqT.of h1) (.cons (.int n) (.cons (.tup (SqT.of h2) (dp_pairs h4)) .nil))
end Fw
namespace Fw
open PySem PySem.Spec PyProof.Rows L2
/-- a def of the text, wherever it stands -/
def DefE (K : PySem.W.Frag) (mg : Str → Option Value) (x : Str) (st : Stmt) (ps : List Str) : Prop := ∃ f fd, Def K mg x st f fd ps
/-- a def that keeps a promise, by its name -/
def Cal (P : Program) (w : World) (K : PySem.W.Frag) (mg : Str → Option Value) (base : Heap) (k : Nat) (x : Str) (ps : List Str) (sp : Sp) : Prop :=
  ∃ f fd, mg x = some (.ref f) ∧ PySem.W.keepIn K (.ref f) = true ∧ Binds K fd ps [] ∧ FnOk P w K mg base CX0 k f fd ps sp
def CalG (P : Program) (w : World) (K : PySem.W.Frag) (mg : Str → Option Value) (base : Heap) (k : Nat) (x : Str) (ps : List Str) (sp : Sp) : Prop :=
  ∃ f fd, mg x = some (.ref f) ∧ PySem.W.keepIn K (.ref f) = true ∧ Binds K fd ps [] ∧ FnG P w K mg base k f fd ps sp
section
variable {P : Program} {w : World} {K : PySem.W.Frag} {mg : Str → Option Value} {base : Heap}
theorem Def.cal {x : Str} {st : Stmt} {f : Addr} {fd : FuncData} {ps : List Str} {k : Nat} {sp : Sp} (D : Def K mg x st f fd ps) (h : FnOk P w K mg base CX0 k f fd ps sp) : Cal P w K mg base k x ps sp :=
  ⟨f, fd, D.g, D.F.kp, D.b, h⟩
theorem Def.calG {x : Str} {st : Stmt} {f : Addr} {fd : FuncData} {ps : List Str} {k : Nat} {sp : Sp} (D : Def K mg x st f fd ps) (h : FnG P w K mg base k f fd ps sp) : CalG P w K mg base k x ps sp :=
  ⟨f, fd, D.g, D.F.kp, D.b, h⟩
theorem DefE.cal {x : Str} {st : Stmt} {ps : List Str} {k : Nat} {sp : Sp} (D : DefE K mg x st ps) (h : ∀ f fd, Def K mg x st f fd ps → FnOk P w K mg base CX0 k f fd ps sp) : Cal P w K mg base k x ps sp := by
  obtain ⟨f, fd, d⟩ := D
  exact d.cal (h f fd d)
theorem DefE.calG {x : Str} {st : Stmt} {ps : List Str} {k : Nat} {sp : Sp} (D : DefE K mg x st ps) (h : ∀ f fd, Def K mg x st f fd ps → FnG P w K mg base k f fd ps sp) : CalG P w K mg base k x ps sp := by
  obtain ⟨f, fd, d⟩ := D
  exact d.calG (h f fd d)
theorem Cal.imp {x : Str} {ps : List Str} {k : Nat} {sp sp' : Sp} (C : Cal P w K mg base k x ps sp) (h : ∀ vs H Q E, sp' vs H Q E → sp vs H Q E) : Cal P w K mg base k x ps sp' := by
  obtain ⟨f, fd, a, b, c, d⟩ := C
  exact ⟨f, fd, a, b, c, d.imp h⟩
theorem Cal.up {x : Str} {ps : List Str} {j k : Nat} {sp : Sp} (C : Cal P w K mg base j x ps sp) (h : j ≤ k) : Cal P w K mg base k x ps sp := by
  obtain ⟨f, fd, a, b, c, d⟩ := C
  exact ⟨f, fd, a, b, c, d.mono h⟩
theorem pe_cal {X : Cx} {k : Nat} {ps : List Str} {sp : Sp} {x : Str} {p pos : Pos} {e : Expr} {es : List Expr} {t : TA} (C : Cal X.prog X.w X.K X.mg X.base k x ps sp) (hr : Room k X.A) (hg : Gl X x) (ha : PA X (e :: es) t) (hdb : (x == ("__debug__" : Str)) = false := by decide)
    (h1 : starEach (e :: es) X.env = (false, eval e X.env) :: starEach es X.env := by rfl) (h2 : (backTo pos (starEach es X.env)).any (·.1) = false := by rfl) : PE X (.Call (.Name x p) (e :: es) [] pos) (tCall sp [] E0 t) := by
  obtain ⟨f, fd, a, b, c, d⟩ := C
  exact pe_call d hr hg a b c .nil pass0 ha hdb h1 h2
theorem pe_calG {X : Cx} {k : Nat} {ps : List Str} {sp : Sp} {x : Str} {p pos : Pos} {e : Expr} {es : List Expr} {t : TA} (C : CalG X.prog X.w X.K X.mg X.base k x ps sp) (gd : X.A.guards = some []) (hr : Room k X.A) (hg : Gl X x) (ha : PA X (e :: es) t) (hdb : (x == ("__debug__" : Str)) = false := by decide)
    (h1 : starEach (e :: es) X.env = (false, eval e X.env) :: starEach es X.env := by rfl) (h2 : (backTo pos (starEach es X.env)).any (·.1) = false := by rfl) : PE X (.Call (.Name x p) (e :: es) [] pos) (tCall sp [] E0 t) := by
  obtain ⟨f, fd, a, b, c, d⟩ := C
  exact pe_callG d gd hr hg a b c ha hdb h1 h2
end
def tTru (K : PySem.W.Frag) (ta : TE) : TT := fun σ H Q => ta σ H fun x H' => ∃ k, TruV K x H' k ∧ Q k H'
/-! ### the rules with the written part told (so that they can stand in a comprehension) -/
section
variable {X : Cx} (K : PySem.W.Frag) (h : X.K = K)
include h
theorem op_inK : OpR X (compareOp .In) (rIn K false) := by subst h; exact op_in_seq
theorem op_notInK : OpR X (compareOp .NotIn) (rIn K true) := by subst h; exact op_notIn_seq
theorem ix_listK : IxR X (rIxL K) := by subst h; exact ix_list
theorem ix_tupK : IxR X (rIxT K) := by subst h; exact ix_tup
theorem call_lenK : CallR X (.builtin "len") (fun xs H Q => ∃ p ys, xs = [.ref p] ∧ (SqL K H p ys ∨ SqT K H p ys) ∧ Q (.int ys.length) H) := by subst h; exact call_len_seq
theorem call_tupleK : CallR X (.type "tuple") (fun xs H Q => ∃ p ys, xs = [.ref p] ∧ ((SqL K H p ys ∧ ∀ l, H l = none → Q (.ref l) (upd H l (.tup ys))) ∨ (SqT K H p ys ∧ Q (.ref p) H))) := by subst h; exact call_tuple_of
theorem call_tupleF : CallR X (.type "tuple") (fun xs H Q => ∃ p ys, xs = [.ref p] ∧ SqL K H p ys ∧ ∀ (l : Addr) (ob : Obj), H l = none → ob.dict = none → Q (.ref l) (upd H l (.frz ob (.tup ys)))) := by
  subst h
  intro pins s σ H xs us Q I r h
  obtain ⟨p, ys, rfl, hq, q⟩ := h
  obtain ⟨u, rfl, ru⟩ := vals1 r
  cases ru
  obtain ⟨its, rel, pl, hz⟩ := I.list hq
  have hlen := rel.length
  refine call_tuple_list pl.isList (fun h' kp => ?_) (by simp only [List.size_toArray] <;> omega)
  have I1 : Inv X pins σ H { s with heap := h' } := I.kept (t' := s.toks) kp
  have J : Inv X pins σ (upd H h'.objs.size (.frz { cls := .type "tuple", data := .seq its.toArray } (.tup ys))) { s with heap := h'.push { cls := .type "tuple", data := .seq its.toArray } } :=
    I1.laid (t' := s.toks) (fun b o e => Heap.get?_push_of_some _ e) (Nat.le_refl _) (show ObjOk X.prog X.w _ _ _ (.frz _ (.tup ys)) from ⟨Heap.get?_push_size _ rfl, hz, its, rel, IsTup.new _ _⟩)
  exact ⟨.ref h'.objs.size, _, J, rfl, q _ _ (I1.hok.fresh (Nat.le_refl _)) rfl⟩
theorem pi_tupK {tg l : Expr} {tl : TE} (hl : PE X l tl) : PI X tg l (iTup K tl) := by subst h; exact pi_tup hl
theorem op_eqDK (hu : X.A.units + 64 < cLine) : OpR X (compareOp .Eq) (rEqD K) := by subst h; exact op_eqD hu
theorem op_neDK (hu : X.A.units + 64 < cLine) : OpR X (compareOp .NotEq) (rNeD K) := by subst h; exact op_neD hu
theorem pt_truthK {a : Expr} {ta : TE} (ha : PE X a ta) (he : ∀ whole, isTrue a X.env whole = (do let v ← whole; standAt a.pos; holding [v] (truthy v))) : PT X a (tTru K ta) := by subst h; exact pt_truth ha he
end
end Fw
namespace Fw
open PySem PySem.Spec PyProof.Rows L2
/-! ### names: texts of small letters -/
def Low (m : Nat) (s : Str) : Prop := s.length ≤ m ∧ ∀ c ∈ s.cps.toList, 97 ≤ c ∧ c ≤ 122
def Nam (s : Str) : Prop := 1 ≤ s.length ∧ Low 8 s
def ltS (a b : Str) : Prop := a.cps.toList < b.cps.toList
structure Names (ns : List Str) : Prop where
  nam : ∀ x ∈ ns, Nam x
  up : ns.Pairwise ltS
theorem str_ext {a b : Str} (h : a.cps.toList = b.cps.toList) : a = b := by
  cases a with
  | mk x => cases b with
    | mk y =>
      have : x = y := Array.toList_inj.mp h
      rw [this]
theorem app_list (a b : Str) : (a ++ b).cps.toList = a.cps.toList ++ b.cps.toList := by
  show (a.cps ++ b.cps).toList = _
  rw [Array.toList_append]
theorem app_len (a b : Str) : (a ++ b).length = a.length + b.length := Str.length_append a b
theorem len_list (a : Str) : a.length = a.cps.toList.length := by
  show a.cps.size = _
  rw [Array.length_toList]
theorem Low.app {m n : Nat} {a b : Str} (h : Low m a) (k : Low n b) : Low (m + n) (a ++ b) := by
  refine ⟨by rw [app_len]; have := h.1; have := k.1; omega, fun c hc => ?_⟩
  rw [app_list, List.mem_append] at hc
  exact hc.elim (h.2 c) (k.2 c)
theorem Low.mono {m n : Nat} {a : Str} (h : Low m a) (k : m ≤ n) : Low n a := ⟨Nat.le_trans h.1 k, h.2⟩
def let1 (i : Int) : Str := ⟨#[97 + i.toNat]⟩
theorem let1_low {i : Int} (h0 : 0 ≤ i) (h1 : i < 26) : Low 1 (let1 i) := by
  refine ⟨Nat.le_refl _, fun c hc => ?_⟩
  have : c = 97 + i.toNat := by simpa [let1] using hc
  omega
theorem join_low {sep : Str} (hs : sep.cps.toList = []) : ∀ {ys : List Str}, (∀ y ∈ ys, Low 1 y) → Low ys.length (Txt.join sep ys) := by
  intro ys h
  show Low ys.length (Builtin.Str.glued sep ys)
  rw [StrLaws.glued_eq_join]
  induction ys with
  | nil => exact ⟨Nat.le_refl _, fun c hc => by cases (show c ∈ ([] : List Nat) from hc)⟩
  | cons y r ih =>
    cases r with
    | nil => exact h y (List.mem_cons_self ..)
    | cons z r =>
      have i1 := ih fun x hx => h x (List.mem_cons_of_mem _ hx)
      have i0 := h y (List.mem_cons_self ..)
      have e : Str.join sep (y :: z :: r) = y ++ sep ++ Str.join sep (z :: r) := rfl
      have e2 : y ++ sep = y := str_ext (by rw [app_list, hs, List.append_nil])
      rw [e, e2]
      refine ((i0.app i1).mono ?_)
      simp only [List.length_cons]
      omega
theorem join_fits {sep : Str} (hs : sep.cps.toList = []) {ys : List Str} (h : ∀ y ∈ ys, Low 1 y) (hl : ys.length ≤ 100) : (ys.map (·.length)).sum + ys.length * sep.length ≤ 16777216 := by
  have e : sep.length = 0 := by rw [len_list, hs]; rfl
  rw [e, Nat.mul_zero, Nat.add_zero]
  have : ∀ zs : List Str, (∀ y ∈ zs, Low 1 y) → (zs.map (·.length)).sum ≤ zs.length := by
    intro zs hz
    induction zs with
    | nil => exact Nat.le_refl _
    | cons z r ih =>
      have := ih fun x hx => hz x (List.mem_cons_of_mem _ hx)
      have := (hz z (List.mem_cons_self ..)).1
      simp only [List.map_cons, List.sum_cons, List.length_cons]
      omega
  have := this ys h
  omega
def nmk (h t : Str) (r : Int) (k : Nat) : Str := h ++ let1 ((r + 7 * (0 + (k : Int))).fmod 26) ++ t
theorem fm26 (x : Int) : 0 ≤ x.fmod 26 ∧ x.fmod 26 < 26 := by
  rw [Int.fmod_eq_emod_of_nonneg x (by decide)]
  omega
theorem nmk_nam {h t : Str} {r : Int} {k : Nat} (a : Low 3 h) (b : Low 3 t) : Nam (nmk h t r k) := by
  have l := let1_low (fm26 (r + 7 * (0 + (k : Int)))).1 (fm26 _).2
  have := ((a.app l).app b).mono (show 3 + 1 + 3 ≤ 8 by decide)
  refine ⟨?_, this⟩
  unfold nmk
  rw [app_len, app_len]
  show 1 ≤ h.length + 1 + t.length
  omega
theorem nmk_len {h t : Str} {r : Int} {k : Nat} (a : Low 3 h) (b : Low 3 t) : (nmk h t r k).length ≤ 7 := ((a.app (let1_low (fm26 (r + 7 * (0 + (k : Int)))).1 (fm26 _).2)).app b).1
theorem nmk_inj {h t : Str} {r : Int} {i j : Nat} (hi : i < 26) (hj : j < 26) (e : nmk h t r i = nmk h t r j) : i = j := by
  have e1 := congrArg (fun s : Str => s.cps.toList) e
  simp only [nmk, app_list] at e1
  have e2 := List.append_cancel_right e1
  have e3 := List.append_cancel_left e2
  have e4 : 97 + ((r + 7 * (0 + (i : Int))).fmod 26).toNat = 97 + ((r + 7 * (0 + (j : Int))).fmod 26).toNat := by simpa [let1] using e3
  have a := fm26 (r + 7 * (0 + (i : Int)))
  have b := fm26 (r + 7 * (0 + (j : Int)))
  rw [Int.fmod_eq_emod_of_nonneg _ (by decide)] at a b e4
  rw [Int.fmod_eq_emod_of_nonneg _ (by decide)] at e4
  omega
theorem nmk_nodup {h t : Str} {r : Int} {m : Nat} (hm : m ≤ 26) : ((List.range m).map (nmk h t r)).Nodup := by
  rw [List.nodup_iff_pairwise_ne, List.pairwise_map]
  refine (List.nodup_iff_pairwise_ne.mp List.nodup_range).imp_of_mem fun {a b} ha hb ne e => ne ?_
  rw [List.mem_range] at ha hb
  exact nmk_inj (by omega) (by omega) e
theorem risingS_le : ∀ {ys : List Str} {p : Str}, risingS p ys = true → (∀ x ∈ ys, ¬ ltS x p) ∧ ys.Pairwise (fun a b => ¬ ltS b a)
  | [], _, _ => ⟨fun _ h => absurd h List.not_mem_nil, .nil⟩
  | x :: r, p, h => by
    rw [risingS, Bool.and_eq_true, Bool.not_eq_true', ltCps_eq, decide_eq_false_iff_not] at h
    obtain ⟨h1, h2⟩ := h
    obtain ⟨i1, i2⟩ := risingS_le h2
    refine ⟨fun y hy => ?_, .cons i1 i2⟩
    rcases List.mem_cons.mp hy with rfl | hy
    · exact h1
    · have h3 := i1 y hy
      exact fun z => List.le_trans (α := Nat) (Std.not_lt.mp h1) (Std.not_lt.mp h3) z
theorem sortedS_le {ys : List Str} (h : sortedS ys = true) : ys.Pairwise (fun a b => ¬ ltS b a) := by
  cases ys with
  | nil => exact .nil
  | cons x r => exact .cons (risingS_le h).1 (risingS_le h).2
theorem ltS_of {a b : Str} (h : ¬ ltS b a) (n : a ≠ b) : ltS a b := by
  have h : a.cps.toList ≤ b.cps.toList := Std.not_lt.mp h
  by_cases l : ltS a b
  · exact l
  · exact absurd (str_ext (List.le_antisymm h (Std.not_lt.mp l))) n
theorem sorted_names {ns ys : List Str} (p : ys.Perm ns) (h : sortedS ys = true) (n : ns.Nodup) (a : ∀ x ∈ ns, Nam x) : Names ys := by
  refine ⟨fun x hx => a x (p.mem_iff.mp hx), ?_⟩
  have nd : ys.Nodup := p.nodup_iff.mpr n
  exact ((sortedS_le h).and (List.nodup_iff_pairwise_ne.mp nd)).imp fun {a b} h => ltS_of h.1 h.2
theorem ltS_irr (a : Str) : ¬ ltS a a := fun h => List.lt_irrefl _ h
theorem Names.nodup {ns : List Str} (h : Names ns) : ns.Nodup := List.nodup_iff_pairwise_ne.mpr (h.up.imp fun {a b} l => fun (e : a = b) => ltS_irr b (by rw [e] at l; exact l))
theorem vs_app (a b : List Str) : (a ++ b).map V.str = a.map V.str ++ b.map V.str := List.map_append
theorem get_vs {ns : List Str} {i : Nat} {x : V} (h : (ns.map V.str)[i]? = some x) : ∃ v, ns[i]? = some v ∧ x = .str v := by
  rw [List.getElem?_map] at h
  cases e : ns[i]? with
  | none => rw [e] at h; cases h
  | some v => rw [e] at h; exact ⟨v, rfl, (Option.some.inj h).symm⟩
theorem abc_at {z : Str} (hz : z.cps.toList = (List.range 26).map (97 + ·)) {i : Int} (h0 : 0 ≤ i) (h1 : i < 26) : atI z.cps.toList i = some (97 + i.toNat) := by
  have := atI_nat (xs := z.cps.toList) (j := i.toNat) (v := 97 + i.toNat) (by rw [hz, List.getElem?_map, List.getElem?_range (by omega)]; rfl)
  rw [show ((i.toNat : Nat) : Int) = i by omega] at this
  exact this
theorem nam_ok {s : Str} (h : Nam s) : PyData.strOk s = true := by
  unfold PyData.strOk
  rw [Array.all_eq_true_iff_forall_mem]
  intro c hc
  have := h.2.2 c (by rw [Array.mem_toList_iff]; exact hc)
  exact decide_eq_true (by omega)
/-! ### a placement, as it stands in memory -/
/-- a tuple that is to be read (the second way: one that is known to have no attributes of its own) -/
def TpAt (H : Hp) (p : Addr) (xs : List V) : Prop := H p = some (.tup xs) ∨ ∃ o : Obj, o.dict = none ∧ H p = some (.frz o (.tup xs))
theorem TpAt.same {H H' : Hp} {p : Addr} {xs : List V} (x : TpAt H p xs) (e : Same H H') : TpAt H' p xs := x.elim (fun h => .inl (e _ _ h)) fun ⟨o, d, h⟩ => .inr ⟨o, d, e _ _ h⟩
theorem TpAt.sq {K : PySem.W.Frag} {H : Hp} {p : Addr} {xs : List V} (x : TpAt H p xs) : SqT K H p xs := x.elim (fun h => SqT.of h) fun ⟨o, _, h⟩ => .inl (.inr ⟨o, h⟩)
def PlAt (H : Hp) (p : Addr) (P : List (Str × Int)) : Prop := ∃ ps : List (Addr × Str × Int), TpAt H p (ps.map fun q => V.ref q.1) ∧ P = ps.map (·.2) ∧ ∀ q ∈ ps, H q.1 = some (.tup [.str q.2.1, .int q.2.2])
theorem PlAt.same {H H' : Hp} {p : Addr} {P : List (Str × Int)} (x : PlAt H p P) (e : Same H H') : PlAt H' p P := by
  obtain ⟨ps, h1, h2, h3⟩ := x
  exact ⟨ps, h1.same e, h2, fun q hq => e _ _ (h3 q hq)⟩
/-- the same, of a tuple of the second way -/
def PlD (H : Hp) (p : Addr) (P : List (Str × Int)) : Prop := ∃ (ps : List (Addr × Str × Int)) (o : Obj), o.dict = none ∧ H p = some (.frz o (.tup (ps.map fun q => V.ref q.1))) ∧ P = ps.map (·.2) ∧ ∀ q ∈ ps, H q.1 = some (.tup [.str q.2.1, .int q.2.2])
theorem PlD.pl {H : Hp} {p : Addr} {P : List (Str × Int)} (x : PlD H p P) : PlAt H p P := by
  obtain ⟨ps, o, d, h1, h2, h3⟩ := x
  exact ⟨ps, .inr ⟨o, d, h1⟩, h2, h3⟩
theorem PlD.same {H H' : Hp} {p : Addr} {P : List (Str × Int)} (x : PlD H p P) (e : Same H H') : PlD H' p P := by
  obtain ⟨ps, o, d, h1, h2, h3⟩ := x
  exact ⟨ps, o, d, e _ _ h1, h2, fun q hq => e _ _ (h3 q hq)⟩
/-- a placement of n rooms -/
structure Pl (n : Int) (P : List (Str × Int)) : Prop where
  nm : Names (P.map (·.1))
  rm : ∀ x ∈ P, 0 ≤ x.2 ∧ x.2 < n
theorem Pl.nodup {n : Int} {P : List (Str × Int)} (h : Pl n P) : (P.map (·.1)).Nodup := h.nm.nodup
/-! ### parameters -/
abbrev pDraw : List Str := ["_law_stream_here", "_law_many"]
abbrev pIsAsc : List Str := ["sequence"]
abbrev pIsInt : List Str := ["value"]
abbrev pIsRoom : List Str := ["house", "value"]
abbrev pLMoved : List Str := ["_law_placement_here", "_law_name", "_law_room"]
abbrev pMove : List Str := ["house", "placement", "name", "room"]
abbrev pWith : List Str := ["placement", "name", "room"]
abbrev pNamesOf : List Str := ["placement"]
abbrev pPIn : List Str := ["placement", "room"]
abbrev pPWi : List Str := ["placement", "rooms"]
abbrev pPl : List Str := ["_law_stream_here", "_law_house_here", "_law_most"]
abbrev pRoomOf : List Str := ["placement", "name"]
end Fw
namespace Fw
open PySem PySem.Spec PyProof.Rows L2
section
variable {P : Program} {w : World} {K : PySem.W.Frag} {mg : Str → Option Value} {base : Heap}
theorem StreamAt.frz {s A B : Addr} {c : Nat} {H : Hp} (hS : StreamAt H s A B c) {t : Addr} {o : Obj} {u : HO} (h : H t = some (.frz o u)) : t ≠ s ∧ t ≠ A ∧ t ≠ B := by
  obtain ⟨big, cells, cnt, h1, h2, h3, _⟩ := hS.ex
  exact ⟨ne_of h h1 (by intro q; cases q), ne_of h h2 (by intro q; cases q), ne_of h h3 (by intro q; cases q)⟩
theorem Fr.frz {s A B : Addr} {c : Nat} {H H1 : Hp} (f : Fr s A H H1) (hS : StreamAt H s A B c) {t : Addr} {o : Obj} {u : HO} (h : H t = some (.frz o u)) : H1 t = some (.frz o u) := f t _ (hS.frz h).1 (hS.frz h).2.1 h
theorem TpAt.fr {s A B : Addr} {c : Nat} {H H' : Hp} {p : Addr} {xs : List V} (x : TpAt H p xs) (hS : StreamAt H s A B c) (e : Fr s A H H') : TpAt H' p xs := x.elim (fun h => .inl (e.tup hS h)) fun ⟨o, d, h⟩ => .inr ⟨o, d, e.frz hS h⟩
theorem PlAt.fr {s A B : Addr} {c : Nat} {H H' : Hp} {p : Addr} {P : List (Str × Int)} (x : PlAt H p P) (hS : StreamAt H s A B c) (e : Fr s A H H') : PlAt H' p P := by
  obtain ⟨ps, h1, h2, h3⟩ := x
  exact ⟨ps, h1.fr hS e, h2, fun q hq => e.tup hS (h3 q hq)⟩
theorem PlD.fr {s A B : Addr} {c : Nat} {H H' : Hp} {p : Addr} {P : List (Str × Int)} (x : PlD H p P) (hS : StreamAt H s A B c) (e : Fr s A H H') : PlD H' p P := by
  obtain ⟨ps, o, d, h1, h2, h3⟩ := x
  exact ⟨ps, o, d, e.frz hS h1, h2, fun q hq => e.tup hS (h3 q hq)⟩
def spNames : Sp := fun vs H Q _ => ∃ (s A B : Addr) (c : Nat) (m : Int), vs = [.ref s, .int m] ∧ StreamAt H s A B c ∧ c < 2 ^ 30 ∧ 0 ≤ m ∧ m ≤ 20 ∧
  ∀ H' l ns, StreamAt H' s A B (c + 10) → Fr s A H H' → H l = none → H' l = some (.lst (ns.map V.str)) → ns.length = m.toNat → Names ns → Q (.ref l) H'
/-- the same, with more known of the names -/
def spNamesS (S : List Str → Prop) : Sp := fun vs H Q _ => ∃ (s A B : Addr) (c : Nat) (m : Int), vs = [.ref s, .int m] ∧ StreamAt H s A B c ∧ c < 2 ^ 30 ∧ 0 ≤ m ∧ m ≤ 20 ∧
  ∀ H' l ns, StreamAt H' s A B (c + 10) → Fr s A H H' → H l = none → H' l = some (.lst (ns.map V.str)) → ns.length = m.toNat → Names ns → S ns → Q (.ref l) H'
abbrev spNamesR (R : Str → Prop) : Sp := spNamesS fun ns => ∀ x ∈ ns, R x
/-- short, and all of one length -/
def OneLen (ns : List Str) : Prop := (∀ x ∈ ns, x.length ≤ 7) ∧ ∃ u, ∀ x ∈ ns, x.length = u
theorem nmk_lenE {h t : Str} {r : Int} {k : Nat} : (nmk h t r k).length = h.length + 1 + t.length := by
  unfold nmk
  rw [app_len, app_len]
  rfl
abbrev nNames : List Str := ["_law_stream_here", "_law_many", "_law_letters", "_law_first", "_law_head", "_law_k", "_law_tail"]
theorem scNames : FnScope nNames ["_law_stream_here", "_law_many"] (defScope sNames) := ⟨rfl, rfl, rfl, by decide +kernel, rfl, by decide +kernel, by decide +kernel⟩
theorem ok_namesS {f : Addr} {fd : FuncData} (F : Fun K "_law_names" "_law_names" sNames f fd) (T : Nm mg) (C_law_draw : Cal P w K mg base 1 "_law_draw" pDraw spDraw) : FnOk P w K mg base CX0 2 f fd ["_law_stream_here", "_law_many"] (spNamesS OneLen) := by
  refine F.ok scNames (fun vs H Q E h => ?_) (fun cdv A outer s H vs Q E hr h => ?_)
  · obtain ⟨s, A, B, c, m, rfl, _⟩ := h
    rfl
  · obtain ⟨s, A, B, c, m, rfl, hS, hc, hm0, hm1, q⟩ := h
    refine ⟨_, (pss_cons (ps_set (i := 2) scNames.nd rfl (.inr rfl) pe_str)
      (pss_cons (ps_set (i := 3) scNames.nd rfl (.inr rfl) (pe_cal C_law_draw (hr.mono (by decide)) (by rfl) (pa_cons (pv 0) (pa_cons pe_int pa_nil))))
      (pss_cons (ps_set (i := 4) scNames.nd rfl (.inr rfl) (pe_join pe_str (pe_lc (own := [("_law_k", 5)]) (g := gName 5) (by rfl) scNames.nd (pi_range1 (by rfl) T.range (pa_cons (pe_cal C_law_draw (hr.mono (by decide)) (by rfl) (pa_cons (pv 0) (pa_cons pe_int pa_nil))) pa_nil))
 (blkOk_by (own := [("_law_k", 5)]) (N := nNames) (sc := defScope sNames) (by decide +kernel))
 (fun _ _ _ _ _ => (pg_name (i := 5) scNames.nd rfl (.inl rfl))) (fun _ _ _ _ _ => pts_nil) (fun _ _ _ _ _ => (pe_ix ix_str (pv 2) (pe_cal C_law_draw (hr.mono (by decide)) (by rfl) (pa_cons (pv 0) (pa_cons pe_int pa_nil))) (fun _ _ => rfl))))))
      (pss_cons (ps_set (i := 6) scNames.nd rfl (.inr rfl) (pe_join pe_str (pe_lc (own := [("_law_k", 5)]) (g := gName 5) (by rfl) scNames.nd (pi_range1 (by rfl) T.range (pa_cons (pe_cal C_law_draw (hr.mono (by decide)) (by rfl) (pa_cons (pv 0) (pa_cons pe_int pa_nil))) pa_nil))
 (blkOk_by (own := [("_law_k", 5)]) (N := nNames) (sc := defScope sNames) (by decide +kernel))
 (fun _ _ _ _ _ => (pg_name (i := 5) scNames.nd rfl (.inl rfl))) (fun _ _ _ _ _ => pts_nil) (fun _ _ _ _ _ => (pe_ix ix_str (pv 2) (pe_cal C_law_draw (hr.mono (by decide)) (by rfl) (pa_cons (pv 0) (pa_cons pe_int pa_nil))) (fun _ _ => rfl))))))
      (pss_one (ps_ret (pe_callB cr_sortedS (by rfl) T.sorted (by decide +kernel) (pa_cons (pe_lc (own := [("_law_k", 5)]) (g := gName 5) (by rfl) scNames.nd (pi_range1 (by rfl) T.range (pa_cons (pv 1) pa_nil))
 (blkOk_by (own := [("_law_k", 5)]) (N := nNames) (sc := defScope sNames) (by decide +kernel))
 (fun _ _ _ _ _ => (pg_name (i := 5) scNames.nd rfl (.inl rfl))) (fun _ _ _ _ _ => pts_nil) (fun _ _ _ _ _ => (pe_op op_add_str (pe_op op_add_str (pv 4) (pe_ix ix_str (pv 2) (pe_op op_modN (pe_op op_add (pv 3) (pe_op op_mul pe_int (pv 5))) pe_int) (fun _ _ => rfl))) (pv 6)))) pa_nil)))))))), ?_⟩
    refine ⟨_, rfl, s, A, B, c, _, rfl, hS, by omega, by decide, by decide, fun H1 r hS1 fr1 r0 r1 => ?_⟩
    refine ⟨⟨_, rfl⟩, _, rfl, s, A, B, c + 1, _, rfl, hS1, by omega, by decide, by decide, fun H2 r2 hS2 fr2 r20 r21 => ?_⟩
    have abc : (Str.ofString "abcdefghijklmnopqrstuvwxyz").cps.toList = (List.range 26).map (97 + ·) := by decide +kernel
    have nil : (Str.ofString "").cps.toList = [] := by decide +kernel
    refine ⟨r2, rfl, by omega, by omega, fun L hL => lc_range (lo := 0) (n := r2.toNat) (fun i H' => ∃ ys : List Str, StreamAt H' s A B (c + 1 + 1 + i) ∧ Fr s A H2 H' ∧ H' L = some (.lst (ys.map V.str)) ∧ ys.length = i ∧ ∀ y ∈ ys, Low 1 y)
      ⟨[], hS2.same (same_upd hL), Fr.of (same_upd hL), upd_same, rfl, fun y hy => absurd hy List.not_mem_nil⟩ ?_ ?_⟩
    · rintro i H' hi ⟨ys, hS', fr', e', l', p'⟩
      refine ⟨rfl, ?_⟩
      unfold tYes
      refine iteT ⟨_, rfl, _, rfl, s, A, B, c + 1 + 1 + i, _, rfl, hS', by omega, by decide, by decide, fun H'' x hS'' fr'' x0 x1 => ?_⟩
      have z := hS2.ne hL
      refine ⟨_, x, _, rfl, rfl, by decide +kernel, abc_at abc x0 x1, _, fr'' _ _ z.1.symm z.2.1.symm e', ?_, ys ++ [let1 x], hS''.put z, (fr'.trans fr'').put hL, ?_, ?_, ?_⟩
      · rw [List.length_map]
        exact small1000 (by omega)
      · rw [upd_same, vs_app]
        rfl
      · rw [List.length_append, l']
        rfl
      · intro y hy
        rcases List.mem_append.mp hy with hy | hy
        · exact p' y hy
        · rw [List.mem_singleton.mp hy]
          exact let1_low x0 x1
    rintro H3 ⟨ys, hS3, fr3, e3, l3, p3⟩
    refine ⟨_, L, ys, rfl, rfl, .inl (SqL.of e3), join_fits nil p3 (by omega), ?_⟩
    have hd : Low 3 (Txt.join (Str.ofString "") ys) := (join_low nil p3).mono (by omega)
    generalize Txt.join (Str.ofString "") ys = hd' at *
    have hS3 := hS3.mono (show _ ≤ c + 5 by omega)
    have fr3 : Fr s A H H3 := (fr1.trans fr2).trans fr3
    clear e3 l3 p3 hL fr2 hS2
    refine ⟨⟨_, rfl⟩, _, rfl, s, A, B, c + 5, _, rfl, hS3, by omega, by decide, by decide, fun H4 r4 hS4 fr4 r40 r41 => ?_⟩
    refine ⟨r4, rfl, by omega, by omega, fun M hM => lc_range (lo := 0) (n := r4.toNat) (fun i H' => ∃ ys : List Str, StreamAt H' s A B (c + 5 + 1 + i) ∧ Fr s A H4 H' ∧ H' M = some (.lst (ys.map V.str)) ∧ ys.length = i ∧ ∀ y ∈ ys, Low 1 y)
      ⟨[], hS4.same (same_upd hM), Fr.of (same_upd hM), upd_same, rfl, fun y hy => absurd hy List.not_mem_nil⟩ ?_ ?_⟩
    · rintro i H' hi ⟨ys, hS', fr', e', l', p'⟩
      refine ⟨rfl, ?_⟩
      unfold tYes
      refine iteT ⟨_, rfl, _, rfl, s, A, B, c + 5 + 1 + i, _, rfl, hS', by omega, by decide, by decide, fun H'' x hS'' fr'' x0 x1 => ?_⟩
      have z := hS4.ne hM
      refine ⟨_, x, _, rfl, rfl, by decide +kernel, abc_at abc x0 x1, _, fr'' _ _ z.1.symm z.2.1.symm e', ?_, ys ++ [let1 x], hS''.put z, (fr'.trans fr'').put hM, ?_, ?_, ?_⟩
      · rw [List.length_map]
        exact small1000 (by omega)
      · rw [upd_same, vs_app]
        rfl
      · rw [List.length_append, l']
        rfl
      · intro y hy
        rcases List.mem_append.mp hy with hy | hy
        · exact p' y hy
        · rw [List.mem_singleton.mp hy]
          exact let1_low x0 x1
    rintro H5 ⟨zs, hS5, fr5, e5, l5, p5⟩
    refine ⟨_, M, zs, rfl, rfl, .inl (SqL.of e5), join_fits nil p5 (by omega), ?_⟩
    have td : Low 3 (Txt.join (Str.ofString "") zs) := (join_low nil p5).mono (by omega)
    generalize Txt.join (Str.ofString "") zs = tl' at *
    have hS5 := hS5.mono (show _ ≤ c + 10 by omega)
    have fr5 : Fr s A H H5 := (fr3.trans fr4).trans fr5
    clear e5 l5 p5 hM fr4 hS4 hS3 fr3 fr1 hS1
    refine ⟨_, rfl, m, rfl, by omega, by omega, fun N hN => lc_range (lo := 0) (n := m.toNat) (fun i H' => Same H5 H' ∧ H' N = some (.lst (((List.range i).map (nmk hd' tl' r)).map V.str)))
      ⟨same_upd hN, upd_same⟩ ?_ ?_⟩
    · rintro i H' hi ⟨sm, e'⟩
      refine ⟨rfl, ?_⟩
      unfold tYes
      have g := fm26 (r + 7 * (0 + (i : Int)))
      refine iteT ⟨_, rfl, _, rfl, _, rfl, _, rfl, _, _, rfl, rfl, .inl ⟨by decide, by decide⟩, _, _, rfl, rfl, _, _, rfl, rfl, (by show (26 : Int) ≠ 0; decide), _, _, _, rfl, rfl, by decide +kernel, abc_at abc g.1 g.2, _, _, rfl, rfl, ?_, _, rfl, _, _, rfl, rfl, ?_, _, e', ?_, same_put sm hN, ?_⟩
      · show hd'.length + 1 ≤ sizeLine
        have := hd.1
        exact Nat.le_of_lt (small1000 (by omega))
      · rw [app_len]
        show hd'.length + 1 + tl'.length ≤ sizeLine
        have := hd.1
        have := td.1
        exact Nat.le_of_lt (small1000 (by omega))
      · rw [List.length_map, List.length_map, List.length_range]
        exact small1000 (by omega)
      · rw [upd_same, List.range_succ, List.map_append, vs_app]
        rfl
    rintro H6 ⟨sm6, e6⟩
    refine ⟨N, _, rfl, SqL.of e6, ?_, fun zs p hp hs hpn => ?_⟩
    · rw [List.length_map, List.length_range]
      omega
    have fr7 : Fr s A H (upd H6 p (.lst (zs.map V.str))) := fr5.trans (Fr.of (sm6.trans (same_upd hpn)))
    refine q _ p zs (hS5.same (sm6.trans (same_upd hpn))) fr7 (fr5.free hS5 (sm6.free hpn)) upd_same ?_ (sorted_names hp hs (nmk_nodup (by omega)) ?_) ⟨fun x hx => ?_, hd'.length + 1 + tl'.length, fun x hx => ?_⟩
    · rw [hp.length_eq, List.length_map, List.length_range]
    · intro x hx
      obtain ⟨k, _, rfl⟩ := List.mem_map.mp hx
      exact nmk_nam hd td
    · obtain ⟨k, _, rfl⟩ := List.mem_map.mp (hp.mem_iff.mp hx)
      exact nmk_len hd td
    · obtain ⟨k, _, rfl⟩ := List.mem_map.mp (hp.mem_iff.mp hx)
      exact nmk_lenE
theorem ok_names7 {f : Addr} {fd : FuncData} (F : Fun K "_law_names" "_law_names" sNames f fd) (T : Nm mg) (C_law_draw : Cal P w K mg base 1 "_law_draw" pDraw spDraw) : FnOk P w K mg base CX0 2 f fd ["_law_stream_here", "_law_many"] (spNamesR fun x => x.length ≤ 7) :=
  (ok_namesS F T C_law_draw).imp fun vs H Q E ⟨s, A, B, c, m, e, hS, hc, m0, m1, q⟩ => ⟨s, A, B, c, m, e, hS, hc, m0, m1, fun H' l ns a b c d e f g => q H' l ns a b c d e f g.1⟩
theorem names_all {R : Str → Prop} {x : Str} {ps : List Str} {k : Nat} (C : Cal P w K mg base k x ps spNames) (h : ∀ z, R z) : Cal P w K mg base k x ps (spNamesR R) :=
  C.imp fun vs H Q E ⟨s, A, B, c, m, e, hS, hc, m0, m1, q⟩ => ⟨s, A, B, c, m, e, hS, hc, m0, m1, fun H' l ns a b c d e f => q H' l ns a b c d e f fun _ _ => h _⟩
theorem ok_names {f : Addr} {fd : FuncData} (F : Fun K "_law_names" "_law_names" sNames f fd) (T : Nm mg) (C_law_draw : Cal P w K mg base 1 "_law_draw" pDraw spDraw) : FnOk P w K mg base CX0 2 f fd ["_law_stream_here", "_law_many"] spNames :=
  (ok_names7 F T C_law_draw).imp fun vs H Q E ⟨s, A, B, c, m, e, hS, hc, m0, m1, q⟩ => ⟨s, A, B, c, m, e, hS, hc, m0, m1, fun H' l ns a b c d e f _ => q H' l ns a b c d e f⟩
end
end Fw
namespace Fw
open PySem PySem.Spec PyProof.Rows L2
theorem cut_vi (ns : List Int) (lo hi : Option Int) : ∃ ms : List Int, cutV (vi ns) lo hi = vi ms ∧ (∀ x ∈ ms, x ∈ ns) := by
  refine ⟨(ns.drop (HT.sIx (vi ns).length 0 lo)).take (HT.sIx (vi ns).length (vi ns).length hi - HT.sIx (vi ns).length 0 lo), ?_, fun x hx => List.mem_of_mem_drop (List.mem_of_mem_take hx)⟩
  unfold cutV vi
  rw [List.map_take, List.map_drop]
theorem cut_le (xs : List V) {m : Int} (h : 0 ≤ m) : (cutV xs none (some m)).length ≤ m.toNat := by
  unfold cutV
  rw [List.length_take]
  refine Nat.le_trans (Nat.min_le_left _ _) ?_
  show (if m < 0 then _ else min m.toNat xs.length) - 0 ≤ m.toNat
  rw [if_neg (by omega)]
  omega
theorem atI_in {xs : List Int} {r : Int} (h0 : 0 ≤ r) (h1 : r < (xs.length : Nat)) : ∃ x, x ∈ xs ∧ atI (vi xs) r = some (V.int x) := by
  have hj : r.toNat < xs.length := by omega
  refine ⟨xs[r.toNat], List.getElem_mem hj, ?_⟩
  have := atI_nat (xs := vi xs) (j := r.toNat) (v := V.int xs[r.toNat]) (by rw [List.getElem?_map, List.getElem?_eq_getElem hj]; rfl)
  rw [show ((r.toNat : Nat) : Int) = r by omega] at this
  exact this
theorem seq_by {a b : TS} {D : Ends} {σ : L2.St} {H : Hp} (M : L2.St → Hp → Prop) (h1 : ∀ N : L2.St → Hp → Prop, (∀ σ' H', M σ' H' → N σ' H') → a { D with nx := N } σ H) (h2 : ∀ σ' H', M σ' H' → b D σ' H') : tSeq a b D σ H := h1 _ h2
section
variable {P : Program} {w : World} {K : PySem.W.Frag} {mg : Str → Option Value} {base : Heap}
theorem HouseAt.room0 {H : Hp} {h : Addr} {n : Int} {D : List (Int × Int)} (x : HouseAt H h n D) : ∃ q, H h = some (.tup [.int n, .ref q]) := by
  obtain ⟨q, ps, h1, _⟩ := x
  exact ⟨q, h1⟩
def spPl : Sp := fun vs H Q _ => ∃ (s A B h : Addr) (c : Nat) (n : Int) (D : List (Int × Int)) (m : Int), vs = [.ref s, .ref h, .int m] ∧ StreamAt H s A B c ∧ c < 2 ^ 29 ∧ HouseAt H h n D ∧ 1 ≤ n ∧ n ≤ 8 ∧ 0 ≤ m ∧ m ≤ 12 ∧
  ∀ H' p P, StreamAt H' s A B (c + 60) → Fr s A H H' → PlD H' p P → Pl n P → P.length ≤ m.toNat → Q (.ref p) H'
/-- the same, with more known of the names -/
def spPlS (S : List Str → Prop) : Sp := fun vs H Q _ => ∃ (s A B h : Addr) (c : Nat) (n : Int) (D : List (Int × Int)) (m : Int), vs = [.ref s, .ref h, .int m] ∧ StreamAt H s A B c ∧ c < 2 ^ 29 ∧ HouseAt H h n D ∧ 1 ≤ n ∧ n ≤ 8 ∧ 0 ≤ m ∧ m ≤ 12 ∧
  ∀ H' p P, StreamAt H' s A B (c + 60) → Fr s A H H' → PlD H' p P → Pl n P → P.length ≤ m.toNat → S (P.map (·.1)) → Q (.ref p) H'
def spPlR (R : Str → Prop) : Sp := fun vs H Q _ => ∃ (s A B h : Addr) (c : Nat) (n : Int) (D : List (Int × Int)) (m : Int), vs = [.ref s, .ref h, .int m] ∧ StreamAt H s A B c ∧ c < 2 ^ 29 ∧ HouseAt H h n D ∧ 1 ≤ n ∧ n ≤ 8 ∧ 0 ≤ m ∧ m ≤ 12 ∧
  ∀ H' p P, StreamAt H' s A B (c + 60) → Fr s A H H' → PlD H' p P → Pl n P → P.length ≤ m.toNat → (∀ x ∈ P, R x.1) → Q (.ref p) H'
abbrev nPl : List Str := ["_law_stream_here", "_law_house_here", "_law_most", "_law_share", "_law_held", "_law_room", "_law_spots", "_law_k", "_law_found", "_law_name"]
theorem scPl : FnScope nPl ["_law_stream_here", "_law_house_here", "_law_most"] (defScope sPl) := ⟨rfl, rfl, rfl, by decide +kernel, rfl, by decide +kernel, by decide +kernel⟩
theorem ok_plS {S' : List Str → Prop} {f : Addr} {fd : FuncData} (F : Fun K "_law_placement" "_law_placement" sPl f fd) (T : Nm mg) (C_law_draw : Cal P w K mg base 1 "_law_draw" pDraw spDraw) (C_law_names : Cal P w K mg base 2 "_law_names" pDraw (spNamesS S')) : FnOk P w K mg base CX0 3 f fd pPl (spPlS S') := by
  refine F.ok scPl (fun vs H Q E h => ?_) (fun cdv A outer s H vs Q E hr h => ?_)
  · obtain ⟨s, A, B, h, c, n, D, m, rfl, _⟩ := h
    rfl
  · obtain ⟨s, A, B, h, c, n, D, m, rfl, hS, hc, hH, n0, n1, m0, m1, q⟩ := h
    refine ⟨_, (pss_cons (ps_set (i := 3) scPl.nd rfl (.inr rfl) (pe_cal C_law_draw (hr.mono (by decide)) (by rfl) (pa_cons (pv 0) (pa_cons pe_int pa_nil))))
      (pss_cons (ps_set (i := 4) scPl.nd rfl (.inl rfl) (pe_slice sl_list (pe_lc (own := [("_law_room", 5)]) (g := gName 5) (by rfl) scPl.nd (pi_range1 (by rfl) T.range (pa_cons (pe_ix ix_tup (pv 1) pe_int (fun _ _ => rfl)) pa_nil))
 (blkOk_by (own := [("_law_room", 5)]) (N := nPl) (sc := defScope sPl) (by decide +kernel))
 (fun _ _ _ _ _ => (pg_name (i := 5) scPl.nd rfl (.inl rfl))) (fun _ _ _ _ _ => pts_one (PW.pt (pw_or (pt_cmpR op_eq (pv 3) pe_int (nomark _)) (pw_or1 (pt_cmpR op_gt (pe_cal C_law_draw (hr.mono (by decide)) (by rfl) (pa_cons (pv 0) (pa_cons pe_int pa_nil))) pe_int (nomark _)))))) (fun _ _ _ _ _ => (pv 5))) po_none (po_some (pv 2))))
      (pss_cons (ps_set (i := 6) scPl.nd rfl (.inl rfl) (pe_callTy call_list_of (by rfl) T.list (by decide +kernel) (pa_cons (pv 4) pa_nil)))
      (pss_cons (ps_if (PW.pt (pw_and (pt_cmpR (op_neD hr.units) (pv 4) (pe_lst pa_nil) (nomark _)) (pw_and1 (pt_cmpR op_eq (pe_cal C_law_draw (hr.mono (by decide)) (by rfl) (pa_cons (pv 0) (pa_cons pe_int pa_nil))) pe_int (nomark _)))))
      (pss_one (ps_for PassesOwn.never rfl (pi_range1 (by rfl) T.range (pa_cons (pe_cal C_law_draw (hr.mono (by decide)) (by rfl) (pa_cons (pv 0) (pa_cons (pe_op op_add (pe_op op_sub (pv 2) (pe_callB call_len_seq (by rfl) T.len (by decide +kernel) (pa_cons (pv 4) pa_nil))) pe_int) pa_nil))) pa_nil)) (pg_name (i := 7) scPl.nd rfl (.inl rfl))
       (pss_one (ps_expr (pe_bm PySem.F.plainAttrs_list PySem.F.slot_list_append PySem.F.type_list_append mt_append (pv 6) (pa_cons (pe_ix ix_list (pv 4) (pe_cal C_law_draw (hr.mono (by decide)) (by rfl) (pa_cons (pv 0) (pa_cons (pe_callB call_len_seq (by rfl) T.len (by decide +kernel) (pa_cons (pv 4) pa_nil)) pa_nil))) (fun _ _ => rfl)) pa_nil))))))
      pss_nil)
      (pss_cons (ps_set (i := 8) scPl.nd rfl (.inl rfl) (pe_lst pa_nil))
      (pss_cons (ps_for PassesOwn.never rfl (pi_list (pe_cal C_law_names (hr.mono (by decide)) (by rfl) (pa_cons (pv 0) (pa_cons (pe_callB call_len_seq (by rfl) T.len (by decide +kernel) (pa_cons (pv 6) pa_nil)) pa_nil)))) (pg_name (i := 9) scPl.nd rfl (.inl rfl))
      (pss_one (ps_expr (pe_bm PySem.F.plainAttrs_list PySem.F.slot_list_append PySem.F.type_list_append mt_append (pv 8) (pa_cons (pe_tup (pa_cons (pv 9) (pa_cons (pe_bm PySem.F.plainAttrs_list PySem.F.slot_list_pop PySem.F.type_list_pop mt_popAt (pv 6) (pa_cons (pe_cal C_law_draw (hr.mono (by decide)) (by rfl) (pa_cons (pv 0) (pa_cons (pe_callB call_len_seq (by rfl) T.len (by decide +kernel) (pa_cons (pv 6) pa_nil)) pa_nil))) pa_nil)) pa_nil))) pa_nil)))))
      (pss_one (ps_ret (pe_callTy (call_tupleF K rfl) (by rfl) T.tuple (by decide +kernel) (pa_cons (pv 8) pa_nil)))))))))), ?_⟩
    refine ⟨_, rfl, s, A, B, c, _, rfl, hS, by omega, by decide, by decide, fun H1 sh hS1 fr1 _ _ => ?_⟩
    have hH1 := hH.fr hS fr1
    obtain ⟨qd, eh1⟩ := hH1.room0
    -- held
    refine ⟨_, rfl, h, _, _, _, rfl, rfl, SqT.of eh1, atI0, n, rfl, by omega, by omega, fun L hL => lc_range (lo := 0) (n := n.toNat) (fun i H' => ∃ ys : List Int, StreamAt H' s A B (c + 1 + i) ∧ Fr s A H1 H' ∧ H' L = some (.lst (vi ys)) ∧ ys.length ≤ i ∧ ∀ y ∈ ys, 0 ≤ y ∧ y < n)
      ⟨[], hS1.same (same_upd hL), Fr.of (same_upd hL), upd_same, Nat.le_refl _, fun y hy => absurd hy List.not_mem_nil⟩ ?_ ?_⟩
    · rintro i H' hi ⟨ys, hS', fr', e', l', p'⟩
      have z := hS1.ne hL
      refine ⟨rfl, tt_by (fun b H3 => StreamAt H3 s A B (c + 1 + (i + 1)) ∧ Fr s A H' H3) ?_ ?_⟩
      · intro Q' hQ'
        refine ⟨_, rfl, rfl, _, rfl, ?_⟩
        refine ite2 (fun _ => ?_) (fun _ => ?_)
        · exact hQ' _ _ ⟨hS'.mono (by omega), Fr.refl⟩
        · refine ⟨_, rfl, s, A, B, c + 1 + i, _, rfl, hS', by omega, by decide, by decide, fun H'' x hS'' fr'' x0 x1 => ⟨_, _, rfl, rfl, _, rfl, ?_⟩⟩
          exact hQ' _ _ ⟨hS'', fr''⟩
      · rintro b H3 ⟨hS3, fr3⟩
        have e3 := fr3 _ _ z.1.symm z.2.1.symm e'
        refine ite2 (fun _ => ?_) (fun _ => ?_)
        · refine ⟨_, rfl, _, e3, ?_, ys ++ [0 + (i : Int)], hS3.put z, (fr'.trans fr3).put hL, ?_, ?_, ?_⟩
          · rw [List.length_map]
            exact small1000 (by omega)
          · rw [upd_same, vi_app]
            rfl
          · rw [List.length_append, List.length_singleton]
            omega
          · intro y hy
            rcases List.mem_append.mp hy with hy | hy
            · exact p' y hy
            · rw [List.mem_singleton.mp hy]
              omega
        · exact ⟨ys, hS3, fr'.trans fr3, e3, by omega, p'⟩
    rintro H2 ⟨ys, hS2, fr2, e2, l2, p2⟩
    have hS2 := hS2.mono (show _ ≤ c + 9 by omega)
    refine ⟨_, rfl, m, rfl, L, _, rfl, SqL.of e2, fun M hM => ?_⟩
    have zM := hS2.ne hM
    obtain ⟨held, eh, ph⟩ := cut_vi ys none (some m)
    have lh : held.length ≤ m.toNat := by
      have := cut_le (vi ys) m0
      rw [eh, List.length_map] at this
      exact this
    have ph : ∀ y ∈ held, 0 ≤ y ∧ y < n := fun y hy => p2 y (ph y hy)
    rw [show cutV (vi ys) none (some m) = vi held from eh]
    clear eh
    have hS3 := hS2.same (same_upd (o := .lst (vi held)) hM)
    have fr3 : Fr s A H (upd H2 M (.lst (vi held))) := (fr1.trans fr2).trans (Fr.of (same_upd hM))
    have e3 : (upd H2 M (.lst (vi held))) M = some (.lst (vi held)) := upd_same
    generalize upd H2 M (.lst (vi held)) = H3 at *
    clear e2 p2 l2 fr2 hS2
    -- spots
    refine ⟨_, rfl, M, _, rfl, .inl (SqL.of e3), fun S hS' => ?_⟩
    have fS := fr3.free hS3 hS'
    have zS := hS3.ne hS'
    have nMS : M ≠ S := ne_of_none e3 hS'
    have hS4 := hS3.same (same_upd (o := .lst (vi held)) hS')
    have fr4 : Fr s A H (upd H3 S (.lst (vi held))) := fr3.trans (Fr.of (same_upd hS'))
    have e4 : (upd H3 S (.lst (vi held))) M = some (.lst (vi held)) := same_upd hS' _ _ e3
    have es4 : (upd H3 S (.lst (vi held))) S = some (.lst (vi held)) := upd_same
    generalize upd H3 S (.lst (vi held)) = H4 at *
    clear hS' hS3 fr3 e3
    dsimp only [gName]
    refine seq_by (fun σ' H' => ∃ (y5 y7 : Option V) (c' : Nat) (spots : List Int), σ' = [some (.ref s), some (.ref h), some (.int m), some (.int sh), some (.ref M), y5, some (.ref S), y7, none, none] ∧ StreamAt H' s A B c' ∧ c' ≤ c + 30 ∧ Fr s A H H' ∧ H' S = some (.lst (vi spots)) ∧ spots.length ≤ m.toNat ∧ ∀ y ∈ spots, 0 ≤ y ∧ y < n) ?_ ?_
    · intro N hN
      refine if_by (fun b H' => ∃ c', StreamAt H' s A B c' ∧ c' ≤ c + 10 ∧ Fr s A H H' ∧ H' S = some (.lst (vi held)) ∧ H' M = some (.lst (vi held)) ∧ (b = true → held ≠ [])) ?_ ?_ ?_
      · rintro H5 ⟨c5, hS5, hc5, fr5, es5, e5, ne⟩
        have ne := ne rfl
        have l0 : 0 < held.length := List.length_pos_iff.mpr ne
        refine ⟨_, rfl, _, rfl, _, rfl, M, _, rfl, .inl (SqL.of e5), _, _, rfl, rfl, _, _, rfl, rfl, s, A, B, c5, _, rfl, hS5, by omega, ?_, ?_, fun H6 x hS6 fr6 x0 x1 => ?_⟩
        · rw [List.length_map]; omega
        · rw [List.length_map]; omega
        rw [List.length_map] at x1
        refine ⟨x, rfl, by omega, by omega, for_range (lo := 0) (n := x.toNat) (fun i σ' H' => ∃ (y7 : Option V) (c' : Nat) (spots : List Int), σ' = [some (.ref s), some (.ref h), some (.int m), some (.int sh), some (.ref M), none, some (.ref S), y7, none, none] ∧ StreamAt H' s A B c' ∧ c' ≤ c5 + 1 + i ∧ Fr s A H H' ∧ H' S = some (.lst (vi spots)) ∧ H' M = some (.lst (vi held)) ∧ spots.length = held.length + i ∧ ∀ y ∈ spots, 0 ≤ y ∧ y < n)
          ⟨_, c5 + 1, held, rfl, hS6, by omega, fr5.trans fr6, fr6 _ _ zS.1.symm zS.2.1.symm es5, fr6 _ _ zM.1.symm zM.2.1.symm e5, rfl, ph⟩ ?_ ?_⟩
        · rintro i σ' H7 hi ⟨y7, c7, spots, rfl, hS7, hc7, fr7, es7, e7, l7, p7⟩
          refine ⟨_, rfl, .inl ⟨rfl, _, SqL.of es7⟩, _, rfl, _, rfl, _, rfl, M, _, rfl, .inl (SqL.of e7), s, A, B, c7, _, rfl, hS7, by omega, ?_, ?_, fun H8 y hS8 fr8 y0 y1 => ?_⟩
          · rw [List.length_map]; omega
          · rw [List.length_map]; omega
          rw [List.length_map] at y1
          obtain ⟨v, hv, ev⟩ := atI_in y0 y1
          have es8 := fr8 _ _ zS.1.symm zS.2.1.symm es7
          refine ⟨M, _, _, _, rfl, rfl, SqL.of (fr8 _ _ zM.1.symm zM.2.1.symm e7), ev, S, _, _, rfl, rfl, es8, ?_, _, c7 + 1, spots ++ [v], rfl, hS8.put zS, by omega, (fr7.trans fr8).put fS, ?_, ?_, ?_, ?_⟩
          · rw [List.length_map]
            exact small1000 (by omega)
          · rw [upd_same, vi_app]
            rfl
          · rw [upd_ne nMS]
            exact fr8 _ _ zM.1.symm zM.2.1.symm e7
          · rw [List.length_append, List.length_singleton]
            omega
          · intro z hz
            rcases List.mem_append.mp hz with hz | hz
            · exact p7 z hz
            · rw [List.mem_singleton.mp hz]
              exact ph v hv
        · rintro σ' H7 ⟨y7, c7, spots, rfl, hS7, hc7, fr7, es7, e7, l7, p7⟩
          exact hN _ _ ⟨_, _, c7, spots, rfl, hS7, by omega, fr7, es7, by omega, p7⟩
      · rintro H5 ⟨c5, hS5, hc5, fr5, es5, e5, ne⟩
        exact hN _ _ ⟨_, _, c5, held, rfl, hS5, by omega, fr5, es5, lh, ph⟩
      · intro Q' hQ'
        refine ⟨_, rfl, Nat.zero_le _, fun e he => ?_⟩
        have sm : Same H4 (upd H4 e (.lst [])) := same_upd he
        have hS5 := hS4.same sm
        have fr5 := fr4.trans (Fr.of sm)
        have e5 := sm _ _ e4
        have es5 := sm _ _ es4
        refine ⟨.list (held.map .int), .list [], .lst (SqL.of e5) (dp_ints held), .lst (SqL.of upd_same) .nil, shaped_list held, shaped_list [], _, rfl, ?_⟩
        rw [eqv_nil]
        generalize upd H4 e (.lst []) = H5 at *
        cases held with
        | nil => exact iteF (hQ' _ _ ⟨c + 9, hS5, by omega, fr5, es5, e5, fun h => nomatch h⟩)
        | cons x0 hr0 =>
          refine iteT ⟨_, rfl, s, A, B, c + 9, _, rfl, hS5, by omega, by decide, by decide, fun H6 x hS6 fr6 x0 x1 => ⟨rfl, _, rfl, ?_⟩⟩
          exact hQ' _ _ ⟨c + 9 + 1, hS6, by omega, fr5.trans fr6, fr6 _ _ zS.1.symm zS.2.1.symm es5, fr6 _ _ zM.1.symm zM.2.1.symm e5, fun _ => List.cons_ne_nil _ _⟩
    clear e4 es4 fr4 hS4
    rintro σ' H5 ⟨y5, y7, c5, spots, rfl, hS5, hc5, fr5, es5, l5, p5⟩
    refine ⟨Nat.zero_le _, fun R hR => ?_⟩
    have zR := hS5.ne hR
    have gR := fr5.free hS5 hR
    have nSR : S ≠ R := ne_of_none es5 hR
    have hS6 := hS5.same (same_upd (o := .lst []) hR)
    have fr6 := fr5.trans (Fr.of (same_upd (o := .lst []) hR))
    have es6 := same_upd (o := .lst []) hR _ _ es5
    have eR6 : (upd H5 R (.lst [])) R = some (.lst []) := upd_same
    generalize upd H5 R (.lst []) = H6 at *
    clear hS5 fr5 es5 hR
    refine ⟨_, rfl, _, rfl, S, _, rfl, .inl (SqL.of es6), s, A, B, c5, _, rfl, hS6, by omega, by omega, ?_, fun H7 NL ns hS7 fr7 hNL eN lN nN nR => ?_⟩
    · rw [List.length_map]; omega
    have zN := hS6.ne hNL
    have gN := fr6.free hS6 hNL
    have nSN : S ≠ NL := ne_of_none es6 hNL
    have nRN : R ≠ NL := ne_of_none eR6 hNL
    rw [List.length_map] at lN
    have lN : ns.length = spots.length := by omega
    refine ⟨NL, rfl, ⟨_, SqL.of eN⟩, for_list (K := K) (a := NL) (xs := ns.map V.str) (fun i σ' H' => ∃ (y9 : Option V) (sp : List Int) (ps : List (Addr × Str × Int)), σ' = [some (.ref s), some (.ref h), some (.int m), some (.int sh), some (.ref M), y5, some (.ref S), y7, some (.ref R), y9] ∧ StreamAt H' s A B (c5 + 10 + i) ∧ Fr s A H H' ∧ H' NL = some (.lst (ns.map V.str)) ∧ H' S = some (.lst (vi sp)) ∧ sp.length + i = ns.length ∧ (∀ y ∈ sp, 0 ≤ y ∧ y < n) ∧
        H' R = some (.lst (ps.map fun q => V.ref q.1)) ∧ (ps.map (·.2.1)) = ns.take i ∧ (∀ q ∈ ps, H' q.1 = some (.tup [.str q.2.1, .int q.2.2])) ∧ ∀ q ∈ ps, 0 ≤ q.2.2 ∧ q.2.2 < n)
      ⟨_, spots, [], rfl, hS7, fr6.trans fr7, eN, fr7 _ _ zS.1.symm zS.2.1.symm es6, by omega, p5, fr7 _ _ zR.1.symm zR.2.1.symm eR6, rfl, fun q hq => absurd hq List.not_mem_nil, fun q hq => absurd hq List.not_mem_nil⟩ ?_ ?_ ?_⟩
    · rintro i σ' H' _ ⟨y9, sp, ps, _, _, _, e', _⟩
      exact SqL.of e'
    · rintro i x σ' H8 hx ⟨y9, sp, ps, rfl, hS8, fr8, eN8, es8, l8, p8, eR8, en8, ep8, pr8⟩
      obtain ⟨nm, hnm, rfl⟩ := get_vs hx
      have hi : i < ns.length := (List.getElem?_eq_some_iff.mp hnm).1
      have hps : ps.length = i := by
        have := congrArg List.length en8
        rw [List.length_map, List.length_take] at this
        omega
      refine ⟨_, rfl, .inl ⟨rfl, _, SqL.of eR8⟩, _, rfl, _, rfl, .inl ⟨rfl, _, SqL.of es8⟩, _, rfl, _, rfl, S, _, rfl, .inl (SqL.of es8), s, A, B, c5 + 10 + i, _, rfl, hS8, by omega, ?_, ?_, fun H9 r hS9 fr9 r0 r1 => ?_⟩
      · rw [List.length_map]; omega
      · rw [List.length_map]; omega
      rw [List.length_map] at r1
      have hj : r.toNat < sp.length := by omega
      have ixr : ixN (vi sp).length r = some r.toNat := by
        unfold ixN
        rw [List.length_map, if_pos r0, if_pos r1]
      have gx : (vi sp)[r.toNat]? = some (V.int sp[r.toNat]) := by
        rw [List.getElem?_map, List.getElem?_eq_getElem hj]
        rfl
      have es9 := fr9 _ _ zS.1.symm zS.2.1.symm es8
      refine ⟨S, _, r, r.toNat, _, rfl, rfl, es9, by omega, by omega, (ixN_seq ixr).1, gx, by show 2 ≤ sizeLine; decide, fun t ht => ?_⟩
      have zt := (hS9.put (o := .lst ((vi sp).eraseIdx r.toNat)) zS).ne ht
      have hS10 := (hS9.put (o := .lst ((vi sp).eraseIdx r.toNat)) zS)
      have fr10 := (fr8.trans fr9).put (o := .lst ((vi sp).eraseIdx r.toNat)) fS
      have eR10 : (upd H9 S (.lst ((vi sp).eraseIdx r.toNat))) R = _ := (upd_ne nSR.symm).trans (fr9 _ _ zR.1.symm zR.2.1.symm eR8)
      have eN10 : (upd H9 S (.lst ((vi sp).eraseIdx r.toNat))) NL = _ := (upd_ne nSN.symm).trans (fr9 _ _ zN.1.symm zN.2.1.symm eN8)
      have es10 : (upd H9 S (.lst ((vi sp).eraseIdx r.toNat))) S = some (.lst (vi (sp.eraseIdx r.toNat))) := by rw [upd_same, vi_erase]
      have ep10 : ∀ q ∈ ps, (upd H9 S (.lst ((vi sp).eraseIdx r.toNat))) q.1 = some (.tup [.str q.2.1, .int q.2.2]) := fun q hq => by
        have := fr9.tup hS8 (ep8 q hq)
        rw [upd_ne (ne_of this es9 (by intro z; cases z))]
        exact this
      generalize upd H9 S (.lst ((vi sp).eraseIdx r.toNat)) = H10 at *
      have sm := same_upd (o := .tup [.str nm, .int sp[r.toNat]]) ht
      have eR11 := sm _ _ eR10
      have et : (upd H10 t (.tup [.str nm, .int sp[r.toNat]])) t = some (.tup [.str nm, .int sp[r.toNat]]) := upd_same
      have ep11 : ∀ q ∈ ps, (upd H10 t (.tup [.str nm, .int sp[r.toNat]])) q.1 = some (.tup [.str q.2.1, .int q.2.2]) := fun q hq => sm _ _ (ep10 q hq)
      have hS11 := hS10.same sm
      have fr11 := fr10.trans (Fr.of sm)
      have es11 := sm _ _ es10
      have eN11 := sm _ _ eN10
      generalize upd H10 t (.tup [.str nm, .int sp[r.toNat]]) = H11 at *
      refine ⟨R, _, _, rfl, rfl, eR11, ?_, _, sp.eraseIdx r.toNat, ps ++ [(t, nm, sp[r.toNat])], rfl, (hS11.put zR), fr11.put gR, ?_, ?_, ?_, ?_, ?_, ?_, ?_, ?_⟩
      · rw [List.length_map]
        exact small1000 (by omega)
      · rw [upd_ne nRN.symm]
        exact eN11
      · rw [upd_ne nSR]
        exact es11
      · rw [List.length_eraseIdx, if_pos hj]
        omega
      · intro y hy
        exact p8 y (List.mem_of_mem_eraseIdx hy)
      · rw [upd_same, List.map_append]
        rfl
      · rw [List.map_append, List.take_add_one, hnm, en8]
        rfl
      · intro q hq
        rcases List.mem_append.mp hq with hq | hq
        · rw [upd_ne (ne_of (ep11 q hq) eR11 (by intro z; cases z))]
          exact ep11 q hq
        · rw [List.mem_singleton.mp hq]
          rw [upd_ne (ne_of et eR11 (by intro z; cases z))]
          exact et
      · intro q hq
        rcases List.mem_append.mp hq with hq | hq
        · exact pr8 q hq
        · rw [List.mem_singleton.mp hq]
          exact p8 _ (List.getElem_mem hj)
    · rintro σ' H8 ⟨y9, sp, ps, rfl, hS8, fr8, eN8, es8, l8, p8, eR8, en8, ep8, pr8⟩
      rw [List.length_map, List.take_length] at en8
      rw [List.length_map] at hS8 l8
      refine ⟨_, rfl, R, _, rfl, SqL.of eR8, fun t ob ht od => ?_⟩
      have sm := same_upd (o := .frz ob (.tup (ps.map fun q => V.ref q.1))) ht
      refine q _ t (ps.map (·.2)) ((hS8.same sm).mono (by omega)) (fr8.trans (Fr.of sm)) ⟨ps, ob, od, upd_same, rfl, fun q hq => sm _ _ (ep8 q hq)⟩ ⟨?_, ?_⟩ ?_ ?_
      · rw [List.map_map]
        show Names (ps.map (·.2.1))
        rw [en8]
        exact nN
      · intro x hx
        obtain ⟨q, hq, rfl⟩ := List.mem_map.mp hx
        exact pr8 q hq
      · have := congrArg List.length en8
        rw [List.length_map] at this
        rw [List.length_map]
        omega
      · rw [List.map_map]
        show S' (ps.map (·.2.1))
        rw [en8]
        exact nR
theorem ok_plR {R : Str → Prop} {f : Addr} {fd : FuncData} (F : Fun K "_law_placement" "_law_placement" sPl f fd) (T : Nm mg) (C_law_draw : Cal P w K mg base 1 "_law_draw" pDraw spDraw) (C_law_names : Cal P w K mg base 2 "_law_names" pDraw (spNamesR R)) : FnOk P w K mg base CX0 3 f fd pPl (spPlR R) :=
  (ok_plS F T C_law_draw C_law_names).imp fun vs H Q E ⟨s, A, B, h, c, n, D, m, e, hS, hc, hH, n0, n1, m0, m1, q⟩ => ⟨s, A, B, h, c, n, D, m, e, hS, hc, hH, n0, n1, m0, m1, fun H' p P a b c d e f => q H' p P a b c d e fun x hx => f x.1 (List.mem_map_of_mem (f := (·.1)) hx)⟩
theorem ok_pl {f : Addr} {fd : FuncData} (F : Fun K "_law_placement" "_law_placement" sPl f fd) (T : Nm mg) (C_law_draw : Cal P w K mg base 1 "_law_draw" pDraw spDraw) (C_law_names : Cal P w K mg base 2 "_law_names" pDraw spNames) : FnOk P w K mg base CX0 3 f fd pPl spPl :=
  (ok_plR (R := fun _ => True) F T C_law_draw (names_all C_law_names fun _ => trivial)).imp fun vs H Q E ⟨s, A, B, h, c, n, D, m, e, hS, hc, hH, n0, n1, m0, m1, q⟩ => ⟨s, A, B, h, c, n, D, m, e, hS, hc, hH, n0, n1, m0, m1, fun H' p P a b c d e _ => q H' p P a b c d e⟩
end
end Fw
namespace Fw
open PySem PySem.Spec PyProof.Rows L2
/-! ### what a walk over a placement needs: tuples stay -/
structure Tk (H H' : Hp) : Prop where
  t : ∀ {b : Addr} {xs : List V}, H b = some (.tup xs) → H' b = some (.tup xs)
  f : ∀ {b : Addr} {o : Obj} {xs : List V}, H b = some (.frz o (.tup xs)) → H' b = some (.frz o (.tup xs))
theorem Tk.refl {H : Hp} : Tk H H := ⟨fun e => e, fun e => e⟩
theorem Tk.of {H H' : Hp} (h : Same H H') : Tk H H' := ⟨fun e => h _ _ e, fun e => h _ _ e⟩
theorem Tk.trans {H H1 H2 : Hp} (a : Tk H H1) (b : Tk H1 H2) : Tk H H2 := ⟨fun e => b.t (a.t e), fun e => b.f (a.f e)⟩
theorem Tk.fr {s A B : Addr} {c : Nat} {H H' : Hp} (f : Fr s A H H') (hS : StreamAt H s A B c) : Tk H H' := ⟨fun e => f.tup hS e, fun e => f.frz hS e⟩
theorem Tk.put {H H' : Hp} (a : Tk H H') {L : Addr} {xs : List V} {o : HO} (h : H' L = some (.lst xs)) : Tk H (upd H' L o) := by
  refine ⟨fun e => ?_, fun e => ?_⟩
  · rw [upd_ne (ne_of (a.t e) h (by intro z; cases z))]
    exact a.t e
  · rw [upd_ne (ne_of (a.f e) h (by intro z; cases z))]
    exact a.f e
theorem Tk.new {H H' : Hp} (a : Tk H H') {L : Addr} {o : HO} (h : H' L = none) : Tk H (upd H' L o) := a.trans (Tk.of (same_upd h))
theorem HouseAt.tk {H H' : Hp} {h : Addr} {n : Int} {D : List (Int × Int)} (x : HouseAt H h n D) (e : Tk H H') : HouseAt H' h n D := by
  obtain ⟨q, ps, h1, h2, h3, h4⟩ := x
  exact ⟨q, ps, e.t h1, e.t h2, h3, fun p hp => e.t (h4 p hp)⟩
theorem TpAt.tk {H H' : Hp} {p : Addr} {xs : List V} (x : TpAt H p xs) (e : Tk H H') : TpAt H' p xs := x.elim (fun h => .inl (e.t h)) fun ⟨o, d, h⟩ => .inr ⟨o, d, e.f h⟩
theorem PlAt.tk {H H' : Hp} {p : Addr} {P : List (Str × Int)} (x : PlAt H p P) (e : Tk H H') : PlAt H' p P := by
  obtain ⟨ps, h1, h2, h3⟩ := x
  exact ⟨ps, h1.tk e, h2, fun q hq => e.t (h3 q hq)⟩
theorem PlD.tk {H H' : Hp} {p : Addr} {P : List (Str × Int)} (x : PlD H p P) (e : Tk H H') : PlD H' p P := by
  obtain ⟨ps, o, d, h1, h2, h3⟩ := x
  exact ⟨ps, o, d, e.f h1, h2, fun q hq => e.t (h3 q hq)⟩
theorem get_pl {ps : List (Addr × Str × Int)} {i : Nat} {x : V} (h : (ps.map fun p => V.ref p.1)[i]? = some x) : ∃ p, ps[i]? = some p ∧ x = .ref p.1 := by
  rw [List.getElem?_map] at h
  cases e : ps[i]? with
  | none => rw [e] at h; cases h
  | some v => rw [e] at h; exact ⟨v, rfl, (Option.some.inj h).symm⟩
/-- a comprehension over a placement -/
theorem lc_pl {K : PySem.W.Frag} {p : Addr} {P : List (Str × Int)} {i j : Nat} {tt : TT} {te : TE} {vs : List Nat} {σ : L2.St} {H1 : Hp} {D : Addr} {Qd : Hp → Prop} (x : PlAt H1 p P) (Pv : Nat → Hp → Prop) (h0 : Pv 0 (upd H1 D (.lst []))) (hl : ∀ k H, Pv k H → Tk H1 H)
    (hs : ∀ k nm r H, P[k]? = some (nm, r) → Pv k H → wipe (((wipe σ vs).set i (some (.str nm))).set j (some (.int r))) vs = wipe σ vs ∧ tt (((wipe σ vs).set i (some (.str nm))).set j (some (.int r))) H fun b H3 =>
      if b = true then te (((wipe σ vs).set i (some (.str nm))).set j (some (.int r))) H3 fun y H4 => ∃ acc, H4 D = some (.lst acc) ∧ acc.length < sizeLine ∧ Pv (k + 1) (upd H4 D (.lst (acc ++ [y]))) else Pv (k + 1) H3) (hd : ∀ H, Pv P.length H → Qd H) :
    ∃ W : Nat → Nat → Hp → Prop, (∃ m, W 0 m (upd H1 D (.lst []))) ∧ ∀ k m H, W k m H →
      ((Itt K p).stop k H ∧ Qd H) ∨ ((Itt K p).go k H ∧ ∃ Nx : Hp → Prop, (∀ H', Nx H' → ∃ m', m' < m ∧ W (k + 1) m' H') ∧ ∀ x H', (Itt K p).yld k H x H' → gTup K 2 (gCons (gName i) (gCons (gName j) gNil)) x (wipe σ vs) H' fun σ2 H2 => wipe σ2 vs = wipe σ vs ∧ tt σ2 H2 fun b H3 =>
        if b = true then te σ2 H3 fun y H4 => ∃ acc, H4 D = some (.lst acc) ∧ acc.length < sizeLine ∧ Nx (upd H4 D (.lst (acc ++ [y]))) else Nx H3) := by
  obtain ⟨ps, h1, rfl, h3⟩ := x
  refine lc_tup (K := K) (a := p) (xs := ps.map fun q => V.ref q.1) Pv h0 (fun i H _ hp => (h1.tk (hl i H hp)).sq) (fun k x H hx hp => ?_) (fun H hp => hd H (by rw [List.length_map] at hp ⊢; exact hp))
  obtain ⟨q, hq, rfl⟩ := get_pl hx
  refine ⟨q.1, _, rfl, SqT.of ((hl k H hp).t (h3 q (List.mem_of_getElem? hq))), rfl, _, _, rfl, _, _, rfl, rfl, ?_⟩
  exact hs k q.2.1 q.2.2 H (by rw [List.getElem?_map, hq]; rfl) hp
/-- a loop over a placement -/
theorem for_pl {K : PySem.W.Frag} {p : Addr} {P : List (Str × Int)} {i j : Nat} {tb : TS} {D : Ends} {σ : L2.St} {H0 H : Hp} (x : PlAt H0 p P) (Pv : Nat → L2.St → Hp → Prop) (h0 : Pv 0 σ H) (hl : ∀ k σ H, Pv k σ H → Tk H0 H)
    (hs : ∀ k nm r σ H, P[k]? = some (nm, r) → Pv k σ H → tb { D with nx := Pv (k + 1), ct := Pv (k + 1), bk := D.nx } ((σ.set i (some (.str nm))).set j (some (.int r))) H) (hd : ∀ σ H, Pv P.length σ H → D.nx σ H) :
    ∃ W : Nat → Nat → L2.St → Hp → Prop, (∃ m, W 0 m σ H) ∧ ∀ k m σ H, W k m σ H →
      ((Itt K p).stop k H ∧ D.nx σ H) ∨ ((Itt K p).go k H ∧ ∃ N : L2.St → Hp → Prop, (∀ σ' H', N σ' H' → ∃ m', m' < m ∧ W (k + 1) m' σ' H') ∧ ∀ x H', (Itt K p).yld k H x H' → gTup K 2 (gCons (gName i) (gCons (gName j) gNil)) x σ H' fun σ2 H2 => tb { D with nx := N, ct := N, bk := D.nx } σ2 H2) := by
  obtain ⟨ps, h1, rfl, h3⟩ := x
  refine for_tup (K := K) (a := p) (xs := ps.map fun q => V.ref q.1) Pv h0 (fun i σ H _ hp => (h1.tk (hl i σ H hp)).sq) (fun k x σ H hx hp => ?_) (fun σ H hp => hd σ H (by rw [List.length_map] at hp ⊢; exact hp))
  obtain ⟨q, hq, rfl⟩ := get_pl hx
  refine ⟨q.1, _, rfl, SqT.of ((hl k σ H hp).t (h3 q (List.mem_of_getElem? hq))), rfl, _, _, rfl, _, _, rfl, rfl, ?_⟩
  exact hs k q.2.1 q.2.2 σ H (by rw [List.getElem?_map, hq]; rfl) hp
theorem PlAt.sq {K : PySem.W.Frag} {H : Hp} {p : Addr} {P : List (Str × Int)} (x : PlAt H p P) : ∃ xs, SqT K H p xs := by
  obtain ⟨ps, h1, _⟩ := x
  exact ⟨_, h1.sq⟩
theorem inV_vi (x : Int) (R : List Int) : inV (.int x) (vi R) = decide (x ∈ R) := by
  unfold inV
  rw [Bool.eq_iff_iff, List.any_eq_true, decide_eq_true_eq]
  constructor
  · rintro ⟨y, hy, e⟩
    obtain ⟨z, hz, rfl⟩ := List.mem_map.mp hy
    have : z = x := by simpa [eqV] using e
    exact this ▸ hz
  · intro h
    exact ⟨.int x, List.mem_map_of_mem h, by simp [eqV]⟩
theorem flat_vi (R : List Int) : (vi R).all flatV = true := by
  rw [List.all_eq_true]
  intro x hx
  obtain ⟨z, _, rfl⟩ := List.mem_map.mp hx
  rfl
theorem take_snoc {α : Type} {xs : List α} {k : Nat} {x : α} (h : xs[k]? = some x) : xs.take (k + 1) = xs.take k ++ [x] := by
  rw [List.take_add_one, h]
  rfl
theorem filter_snoc {α : Type} (f : α → Bool) (xs : List α) (x : α) : (xs ++ [x]).filter f = xs.filter f ++ if f x = true then [x] else [] := by
  rw [List.filter_append]
  congr 1
  by_cases c : f x = true
  · rw [if_pos c, List.filter_cons_of_pos c]
    rfl
  · rw [if_neg c, List.filter_cons_of_neg c]
    rfl
theorem lt_of_get {α : Type} {xs : List α} {k : Nat} {x : α} (h : xs[k]? = some x) : k < xs.length := (List.getElem?_eq_some_iff.mp h).1
theorem sqT_same {K : PySem.W.Frag} {H H' : Hp} {a : Addr} {xs : List V} (e : Same H H') (h : SqT K H a xs) : SqT K H' a xs :=
  h.imp (Or.imp (e a _) fun ⟨o, x⟩ => ⟨o, e a _ x⟩) id
end Fw
namespace Fw
open PySem PySem.Spec PyProof.Rows L2
/-- who is in the rooms R -/
def inside (P : List (Str × Int)) (R : List Int) : List Str := (P.filter fun x => decide (x.2 ∈ R)).map (·.1)
theorem inside_snoc {P : List (Str × Int)} {R : List Int} {k : Nat} {nm : Str} {r : Int} (h : P[k]? = some (nm, r)) : inside (P.take (k + 1)) R = inside (P.take k) R ++ if r ∈ R then [nm] else [] := by
  unfold inside
  rw [take_snoc h, filter_snoc, List.map_append]
  congr 1
  by_cases c : r ∈ R
  · rw [if_pos c, if_pos (by simpa using c)]
    rfl
  · rw [if_neg c, if_neg (by simpa using c)]
    rfl
theorem inside_len (P : List (Str × Int)) (R : List Int) : (inside P R).length ≤ P.length := by
  unfold inside
  rw [List.length_map]
  exact List.length_filter_le _ _
theorem inside_nil {P : List (Str × Int)} {R : List Int} : inside P R = [] ↔ ∀ x ∈ P, x.2 ∉ R := by
  unfold inside
  rw [List.map_eq_nil_iff, List.filter_eq_nil_iff]
  simp
theorem key_uniq {P : List (Str × Int)} (nd : (P.map (·.1)).Nodup) {x y : Str × Int} (hx : x ∈ P) (hy : y ∈ P) (e : x.1 = y.1) : x = y := by
  induction P with
  | nil => cases hx
  | cons z P ih =>
    rw [List.map_cons, List.nodup_cons] at nd
    rcases List.mem_cons.mp hx with h1 | h1 <;> rcases List.mem_cons.mp hy with h2 | h2
    · rw [h1, h2]
    · exact absurd (List.mem_map_of_mem (f := (·.1)) h2) (by rw [← e, h1]; exact nd.1)
    · exact absurd (List.mem_map_of_mem (f := (·.1)) h1) (by rw [e, h2]; exact nd.1)
    · exact ih nd.2 h1 h2
section
variable {P : Program} {w : World} {K : PySem.W.Frag} {mg : Str → Option Value} {base : Heap}
def spPWi (K : PySem.W.Frag) : Sp := fun vs H Q _ => ∃ (p t : Addr) (P : List (Str × Int)) (R : List Int), vs = [.ref p, .ref t] ∧ PlAt H p P ∧ SqT K H t (vi R) ∧ P.length ≤ 100 ∧
  ∀ H' u, Same H H' → H' u = some (.tup ((inside P R).map V.str)) → Q (.ref u) H'
abbrev nPWi : List Str := ["placement", "rooms", "name", "room"]
theorem scPWi : FnScope nPWi ["placement", "rooms"] (defScope sPWi) := ⟨rfl, rfl, rfl, by decide +kernel, rfl, by decide +kernel, by decide +kernel⟩
theorem ok_pwi {f : Addr} {fd : FuncData} {k : Nat} (F : Fun K "people_within" "people_within" sPWi f fd) (T : Nm mg) : FnOk P w K mg base CX0 (k + 1) f fd pPWi (spPWi K) := by
  refine F.ok scPWi (fun vs H Q E h => ?_) (fun cdv A outer s H vs Q E hr h => ?_)
  · obtain ⟨p, t, P, R, rfl, _⟩ := h
    rfl
  · obtain ⟨p, t, P, R, rfl, hP, hR, hl, q⟩ := h
    refine ⟨_, (pss_one (ps_ret (pe_callTy call_tuple_of (by rfl) T.tuple (by decide +kernel) (pa_cons (pe_lc (own := [("name", 2), ("room", 3)]) (g := gTup K 2 (gCons (gName 2) (gCons (gName 3) gNil))) (by rfl) scPWi.nd (pi_tup (pv 0))
 (blkOk_by (own := [("name", 2), ("room", 3)]) (N := nPWi) (sc := defScope sPWi) (by decide +kernel))
 (fun _ _ _ _ _ => (pg_tup (by rfl) (pgs_cons (pg_name (i := 2) scPWi.nd rfl (.inl rfl)) (pgs_cons (pg_name (i := 3) scPWi.nd rfl (.inl rfl)) pgs_nil)))) (fun _ _ _ _ _ => pts_one (pt_cmpR (op_inK K rfl) (pv 3) (pv 1) (by rfl))) (fun _ _ _ _ _ => (pv 2))) pa_nil)))), ?_⟩
    refine ⟨_, rfl, p, rfl, hP.sq, fun L hL => lc_pl hP (fun i H1 => Same H H1 ∧ H1 L = some (.lst ((inside (P.take i) R).map V.str))) ⟨same_upd hL, upd_same⟩ (fun _ _ h => Tk.of h.1) ?_ ?_⟩
    · rintro k nm r H1 hk ⟨s1, e1⟩
      refine ⟨rfl, _, rfl, _, rfl, t, _, rfl, .inr (sqT_same s1 hR), rfl, flat_vi R, _, rfl, ?_⟩
      rw [if_neg (by decide), inV_vi, inside_snoc hk]
      refine ite2 (fun c => ?_) (fun c => ?_)
      · rw [if_pos (of_decide_eq_true c)]
        refine ⟨_, rfl, _, e1, ?_, same_put s1 hL, ?_⟩
        · rw [List.length_map]
          have h1 := inside_len (P.take k) R
          rw [List.length_take] at h1
          exact small1000 (by omega)
        · rw [upd_same, vs_app]
          rfl
      · rw [if_neg (fun z => c (decide_eq_true z)), List.append_nil]
        exact ⟨s1, e1⟩
    · rintro H1 ⟨s1, e1⟩
      rw [List.take_length] at e1
      exact ⟨L, _, rfl, .inl ⟨SqL.of e1, fun t ht => q _ t (s1.trans (same_upd ht)) upd_same⟩⟩
def spPIn : Sp := fun vs H Q _ => ∃ (p : Addr) (P : List (Str × Int)) (r : Int), vs = [.ref p, .int r] ∧ PlAt H p P ∧ P.length ≤ 100 ∧
  ∀ H' u, Same H H' → H' u = some (.tup ((inside P [r]).map V.str)) → Q (.ref u) H'
abbrev nPIn : List Str := ["placement", "room"]
theorem scPIn : FnScope nPIn ["placement", "room"] (defScope sPIn) := ⟨rfl, rfl, rfl, by decide +kernel, rfl, by decide +kernel, by decide +kernel⟩
theorem ok_pin {f : Addr} {fd : FuncData} {k : Nat} (F : Fun K "people_in" "people_in" sPIn f fd) (T : Nm mg) (Cpeople_within : Cal P w K mg base (k + 1) "people_within" pPWi (spPWi K)) : FnOk P w K mg base CX0 (k + 2) f fd pPIn spPIn := by
  refine F.ok scPIn (fun vs H Q E h => ?_) (fun cdv A outer s H vs Q E hr h => ?_)
  · obtain ⟨p, P, r, rfl, _⟩ := h
    rfl
  · obtain ⟨p, P, r, rfl, hP, hl, q⟩ := h
    refine ⟨_, (pss_one (ps_ret (pe_cal Cpeople_within hr (by rfl) (pa_cons (pv 0) (pa_cons (pe_tup (pa_cons (pv 1) pa_nil)) pa_nil))))), ?_⟩
    refine ⟨_, rfl, _, rfl, by show 1 ≤ sizeLine; decide, fun t ht => ⟨p, t, P, [r], rfl, hP.same (same_upd ht), SqT.of upd_same, hl, fun H' u s1 e1 => q _ u ((same_upd ht).trans s1) e1⟩⟩
abbrev nRoomOf : List Str := ["placement", "name", "person", "room"]
theorem scRoomOf : FnScope nRoomOf ["placement", "name"] (defScope sRoomOf) := ⟨rfl, rfl, rfl, by decide +kernel, rfl, by decide +kernel, by decide +kernel⟩
end
end Fw
namespace Fw
open PySem PySem.Spec PyProof.Rows L2
/-! ### a list of pairs (name, room) -/
def LsAt (H : Hp) (l : Addr) (X : List (Str × Int)) : Prop := ∃ ps : List (Addr × Str × Int), H l = some (.lst (ps.map fun q => V.ref q.1)) ∧ X = ps.map (·.2) ∧ ∀ q ∈ ps, H q.1 = some (.tup [.str q.2.1, .int q.2.2])
theorem LsAt.nil {H : Hp} {l : Addr} (h : H l = some (.lst [])) : LsAt H l [] := ⟨[], h, rfl, fun q hq => absurd hq List.not_mem_nil⟩
theorem LsAt.same {H H' : Hp} {l : Addr} {X : List (Str × Int)} (x : LsAt H l X) (e : Same H H') : LsAt H' l X := by
  obtain ⟨ps, h1, h2, h3⟩ := x
  exact ⟨ps, e _ _ h1, h2, fun q hq => e _ _ (h3 q hq)⟩
theorem LsAt.fr {s A B : Addr} {c : Nat} {H H' : Hp} {l : Addr} {X : List (Str × Int)} (x : LsAt H l X) (hS : StreamAt H s A B c) (e : Fr s A H H') (z : s ≠ l ∧ A ≠ l ∧ B ≠ l) : LsAt H' l X := by
  obtain ⟨ps, h1, h2, h3⟩ := x
  exact ⟨ps, e _ _ z.1.symm z.2.1.symm h1, h2, fun q hq => e.tup hS (h3 q hq)⟩
theorem LsAt.snoc {H : Hp} {l t : Addr} {X : List (Str × Int)} {a : Str} {b : Int} (x : LsAt H l X) (ht : H t = some (.tup [.str a, .int b])) : ∃ acc, H l = some (.lst acc) ∧ acc.length = X.length ∧ LsAt (upd H l (.lst (acc ++ [.ref t]))) l (X ++ [(a, b)]) := by
  obtain ⟨ps, h1, h2, h3⟩ := x
  refine ⟨_, h1, by rw [h2, List.length_map, List.length_map], ps ++ [(t, a, b)], ?_, by rw [h2, List.map_append]; rfl, fun q hq => ?_⟩
  · rw [upd_same, List.map_append]
    rfl
  · have : H q.1 = some (.tup [.str q.2.1, .int q.2.2]) := by
      rcases List.mem_append.mp hq with hq | hq
      · exact h3 q hq
      · rw [List.mem_singleton.mp hq]
        exact ht
    rw [upd_ne (ne_of this h1 (by intro z; cases z))]
    exact this
theorem LsAt.tup {H : Hp} {l : Addr} {X : List (Str × Int)} (x : LsAt H l X) : ∃ xs, H l = some (.lst xs) ∧ ∀ (t : Addr) (ob : Obj), H t = none → ob.dict = none → PlD (upd H t (.frz ob (.tup xs))) t X := by
  obtain ⟨ps, h1, h2, h3⟩ := x
  exact ⟨_, h1, fun t ob ht od => ⟨ps, ob, od, upd_same, h2, fun q hq => same_upd ht _ _ (h3 q hq)⟩⟩
/-- the placement after a move -/
def mvd (P : List (Str × Int)) (nm : Str) (r : Int) : List (Str × Int) := P.map fun x => (x.1, if x.1 = nm then r else x.2)
theorem mvd_len (P : List (Str × Int)) (nm : Str) (r : Int) : (mvd P nm r).length = P.length := by unfold mvd; rw [List.length_map]
theorem mvd_names (P : List (Str × Int)) (nm : Str) (r : Int) : (mvd P nm r).map (·.1) = P.map (·.1) := by
  unfold mvd
  rw [List.map_map]
  rfl
theorem mvd_get {P : List (Str × Int)} {nm : Str} {r : Int} {k : Nat} {n' : Str} {r' : Int} (h : P[k]? = some (n', r')) : (mvd P nm r)[k]? = some (n', if n' = nm then r else r') := by
  unfold mvd
  rw [List.getElem?_map, h]
  rfl
theorem Pl.mvd {n : Int} {P : List (Str × Int)} (h : Pl n P) {nm : Str} {r : Int} (h0 : 0 ≤ r) (h1 : r < n) : Pl n (mvd P nm r) := by
  refine ⟨by rw [mvd_names]; exact h.nm, fun x hx => ?_⟩
  obtain ⟨y, hy, rfl⟩ := List.mem_map.mp hx
  show 0 ≤ (if y.1 = nm then r else y.2) ∧ (if y.1 = nm then r else y.2) < n
  split
  · exact ⟨h0, h1⟩
  · exact h.rm y hy
theorem str_dec (a b : Str) : decide (V.str a = V.str b) = decide (a = b) := by
  rw [Bool.eq_iff_iff, decide_eq_true_eq, decide_eq_true_eq]
  exact ⟨V.str.inj, fun e => by rw [e]⟩
theorem k_ii' : kitB "int" "int" = some true := by decide +kernel
theorem k_ib' : kitB "int" "bool" = some false := by decide +kernel
section
variable {P : Program} {w : World} {K : PySem.W.Frag} {mg : Str → Option Value} {base : Heap}
def spLMoved : Sp := fun vs H Q _ => ∃ (p : Addr) (P : List (Str × Int)) (nm : Str) (r : Int), vs = [.ref p, .str nm, .int r] ∧ PlAt H p P ∧ P.length ≤ 100 ∧ ∀ H' u, Same H H' → PlD H' u (mvd P nm r) → Q (.ref u) H'
abbrev nLMoved : List Str := ["_law_placement_here", "_law_name", "_law_room", "_law_one", "_law_here"]
theorem scLMoved : FnScope nLMoved ["_law_placement_here", "_law_name", "_law_room"] (defScope sLMoved) := ⟨rfl, rfl, rfl, by decide +kernel, rfl, by decide +kernel, by decide +kernel⟩
theorem ok_lmoved {f : Addr} {fd : FuncData} {k : Nat} (F : Fun K "_law_moved" "_law_moved" sLMoved f fd) (T : Nm mg) : FnOk P w K mg base CX0 (k + 1) f fd pLMoved spLMoved := by
  refine F.ok scLMoved (fun vs H Q E h => ?_) (fun cdv A outer s H vs Q E hr h => ?_)
  · obtain ⟨p, P, nm, r, rfl, _⟩ := h
    rfl
  · obtain ⟨p, P, nm, r, rfl, hP, hl, q⟩ := h
    refine ⟨_, (pss_one (ps_ret (pe_callTy (call_tupleF K rfl) (by rfl) T.tuple (by decide +kernel) (pa_cons (pe_lc (own := [("_law_one", 3), ("_law_here", 4)]) (g := gTup K 2 (gCons (gName 3) (gCons (gName 4) gNil))) (by rfl) scLMoved.nd (pi_tup (pv 0))
 (blkOk_by (own := [("_law_one", 3), ("_law_here", 4)]) (N := nLMoved) (sc := defScope sLMoved) (by decide +kernel))
 (fun _ _ _ _ _ => (pg_tup (by rfl) (pgs_cons (pg_name (i := 3) scLMoved.nd rfl (.inl rfl)) (pgs_cons (pg_name (i := 4) scLMoved.nd rfl (.inl rfl)) pgs_nil)))) (fun _ _ _ _ _ => pts_nil) (fun _ _ _ _ _ => (pe_tup (pa_cons (pv 3) (pa_cons (pe_ix (ix_listK K rfl) (pe_lst (pa_cons (pv 4) (pa_cons (pv 2) pa_nil))) (pe_callTy call_int1 (by rfl) T.int (by decide +kernel) (pa_cons (pe_cmpR op_eq (pv 3) (pv 1) (nomark _)) pa_nil)) (fun _ _ => rfl)) pa_nil))))) pa_nil)))), ?_⟩
    refine ⟨_, rfl, p, rfl, hP.sq, fun L hL => lc_pl hP (fun i H1 => Same H H1 ∧ LsAt H1 L ((mvd P nm r).take i)) ⟨same_upd hL, .nil upd_same⟩ (fun _ _ h => Tk.of h.1) ?_ ?_⟩
    · rintro k n' r' H1 hk ⟨s1, e1⟩
      refine ⟨rfl, ?_⟩
      unfold tYes
      refine iteT ⟨_, rfl, _, rfl, _, rfl, by show 2 ≤ sizeLine; decide, fun a ha => ⟨_, rfl, _, rfl, rfl, .inr ⟨_, rfl, ?_⟩⟩⟩
      rw [str_dec]
      have ix : atI [V.int r', V.int r] (if decide (n' = nm) = true then 1 else 0) = some (.int (if n' = nm then r else r')) := by
        by_cases c : n' = nm
        · rw [if_pos (decide_eq_true c), if_pos c]
          exact atI1
        · rw [if_neg (by simpa using c), if_neg c]
          exact atI0
      refine ⟨a, _, _, _, rfl, rfl, SqL.of upd_same, ix, by show 2 ≤ sizeLine; decide, fun t ht => ?_⟩
      have sm := (same_upd (o := .lst [V.int r', V.int r]) ha).trans (same_upd (o := .tup [V.str n', V.int (if n' = nm then r else r')]) ht)
      obtain ⟨acc, e2, l2, e3⟩ := (e1.same sm).snoc (t := t) upd_same
      refine ⟨acc, e2, ?_, same_put (s1.trans sm) hL, ?_⟩
      · rw [l2, List.length_take, mvd_len]
        exact small1000 (by omega)
      · rw [take_snoc (mvd_get hk)]
        exact e3
    · rintro H1 ⟨s1, e1⟩
      rw [← mvd_len P nm r, List.take_length] at e1
      obtain ⟨xs, e2, e3⟩ := e1.tup
      exact ⟨L, _, rfl, SqL.of e2, fun t ob ht od => q _ t (s1.trans (same_upd ht)) (e3 t ob ht od)⟩
def spIsIntI : Sp := fun vs H Q _ => ∃ (i : Int), vs = [.int i] ∧ Q (.bl true) H
abbrev nIsInt : List Str := ["value"]
theorem scIsInt : FnScope nIsInt ["value"] (defScope sIsInt) := ⟨rfl, rfl, rfl, by decide +kernel, rfl, by decide +kernel, by decide +kernel⟩
theorem ok_isint {f : Addr} {fd : FuncData} {k : Nat} (F : Fun K "is_integer" "is_integer" sIsInt f fd) (T : Nm mg) : FnOk P w K mg base CX0 (k + 1) f fd pIsInt spIsIntI := by
  refine F.ok scIsInt (fun vs H Q E h => ?_) (fun cdv A outer s H vs Q E hr h => ?_)
  · obtain ⟨i, rfl, _⟩ := h
    rfl
  · obtain ⟨i, rfl, q⟩ := h
    refine ⟨_, (pss_one (ps_ret (pe_and (pe_callB call_isi (by rfl) T.isinstance (by decide +kernel) (pa_cons (pv 0) (pa_cons (pe_bltn (v := .ty "int") (by rfl) T.int (by decide +kernel) rfl) pa_nil))) (pe_one (pe_not (pe_callB call_isi (by rfl) T.isinstance (by decide +kernel) (pa_cons (pv 0) (pa_cons (pe_bltn (v := .ty "bool") (by rfl) T.bool (by decide +kernel) rfl) pa_nil)))))))), ?_⟩
    exact ⟨_, rfl, _, _, _, _, _, rfl, .ty _, .base (.int _), kit_ty k_ii', _, rfl, iteT ⟨_, rfl, _, _, _, _, _, rfl, .ty _, .base (.int _), kit_ty k_ib', _, rfl, q⟩⟩
def spIsRoom : Sp := fun vs H Q _ => ∃ (h : Addr) (n : Int) (D : List (Int × Int)) (i : Int), vs = [.ref h, .int i] ∧ HouseAt H h n D ∧ Q (.bl (decide (0 ≤ i ∧ i < n))) H
abbrev nIsRoom : List Str := ["house", "value"]
theorem scIsRoom : FnScope nIsRoom ["house", "value"] (defScope sIsRoom) := ⟨rfl, rfl, rfl, by decide +kernel, rfl, by decide +kernel, by decide +kernel⟩
theorem ok_isroom {f : Addr} {fd : FuncData} {k : Nat} (F : Fun K "is_room" "is_room" sIsRoom f fd) (T : Nm mg) (Cis_integer : Cal P w K mg base (k + 1) "is_integer" pIsInt spIsIntI) : FnOk P w K mg base CX0 (k + 2) f fd pIsRoom spIsRoom := by
  refine F.ok scIsRoom (fun vs H Q E h => ?_) (fun cdv A outer s H vs Q E hr h => ?_)
  · obtain ⟨h, n, D, i, rfl, _⟩ := h
    rfl
  · obtain ⟨h, n, D, i, rfl, hH, q⟩ := h
    refine ⟨_, (pss_one (ps_ret (pe_and (pe_cal Cis_integer hr (by rfl) (pa_cons (pv 1) pa_nil)) (pe_one (pe_chain op_le op_lt pe_int (pv 1) (pe_ix (ix_tupK K rfl) (pv 0) pe_int (fun _ _ => rfl))))))), ?_⟩
    obtain ⟨qd, eh⟩ := hH.room0
    refine ⟨_, rfl, i, rfl, _, rfl, iteT ⟨_, rfl, _, _, rfl, rfl, _, rfl, ?_⟩⟩
    refine ite2 (fun c => ?_) (fun c => ?_)
    · refine ⟨_, rfl, h, _, _, _, rfl, rfl, SqT.of eh, atI0, _, _, rfl, rfl, ?_⟩
      have c : 0 ≤ i := of_decide_eq_true c
      rw [show decide (0 ≤ i ∧ i < n) = decide (i < n) by simp [c]] at q
      exact q
    · have c : ¬ 0 ≤ i := fun e => c (decide_eq_true e)
      rw [show decide (0 ≤ i ∧ i < n) = false by simp [c]] at q
      exact q
def spWith : Sp := fun vs H Q _ => ∃ (p : Addr) (P : List (Str × Int)) (nm : Str) (r : Int), vs = [.ref p, .str nm, .int r] ∧ PlAt H p P ∧ P.length ≤ 100 ∧ ∀ H' u, Same H H' → PlD H' u (mvd P nm r) → Q (.ref u) H'
abbrev nWith : List Str := ["placement", "name", "room", "person", "other"]
theorem scWith : FnScope nWith ["placement", "name", "room"] (defScope sWith) := ⟨rfl, rfl, rfl, by decide +kernel, rfl, by decide +kernel, by decide +kernel⟩
theorem ok_with {f : Addr} {fd : FuncData} {k : Nat} (F : Fun K "with_person_in" "with_person_in" sWith f fd) (T : Nm mg) : FnOk P w K mg base CX0 (k + 1) f fd pWith spWith := by
  refine F.ok scWith (fun vs H Q E h => ?_) (fun cdv A outer s H vs Q E hr h => ?_)
  · obtain ⟨p, P, nm, r, rfl, _⟩ := h
    rfl
  · obtain ⟨p, P, nm, r, rfl, hP, lP, q⟩ := h
    refine ⟨_, (pss_one (ps_ret (pe_callTy (call_tupleF K rfl) (by rfl) T.tuple (by decide +kernel) (pa_cons (pe_lc (own := [("person", 3), ("other", 4)]) (g := gTup K 2 (gCons (gName 3) (gCons (gName 4) gNil))) (by rfl) scWith.nd (pi_tup (pv 0))
 (blkOk_by (own := [("person", 3), ("other", 4)]) (N := nWith) (sc := defScope sWith) (by decide +kernel))
 (fun _ _ _ _ _ => (pg_tup (by rfl) (pgs_cons (pg_name (i := 3) scWith.nd rfl (.inl rfl)) (pgs_cons (pg_name (i := 4) scWith.nd rfl (.inl rfl)) pgs_nil)))) (fun _ _ _ _ _ => pts_nil) (fun _ _ _ _ _ => (pe_tup (pa_cons (pv 3) (pa_cons (pe_ifExp (pt_cmpR op_eq (pv 3) (pv 1) (nomark _)) (pv 2) (pv 4)) pa_nil))))) pa_nil)))), ?_⟩
    refine ⟨_, rfl, p, rfl, hP.sq, fun L hL => lc_pl hP (fun i H1 => Same H H1 ∧ LsAt H1 L ((mvd P nm r).take i)) ⟨same_upd hL, .nil upd_same⟩ (fun _ _ h => Tk.of h.1) ?_ ?_⟩
    · rintro k n' r' H3 hk ⟨s3, e3⟩
      refine ⟨rfl, ?_⟩
      unfold tYes
      refine iteT ⟨_, rfl, _, rfl, _, rfl, rfl, _, rfl, ?_⟩
      rw [str_dec]
      have go : ∀ (v : Int), v = (if n' = nm then r else r') → ∀ t, H3 t = none → ∃ acc, (upd H3 t (.tup [.str n', .int v])) L = some (.lst acc) ∧ acc.length < sizeLine ∧ Same H (upd (upd H3 t (.tup [.str n', .int v])) L (.lst (acc ++ [.ref t]))) ∧ LsAt (upd (upd H3 t (.tup [.str n', .int v])) L (.lst (acc ++ [.ref t]))) L ((mvd P nm r).take (k + 1)) := by
        rintro v rfl t ht
        have sm := (same_upd (o := .tup [V.str n', V.int (if n' = nm then r else r')]) ht)
        obtain ⟨acc, e4, l4, e5⟩ := (e3.same sm).snoc (t := t) upd_same
        refine ⟨acc, e4, ?_, same_put (s3.trans sm) hL, ?_⟩
        · rw [l4, List.length_take, mvd_len]
          exact small1000 (by omega)
        · rw [take_snoc (mvd_get hk)]
          exact e5
      refine ite2 (fun c => ?_) (fun c => ?_)
      · have c : n' = nm := of_decide_eq_true c
        exact ⟨_, rfl, by show 2 ≤ sizeLine; decide, fun t ht => go r (by rw [if_pos c]) t ht⟩
      · have c : ¬ n' = nm := fun e => c (decide_eq_true e)
        exact ⟨_, rfl, by show 2 ≤ sizeLine; decide, fun t ht => go r' (by rw [if_neg c]) t ht⟩
    · rintro H3 ⟨s3, e3⟩
      rw [← mvd_len P nm r, List.take_length] at e3
      obtain ⟨xs, e4, e5⟩ := e3.tup
      exact ⟨L, _, rfl, SqL.of e4, fun t ob ht od => q _ t (s3.trans (same_upd ht)) (e5 t ob ht od)⟩
abbrev nMove : List Str := ["house", "placement", "name", "room", "current"]
theorem scMove : FnScope nMove ["house", "placement", "name", "room"] (defScope sMove) := ⟨rfl, rfl, rfl, by decide +kernel, rfl, by decide +kernel, by decide +kernel⟩
end
end Fw
namespace Fw
open PySem PySem.Spec PyProof.Rows L2
theorem LsAt.app {H : Hp} {l m : Addr} {X Y : List (Str × Int)} (x : LsAt H l X) (y : LsAt H m Y) : ∃ xs ys, H l = some (.lst xs) ∧ H m = some (.lst ys) ∧ xs.length = X.length ∧ ys.length = Y.length ∧ LsAt (upd H l (.lst (xs ++ ys))) l (X ++ Y) := by
  obtain ⟨ps, h1, h2, h3⟩ := x
  obtain ⟨qs, g1, g2, g3⟩ := y
  refine ⟨_, _, h1, g1, by rw [h2, List.length_map, List.length_map], by rw [g2, List.length_map, List.length_map], ps ++ qs, ?_, by rw [h2, g2, List.map_append], fun q hq => ?_⟩
  · rw [upd_same, List.map_append]
  · have : H q.1 = some (.tup [.str q.2.1, .int q.2.2]) := by
      rcases List.mem_append.mp hq with hq | hq
      · exact h3 q hq
      · exact g3 q hq
    rw [upd_ne (ne_of this h1 (by intro z; cases z))]
    exact this
theorem LsAt.sq {K : PySem.W.Frag} {H : Hp} {l : Addr} {X : List (Str × Int)} (x : LsAt H l X) : ∃ xs, SqL K H l xs ∧ xs.length = X.length := by
  obtain ⟨ps, h1, h2, _⟩ := x
  exact ⟨_, SqL.of h1, by rw [h2, List.length_map, List.length_map]⟩
theorem LsAt.at {K : PySem.W.Frag} {H : Hp} {l : Addr} {X : List (Str × Int)} (x : LsAt H l X) {r : Int} (h0 : 0 ≤ r) (h1 : r < (X.length : Nat)) : ∃ xs t nm v, SqL K H l xs ∧ atI xs r = some (.ref t) ∧ H t = some (.tup [.str nm, .int v]) ∧ (nm, v) ∈ X := by
  obtain ⟨ps, e1, e2, e3⟩ := x
  have hj : r.toNat < ps.length := by rw [e2, List.length_map] at h1; omega
  have hm := List.getElem_mem hj
  refine ⟨_, ps[r.toNat].1, ps[r.toNat].2.1, ps[r.toNat].2.2, SqL.of e1, ?_, e3 _ hm, by rw [e2]; exact List.mem_map_of_mem (f := (·.2)) hm⟩
  have := atI_nat (xs := ps.map fun q => V.ref q.1) (j := r.toNat) (v := V.ref ps[r.toNat].1) (by rw [List.getElem?_map, List.getElem?_eq_getElem hj]; rfl)
  rw [show ((r.toNat : Nat) : Int) = r by omega] at this
  exact this
end Fw
namespace Fw
open PySem PySem.Spec PyProof.Rows L2
/-- what a dict of rooms holds at a room -/
def lk (kvs : List (Key × V)) (v : Int) : Option V := valV kvs (Sum.inl v)
theorem lk_put (kvs : List (Key × V)) (k j : Int) (y : V) : lk (putK kvs (Sum.inl k) y) j = if j = k then some y else lk kvs j := by
  unfold lk
  rw [valV_put]
  by_cases e : j = k
  · rw [if_pos e, if_pos (by rw [e])]
  · rw [if_neg e, if_neg (fun z => e (Sum.inl.inj z))]
def isK (kvs : List (Key × V)) (v : Int) : Bool := (lk kvs v).isSome
theorem isK_put (kvs : List (Key × V)) (k j : Int) (y : V) : isK (putK kvs (Sum.inl k) y) j = (decide (j = k) || isK kvs j) := by
  unfold isK
  rw [lk_put]
  by_cases e : j = k
  · rw [if_pos e, decide_eq_true e]; rfl
  · rw [if_neg e, decide_eq_false e]; rfl
/-- the way from a room along the steps -/
inductive Ch (D : List (Int × Int)) (L : Int → Option V) (g : Int) : Int → List Int → Prop
  | goal : L g = some .non → Ch D L g g [g]
  | step {v u : Int} {p : List Int} : L v = some (.int u) → adj D v u → Ch D L g u p → v ∉ p → Ch D L g v (v :: p)
theorem Ch.mono {D : List (Int × Int)} {L L' : Int → Option V} {g v : Int} {p : List Int} (h : Ch D L g v p) (m : ∀ y x, L y = some x → L' y = some x) : Ch D L' g v p := by
  induction h with
  | goal e => exact .goal (m _ _ e)
  | step e a _ n ih => exact .step (m _ _ e) a ih n
theorem Ch.keys {D : List (Int × Int)} {L : Int → Option V} {g v : Int} {p : List Int} (h : Ch D L g v p) : ∀ y ∈ p, (L y).isSome = true := by
  induction h with
  | goal e =>
    intro y hy
    rw [List.mem_singleton.mp hy, e]
    rfl
  | step e _ _ _ ih =>
    intro y hy
    rcases List.mem_cons.mp hy with rfl | hy
    · rw [e]; rfl
    · exact ih y hy
theorem Ch.sp {D : List (Int × Int)} {L : Int → Option V} {g v : Int} {p : List Int} (h : Ch D L g v p) : SP (adj D) v g p := by
  induction h with
  | goal _ => exact .one _
  | step _ a _ n ih => exact .cons a ih n
/-- the dict of steps, at any time -/
structure SInv (n : Int) (D : List (Int × Int)) (R : List Int) (g : Int) (kvs : List (Key × V)) : Prop where
  goal : lk kvs g = some .non
  way : ∀ v x, lk kvs v = some x → ∃ p, Ch D (lk kvs) g v p
  rng : ∀ v, isK kvs v = true → v = g ∨ v ∈ R
  keys : ∃ ks : List Int, kvs.map (·.1) = ks.map Sum.inl ∧ ks.Nodup ∧ ∀ v, v ∈ ks ↔ isK kvs v = true
  len : kvs.length + left n.toNat (isK kvs) ≤ n.toNat + 1
theorem SInv.start {n g : Int} {D : List (Int × Int)} {R : List Int} : SInv n D R g [(Sum.inl g, V.non)] := by
  have e0 : ∀ v, lk [(Sum.inl g, V.non)] v = if v = g then some .non else none := fun v => by
    unfold lk
    by_cases e : v = g
    · rw [if_pos e, e]; exact valV_pos rfl
    · rw [if_neg e, valV_neg (fun z => e (Sum.inl.inj z).symm)]; rfl
  have e1 : lk [(Sum.inl g, V.non)] g = some .non := by rw [e0, if_pos rfl]
  have e2 : ∀ v, isK [(Sum.inl g, V.non)] v = true → v = g := fun v h => by
    unfold isK at h
    rw [e0] at h
    by_cases e : v = g
    · exact e
    · rw [if_neg e] at h; cases h
  refine ⟨e1, fun v x h => ?_, fun v h => .inl (e2 v h), ⟨[g], rfl, by simp, fun v => ⟨fun h => ?_, fun h => ?_⟩⟩, ?_⟩
  · have : isK [(Sum.inl g, V.non)] v = true := by unfold isK; rw [h]; rfl
    rw [e2 v this]
    exact ⟨[g], .goal e1⟩
  · rw [List.mem_singleton.mp h]; unfold isK; rw [e1]; rfl
  · rw [e2 v h]; simp
  · have := left_le n.toNat (isK [(Sum.inl g, V.non)])
    simp only [List.length_cons, List.length_nil]
    omega
theorem SInv.put {n g o v : Int} {D : List (Int × Int)} {R : List Int} {kvs : List (Key × V)} (S : SInv n D R g kvs) (hv : isK kvs v = true) (ho : isK kvs o = false) (a : adj D v o) (hR : o ∈ R) (h0 : 0 ≤ o) (h1 : o < n) :
    SInv n D R g (putK kvs (Sum.inl o) (.int v)) ∧ left n.toNat (isK (putK kvs (Sum.inl o) (.int v))) < left n.toNat (isK kvs) := by
  have eo : lk kvs o = none := by
    unfold isK at ho
    cases e : lk kvs o with
    | none => rfl
    | some x => rw [e] at ho; cases ho
  have m : ∀ y x, lk kvs y = some x → lk (putK kvs (Sum.inl o) (.int v)) y = some x := fun y x h => by
    rw [lk_put, if_neg (fun e => ?_)]
    · exact h
    · rw [e, eo] at h; cases h
  have hl : left n.toNat (isK (putK kvs (Sum.inl o) (.int v))) < left n.toNat (isK kvs) := by
    refine left_lt (o := o) (fun x hx => ?_) h0 (by omega) ho ?_
    · rw [isK_put, hx, Bool.or_true]
    · rw [isK_put, decide_eq_true rfl, Bool.true_or]
  refine ⟨⟨m _ _ S.goal, fun y x h => ?_, fun y h => ?_, ?_, ?_⟩, hl⟩
  · rw [lk_put] at h
    by_cases e : y = o
    · subst e
      cases hx : lk kvs v with
      | none => unfold isK at hv; rw [hx] at hv; cases hv
      | some z =>
        obtain ⟨p, hp⟩ := S.way v z hx
        refine ⟨y :: p, .step (by rw [lk_put, if_pos rfl]) (adj_symm a) (hp.mono m) fun hm => ?_⟩
        have := hp.keys y hm
        rw [eo] at this
        cases this
    · rw [if_neg e] at h
      obtain ⟨p, hp⟩ := S.way y x h
      exact ⟨p, hp.mono m⟩
  · rw [isK_put, Bool.or_eq_true, decide_eq_true_eq] at h
    rcases h with h | h
    · exact .inr (h ▸ hR)
    · exact S.rng y h
  · obtain ⟨ks, e1, e2, e3⟩ := S.keys
    refine ⟨ks ++ [o], ?_, ?_, fun y => ?_⟩
    · rw [putK_new _ eo, List.map_append, e1, List.map_append]; rfl
    · rw [List.nodup_append]
      refine ⟨e2, by simp, fun x hx y hy e => ?_⟩
      rw [List.mem_singleton.mp hy] at e
      rw [e, e3, ho] at hx
      cases hx
    · rw [List.mem_append, List.mem_singleton, e3, isK_put, Bool.or_eq_true, decide_eq_true_eq]
      exact or_comm
  · have := length_putK kvs (Sum.inl o) (V.int v)
    have := S.len
    omega
theorem inV_ints (x : Int) (R : List Int) : inV (.int x) (vi R) = decide (x ∈ R) := by
  unfold inV
  rw [Bool.eq_iff_iff, List.any_eq_true, decide_eq_true_eq]
  constructor
  · rintro ⟨y, hy, e⟩
    obtain ⟨z, hz, rfl⟩ := List.mem_map.mp hy
    have e : (z == x) = true := e
    rw [beq_iff_eq] at e
    exact e ▸ hz
  · intro h
    exact ⟨.int x, List.mem_map_of_mem h, by show (x == x) = true; simp⟩
theorem flat_ints (R : List Int) : (vi R).all flatV = true := by
  rw [List.all_eq_true]
  intro y hy
  obtain ⟨z, hz, rfl⟩ := List.mem_map.mp hy
  rfl
theorem vi_snoc_last {xs : List Int} {x : Int} : (vi (xs ++ [x]))[(vi (xs ++ [x])).length - 1]? = some (.int x) := by
  rw [vi_app, List.length_append]
  show (vi xs ++ [V.int x])[(vi xs).length + 1 - 1]? = _
  rw [Nat.add_sub_cancel, List.getElem?_append_right (Nat.le_refl _), Nat.sub_self]
  rfl
theorem vi_dropLast {xs : List Int} {x : Int} : (vi (xs ++ [x])).dropLast = vi xs := by
  rw [vi_app]
  show (vi xs ++ [V.int x]).dropLast = _
  rw [List.dropLast_concat]
theorem snoc_cases : ∀ (xs : List Int), xs = [] ∨ ∃ ys y, xs = ys ++ [y]
  | [] => .inl rfl
  | x :: xs => by
    rcases snoc_cases xs with rfl | ⟨ys, y, rfl⟩
    · exact .inr ⟨[], x, rfl⟩
    · exact .inr ⟨x :: ys, y, rfl⟩
section
variable {P : Program} {w : World} {K : PySem.W.Frag} {mg : Str → Option Value} {base : Heap}
/-- what the finished steps are -/
structure SDone (n : Int) (D : List (Int × Int)) (R : List Int) (g : Int) (kvs : List (Key × V)) : Prop where
  inv : SInv n D R g kvs
  closed : ∀ v o, isK kvs v = true → adj D v o → o ∈ R → isK kvs o = true
theorem Same.sqT {K : PySem.W.Frag} {H H' : Hp} {a : Addr} {xs : List V} (e : Same H H') (h : SqT K H a xs) : SqT K H' a xs :=
  h.imp (Or.imp (e a _) fun ⟨o, x⟩ => ⟨o, e a _ x⟩) id
structure SAt (H : Hp) (d wl : Addr) (n : Int) (D : List (Int × Int)) (R : List Int) (g : Int) (kvs : List (Key × V)) (wt : List Int) (H' : Hp) : Prop where
  sm : Same H H'
  ed : H' d = some (.dK kvs)
  ew : H' wl = some (.lst (vi wt))
  inv : SInv n D R g kvs
  wk : ∀ v ∈ wt, isK kvs v = true
  wlen : wt.length + left n.toNat (isK kvs) ≤ n.toNat + 1
theorem SAt.same {H : Hp} {d wl : Addr} {n : Int} {D : List (Int × Int)} {R : List Int} {g : Int} {kvs : List (Key × V)} {wt : List Int} {H1 H2 : Hp} (S : SAt H d wl n D R g kvs wt H1) (e : Same H1 H2) : SAt H d wl n D R g kvs wt H2 :=
  ⟨S.sm.trans e, e _ _ S.ed, e _ _ S.ew, S.inv, S.wk, S.wlen⟩
abbrev nSteps : List Str := ["house", "goal", "rooms", "steps", "waiting", "room", "other"]
theorem scSteps : FnScope nSteps ["house", "goal", "rooms"] (defScope sSteps) := ⟨rfl, rfl, rfl, by decide +kernel, rfl, by decide +kernel, by decide +kernel⟩
end
end Fw
namespace Fw
open PySem PySem.Spec PyProof.Rows L2
theorem HouseAt.top {H : Hp} {h : Addr} {n : Int} {D : List (Int × Int)} (x : HouseAt H h n D) : ∃ q, H h = some (.tup [.int n, .ref q]) := by
  obtain ⟨q, ps, h1, _⟩ := x
  exact ⟨q, h1⟩
/-- a nodup list of rooms below n is no longer than n -/
theorem short {n : Nat} : ∀ {p : List Int}, p.Nodup → (∀ x ∈ p, 0 ≤ x ∧ x < n) → p.length ≤ n := by
  induction n with
  | zero =>
    intro p _ h
    cases p with
    | nil => exact Nat.le_refl _
    | cons x r => have := h x (List.mem_cons_self ..); omega
  | succ n ih =>
    intro p nd h
    have h2 : (p.erase (n : Int)).length ≤ n := by
      refine ih (nd.erase _) fun x hx => ?_
      have hm := List.mem_of_mem_erase hx
      have hne : x ≠ (n : Int) := fun e => by
        subst e
        exact (List.Nodup.not_mem_erase nd) hx
      have := h x hm
      omega
    have h3 : p.length - 1 ≤ (p.erase (n : Int)).length := List.le_length_erase
    omega
theorem SP.all {R : Int → Int → Prop} {S : Int → Prop} (hs : ∀ x y, R x y → S y) {a b : Int} {p : List Int} (h : SP R a b p) (e : S a) : ∀ x ∈ p, S x := by
  induction h with
  | one a =>
    intro x hx
    rw [List.mem_singleton.mp hx]
    exact e
  | cons r _ _ ih =>
    intro x hx
    rcases List.mem_cons.mp hx with rfl | hx
    · exact e
    · exact ih (hs _ _ r) x hx
theorem Forest.short {n a b : Int} {D : List (Int × Int)} (f : Forest n D) (h8 : n ≤ 8) (h0 : 0 ≤ a) (h1 : a < n) {p : List Int} (h : SP (Fw.adj D) a b p) : p.length ≤ 8 := by
  have h2 : p.length ≤ n.toNat := Fw.short h.nodup fun x hx => by
    have := h.all (S := fun x => 0 ≤ x ∧ x < n) (fun x y r => ⟨(f.adj r).2.2.1, (f.adj r).2.2.2⟩) ⟨h0, h1⟩ x hx
    omega
  omega
end Fw
namespace Fw
open PySem PySem.Spec PyProof.Rows L2
section
variable {P : Program} {w : World} {K : PySem.W.Frag} {mg : Str → Option Value} {base : Heap}
abbrev nPath : List Str := ["house", "a", "b", "steps", "path"]
theorem scPath : FnScope nPath ["house", "a", "b"] (defScope sPath) := ⟨rfl, rfl, rfl, by decide +kernel, rfl, by decide +kernel, by decide +kernel⟩
end
end Fw
namespace Fw
open PySem PySem.Spec PyProof.Rows L2 SrtO
/-! ### lists of ints in the order of tuples -/
def lexI : List Int → List Int → Bool
  | [], [] => false
  | [], _ :: _ => true
  | _ :: _, [] => false
  | x :: xs, y :: ys => if x = y then lexI xs ys else decide (x < y)
theorem lexI_asym : ∀ {xs ys : List Int}, lexI xs ys = true → lexI ys xs = false
  | [], [], h => by cases h
  | [], _ :: _, _ => rfl
  | _ :: _, [], h => by cases h
  | x :: xs, y :: ys, h => by
    unfold lexI at h ⊢
    by_cases e : x = y
    · rw [if_pos e] at h
      rw [if_pos e.symm]
      exact lexI_asym h
    · rw [if_neg e, decide_eq_true_eq] at h
      rw [if_neg (fun z => e z.symm)]
      exact decide_eq_false (by omega)
/-! ### the machine's comparison of two tuples of ints -/
end Fw
namespace Fw
open PySem PySem.Spec PyProof.Rows L2
/-- what can be reached from g over rooms of R -/
inductive Wk (D : List (Int × Int)) (R : List Int) (g : Int) : Int → Prop
  | base : Wk D R g g
  | step {v o : Int} : Wk D R g v → adj D v o → o ∈ R → Wk D R g o
section
variable {D : List (Int × Int)} {R : List Int} {g : Int}
theorem Wk.mem {v : Int} (h : Wk D R g v) : v = g ∨ v ∈ R := by
  cases h with
  | base => exact .inl rfl
  | step _ _ m => exact .inr m
theorem Wk.trans {a b c : Int} (h : Wk D R a b) (k : Wk D R b c) : Wk D R a c := by
  induction k with
  | base => exact h
  | step _ r m ih => exact .step ih r m
theorem Wk.symm {v : Int} (hg : g ∈ R) (h : Wk D R g v) : Wk D R v g := by
  induction h with
  | base => exact .base
  | @step v o k r m ih =>
    have mv : v ∈ R := by
      rcases k.mem with e | e
      · rw [e]; exact hg
      · exact e
    exact (Wk.step .base (adj_symm r) mv).trans ih
theorem SDone.wk {n : Int} {kvs : List (Key × V)} (S : SDone n D R g kvs) (v : Int) : isK kvs v = true ↔ Wk D R g v := by
  constructor
  · intro h
    unfold isK at h
    cases e : lk kvs v with
    | none => rw [e] at h; cases h
    | some x =>
      obtain ⟨p, c⟩ := S.inv.way v x e
      clear e h
      induction c with
      | goal _ => exact .base
      | @step v u p e a _ _ ih =>
        rcases S.inv.rng v (by unfold isK; rw [e]; rfl) with e2 | m
        · rw [e2]; exact .base
        · exact .step ih (adj_symm a) m
  · intro h
    induction h with
    | base => unfold isK; rw [S.inv.goal]; rfl
    | step _ r m ih => exact S.closed _ _ ih r m
/-- the component of g, ascending -/
structure IsC (D : List (Int × Int)) (R : List Int) (g : Int) (l : List Int) : Prop where
  up : l.Pairwise (· < ·)
  mem : ∀ v, v ∈ l ↔ Wk D R g v
theorem IsC.one {l l' : List Int} (a : IsC D R g l) (b : IsC D R g l') : l = l' := up_ext a.up b.up fun v => (a.mem v).trans (b.mem v).symm
theorem IsC.of {l ks : List Int} (p : l.Perm ks) (s : l.Pairwise (· ≤ ·)) (n : ks.Nodup) (m : ∀ v, v ∈ ks ↔ Wk D R g v) : IsC D R g l := ⟨up_of s (p.nodup_iff.mpr n), fun v => by rw [p.mem_iff]; exact m v⟩
end
end Fw
namespace Fw
open PySem PySem.Spec PyProof.Rows L2
section
variable {D : List (Int × Int)} {R : List Int}
theorem IsC.has {g : Int} {l : List Int} (h : IsC D R g l) : g ∈ l := (h.mem g).mpr .base
theorem take_succ_mem {R : List Int} {i : Nat} {r x : Int} (e : R[i]? = some r) : x ∈ R.take (i + 1) ↔ x ∈ R.take i ∨ x = r := by
  rw [List.take_add_one, e, List.mem_append]
  simp
end
section
variable {P : Program} {w : World} {K : PySem.W.Frag} {mg : Str → Option Value} {base : Heap}
def refs (Cs : List (Addr × List Int)) : List V := Cs.map fun c => V.ref c.1
def TupsAt (H : Hp) (Cs : List (Addr × List Int)) : Prop := ∀ c ∈ Cs, H c.1 = some (.tup (vi c.2)) ∧ c.2.length ≤ 20
theorem TupsAt.same {H H' : Hp} {Cs : List (Addr × List Int)} (h : TupsAt H Cs) (e : Same H H') : TupsAt H' Cs := fun c hc => ⟨e _ _ (h c hc).1, (h c hc).2⟩
end
end Fw
namespace Fw
open PySem PySem.Spec PyProof.Rows L2
/-- the rooms with people; the rooms without -/
def occ (n : Int) (P : List (Str × Int)) : List Int := (rg n).filter fun r => decide (r ∈ P.map (·.2))
theorem mem_occ {n : Int} {P : List (Str × Int)} {r : Int} : r ∈ occ n P ↔ (0 ≤ r ∧ r < n) ∧ r ∈ P.map (·.2) := by
  unfold occ
  rw [List.mem_filter, mem_rg, decide_eq_true_eq]
/-- the regions of the rooms R -/
structure Regs (D : List (Int × Int)) (R : List Int) (Ls : List (List Int)) : Prop where
  up : Ls.Pairwise (fun x y => lexI x y = true)
  mem : ∀ l, l ∈ Ls ↔ ∃ r ∈ R, IsC D R r l
def RegsAt (H : Hp) (t : Addr) (D : List (Int × Int)) (R : List Int) (Cs : List (Addr × List Int)) : Prop := H t = some (.tup (refs Cs)) ∧ TupsAt H Cs ∧ Cs.length ≤ 8 ∧ Regs D R (Cs.map (·.2))
theorem RegsAt.same {H H' : Hp} {t : Addr} {D : List (Int × Int)} {R : List Int} {Cs : List (Addr × List Int)} (x : RegsAt H t D R Cs) (e : Same H H') : RegsAt H' t D R Cs := ⟨e _ _ x.1, x.2.1.same e, x.2.2⟩
theorem RegsAt.tk {H H' : Hp} {t : Addr} {D : List (Int × Int)} {R : List Int} {Cs : List (Addr × List Int)} (x : RegsAt H t D R Cs) (e : Tk H H') : RegsAt H' t D R Cs := ⟨e.t x.1, fun c hc => ⟨e.t (x.2.1 c hc).1, (x.2.1 c hc).2⟩, x.2.2⟩
theorem Wk.mono {D : List (Int × Int)} {R R' : List Int} {g v : Int} (h : Wk D R g v) (m : ∀ x ∈ R, x ∈ R') : Wk D R' g v := by
  induction h with
  | base => exact .base
  | step _ a o ih => exact .step ih a (m _ o)
theorem IsC.re {D : List (Int × Int)} {R : List Int} {g r : Int} {l : List Int} (h : IsC D R g l) (hg : g ∈ R) (hr : r ∈ l) : IsC D R r l := by
  refine ⟨h.up, fun v => ?_⟩
  have w := (h.mem r).mp hr
  rw [h.mem]
  exact ⟨fun k => (w.symm hg).trans k, fun k => w.trans k⟩
theorem IsC.sub {D : List (Int × Int)} {R : List Int} {g : Int} {l : List Int} (h : IsC D R g l) (hg : g ∈ R) : ∀ x ∈ l, x ∈ R := fun x hx => by
  rcases ((h.mem x).mp hx).mem with e | e
  · rw [e]; exact hg
  · exact e
section
variable {D : List (Int × Int)} {R : List Int} {Ls : List (List Int)}
theorem Regs.has (h : Regs D R Ls) {l : List Int} (hl : l ∈ Ls) {r : Int} (hr : r ∈ l) : r ∈ R ∧ IsC D R r l := by
  obtain ⟨g, hg, hc⟩ := (h.mem l).mp hl
  exact ⟨hc.sub hg r hr, hc.re hg hr⟩
theorem Regs.one (h : Regs D R Ls) {l m : List Int} (hl : l ∈ Ls) (hm : m ∈ Ls) {r : Int} (h1 : r ∈ l) (h2 : r ∈ m) : l = m := (h.has hl h1).2.one (h.has hm h2).2
/-- the list of the component of a room: by what can be reached -/
theorem isC_ex (D : List (Int × Int)) {R : List Int} (upR : R.Pairwise (· < ·)) {r : Int} (hr : r ∈ R) : ∃ l, IsC D R r l := by
  classical
  refine ⟨R.filter fun v => decide (Wk D R r v), upR.filter _, fun v => ?_⟩
  rw [List.mem_filter, decide_eq_true_eq]
  refine ⟨fun h => h.2, fun h => ⟨?_, h⟩⟩
  rcases h.mem with e | e
  · rw [e]; exact hr
  · exact e
theorem Regs.ex (h : Regs D R Ls) (upR : R.Pairwise (· < ·)) {r : Int} (hr : r ∈ R) : ∃ l ∈ Ls, r ∈ l := by
  obtain ⟨l, hl⟩ := isC_ex D upR hr
  exact ⟨l, (h.mem l).mpr ⟨r, hr, hl⟩, hl.has⟩
end
theorem IsC.len {D : List (Int × Int)} {n : Int} {P : List (Str × Int)} {r : Int} {l : List Int} (h : IsC D (occ n P) r l) (hr : r ∈ occ n P) (n1 : n ≤ 8) : l.length ≤ 8 := by
  have h1 : l.length ≤ n.toNat := short (h.up.imp fun {a b} z => by omega) fun x hx => by
    have := (Fw.mem_occ.mp (h.sub hr x hx)).1
    omega
  omega
end Fw
namespace Fw
open PySem PySem.Spec PyProof.Rows L2
section
variable {D : List (Int × Int)} {R : List Int} {Ls : List (List Int)}
theorem up_nodup {l : List Int} (h : l.Pairwise (· < ·)) : l.Nodup := List.nodup_iff_pairwise_ne.mpr (h.imp fun {a b} z => by omega)
theorem lex_irr : ∀ l : List Int, lexI l l = false
  | [] => rfl
  | x :: l => by
    rw [lexI, if_pos rfl]
    exact lex_irr l
theorem lex_ext : ∀ {xs ys : List (List Int)}, xs.Pairwise (fun a b => lexI a b = true) → ys.Pairwise (fun a b => lexI a b = true) → (∀ x, x ∈ xs ↔ x ∈ ys) → xs = ys
  | [], [], _, _, _ => rfl
  | [], y :: ys, _, _, h => absurd ((h y).mpr (List.mem_cons_self ..)) List.not_mem_nil
  | x :: xs, [], _, _, h => absurd ((h x).mp (List.mem_cons_self ..)) List.not_mem_nil
  | x :: xs, y :: ys, hx, hy, h => by
    obtain ⟨hx1, hx2⟩ := List.pairwise_cons.mp hx
    obtain ⟨hy1, hy2⟩ := List.pairwise_cons.mp hy
    have e : x = y := by
      rcases List.mem_cons.mp ((h x).mp (List.mem_cons_self ..)) with e | m
      · exact e
      · rcases List.mem_cons.mp ((h y).mpr (List.mem_cons_self ..)) with e | m'
        · exact e.symm
        · have a := lexI_asym (hy1 x m)
          rw [hx1 y m'] at a
          cases a
    subst e
    rw [lex_ext hx2 hy2 fun z => ?_]
    constructor
    · intro m
      rcases List.mem_cons.mp ((h z).mp (List.mem_cons_of_mem _ m)) with e | m'
      · rw [e] at m
        have a := hx1 x m
        rw [lex_irr] at a
        cases a
      · exact m'
    · intro m
      rcases List.mem_cons.mp ((h z).mpr (List.mem_cons_of_mem _ m)) with e | m'
      · rw [e] at m
        have a := hy1 x m
        rw [lex_irr] at a
        cases a
      · exact m'
theorem Regs.uniq {Ls' : List (List Int)} (h : Regs D R Ls) (k : Regs D R Ls') : Ls = Ls' := lex_ext h.up k.up fun l => (h.mem l).trans (k.mem l).symm
end
end Fw
namespace Fw
open PySem PySem.Spec PyProof.Rows L2
section
variable {P : Program} {w : World} {K : PySem.W.Frag} {mg : Str → Option Value} {base : Heap}
def newp (R fnd : List Int) : Int → Bool := fun o => decide (o ∈ R) && !decide (o ∈ fnd)
/-- what the search keeps -/
structure CAt (D : List (Int × Int)) (R : List Int) (n g : Int) (fnd : List Int) (sp : Nat) : Prop where
  nd : fnd.Nodup
  ok : ∀ v ∈ fnd, Wk D R g v ∧ 0 ≤ v ∧ v < n
  one : g ∈ fnd
  cl : ∀ v ∈ fnd.take sp, ∀ o, adj D v o → o ∈ R → o ∈ fnd
  le : sp ≤ fnd.length
theorem CAt.len {D : List (Int × Int)} {R : List Int} {n g : Int} {fnd : List Int} {sp : Nat} (C : CAt D R n g fnd sp) (h : n ≤ 8) : fnd.length ≤ 8 := by
  have : fnd.length ≤ n.toNat := short C.nd fun x hx => by have := (C.ok x hx).2; omega
  omega
theorem CAt.next {D : List (Int × Int)} {R : List Int} {n g : Int} {fnd : List Int} {sp : Nat} {v : Int} (C : CAt D R n g fnd sp) (hF : Forest n D) (e : fnd[sp]? = some v) : CAt D R n g (fnd ++ (nb n D v).filter (newp R fnd)) (sp + 1) := by
  have hs : sp < fnd.length := (List.getElem?_eq_some_iff.mp e).1
  have mv := List.mem_of_getElem? e
  have mem : ∀ o, o ∈ (nb n D v).filter (newp R fnd) ↔ adj D v o ∧ o ∈ R ∧ o ∉ fnd := fun o => by
    rw [List.mem_filter, hF.mem_nb]
    unfold newp
    simp
  refine ⟨?_, fun x hx => ?_, List.mem_append_left _ C.one, fun x hx o r m => ?_, ?_⟩
  · rw [List.nodup_append]
    refine ⟨C.nd, ((nb_up n D v).imp fun h => by omega).filter _, fun x hx y hy z => ?_⟩
    rw [z] at hx
    exact ((mem y).mp hy).2.2 hx
  · rcases List.mem_append.mp hx with hx | hx
    · exact C.ok x hx
    · obtain ⟨h1, h2, _⟩ := (mem x).mp hx
      exact ⟨.step (C.ok v mv).1 h1 h2, (hF.adj h1).2.2.1, (hF.adj h1).2.2.2⟩
  · rw [List.take_append_of_le_length (by omega)] at hx
    rcases (take_succ_mem e).mp hx with hx | hx
    · exact List.mem_append_left _ (C.cl x hx o r m)
    · rw [hx] at r
      by_cases c : o ∈ fnd
      · exact List.mem_append_left _ c
      · exact List.mem_append_right _ ((mem o).mpr ⟨r, m, c⟩)
  · rw [List.length_append]
    omega
end
end Fw
namespace Fw
open PySem PySem.Spec PyProof.Rows L2
open RZ
/-- the same value, to a depth -/
inductive Eqs (H : Hp) : Nat → V → V → Prop
  | non (k : Nat) : Eqs H k .non .non
  | int (k : Nat) (i : Int) : Eqs H k (.int i) (.int i)
  | bl (k : Nat) (b : Bool) : Eqs H k (.bl b) (.bl b)
  | str (k : Nat) (z : Str) : Eqs H k (.str z) (.str z)
  | tup {k : Nat} {a b : Addr} {xs ys : List V} : TpAt H a xs → TpAt H b ys → xs.length = ys.length → xs.length ≤ 500 → (∀ (i : Nat) x y, xs[i]? = some x → ys[i]? = some y → Eqs H k x y) → Eqs H (k + 1) (.ref a) (.ref b)
theorem Eqs.same {H H' : Hp} {k : Nat} {x y : V} (h : Eqs H k x y) (e : Same H H') : Eqs H' k x y := by
  induction h with
  | non k => exact .non k
  | int k i => exact .int k i
  | bl k i => exact .bl k i
  | str k i => exact .str k i
  | tup h1 h2 h3 h4 _ ih => exact .tup (h1.same e) (h2.same e) h3 h4 ih
theorem Eqs.pl {H : Hp} {k : Nat} {a b : Addr} {P : List (Str × Int)} (h1 : PlAt H a P) (h2 : PlAt H b P) (hl : P.length ≤ 500) : Eqs H (k + 2) (.ref a) (.ref b) := by
  obtain ⟨ps, e1, e2, e3⟩ := h1
  obtain ⟨qs, f1, f2, f3⟩ := h2
  have el : ps.length = qs.length := by
    have := congrArg List.length (e2.symm.trans f2)
    rw [List.length_map, List.length_map] at this
    exact this
  refine .tup e1 f1 (by rw [List.length_map, List.length_map, el]) (by rw [List.length_map]; rw [e2, List.length_map] at hl; exact hl) fun i x y hx hy => ?_
  rw [List.getElem?_map] at hx hy
  cases u : ps[i]? with
  | none => rw [u] at hx; cases hx
  | some p =>
    cases v : qs[i]? with
    | none => rw [v] at hy; cases hy
    | some q =>
      rw [u] at hx
      rw [v] at hy
      cases hx
      cases hy
      have e : p.2 = q.2 := by
        have h1 : P[i]? = some p.2 := by rw [e2, List.getElem?_map, u]; rfl
        have h2 : P[i]? = some q.2 := by rw [f2, List.getElem?_map, v]; rfl
        rw [h1] at h2
        exact Option.some.inj h2
      have g1 := e3 p (List.mem_of_getElem? u)
      have g2 := f3 q (List.mem_of_getElem? v)
      rw [← e] at g2
      refine .tup (.inl g1) (.inl g2) rfl (by show 2 ≤ 500; decide) fun j x y hx hy => ?_
      rw [hx] at hy
      cases hy
      match j, hx with
      | 0, hx => cases hx; exact .str _ _
      | 1, hx => cases hx; exact .int _ _
end Fw
namespace Fw
open PySem PySem.Spec PyProof.Rows L2
/-- data that can be shown -/
structure Sw (b : Nat) (d : PyData) : Prop where
  s : d.showable = true
  n : d.hasDict = false
  p : d.depth ≤ 10
  l : d.leavesShort 13 = true
  k : d.bulk ≤ b
theorem Sw.shows {b : Nat} {d : PyData} (h : Sw b d) (hb : b ≤ 2 ^ 20) : Shows d := ⟨h.s, h.n, Nat.le_trans h.p (by decide), PyData.shown_fits_bulk (B := 13) (by decide) (by decide) h.l (Nat.le_trans h.k hb)⟩
def pp (x : Str × Int) : PyData := .tuple [.str x.1, .int x.2]
def pld (P : List (Str × Int)) : PyData := .tuple (P.map pp)
theorem pps_all {P : List (Str × Int)} (h : ∀ x ∈ P, Nam x.1 ∧ 0 ≤ x.2 ∧ x.2 ≤ 100) : PyData.showableAll (P.map pp) = true ∧ PyData.hasDictAll (P.map pp) = false ∧ PyData.depthAll (P.map pp) ≤ 1 ∧ PyData.leavesShortAll 13 (P.map pp) = true ∧ PyData.bulkAll (P.map pp) ≤ 20 * P.length := by
  induction P with
  | nil => simp [PyData.showableAll, PyData.hasDictAll, PyData.depthAll, PyData.leavesShortAll, PyData.bulkAll]
  | cons x P ih =>
    obtain ⟨i1, i2, i3, i4, i5⟩ := ih fun y hy => h y (List.mem_cons_of_mem _ hy)
    obtain ⟨hn, a0, a1⟩ := h x (List.mem_cons_self ..)
    have s1 := PyData.shown_int_le2 (i := x.2) (by omega) (by omega)
    have sz : x.1.cps.size ≤ 8 := hn.2.1
    have al : (x.1.cps.toList.all fun c => decide (c < 16 ^ 8)) = true := by
      rw [List.all_eq_true]
      intro c hc
      have := hn.2.2 c hc
      exact decide_eq_true (by omega)
    rw [List.map_cons]
    refine ⟨?_, ?_, ?_, ?_, ?_⟩
    · simp only [pp, PyData.showableAll, PyData.showable, i1, Bool.and_true]
      rw [decide_eq_true (log_small a0 a1)]
      rfl
    · simp only [pp, PyData.hasDictAll, PyData.hasDict, i2, Bool.or_false]
    · simp only [pp, PyData.depthAll, PyData.depth]
      omega
    · simp only [pp, PyData.leavesShortAll, PyData.leavesShort, i4, Bool.and_true]
      rw [decide_eq_true s1, al]
      rfl
    · simp only [pp, PyData.bulkAll, PyData.bulk, List.length_cons]
      omega
theorem pld_sw {P : List (Str × Int)} (h : ∀ x ∈ P, Nam x.1 ∧ 0 ≤ x.2 ∧ x.2 ≤ 100) : Sw (20 * P.length) (pld P) := by
  obtain ⟨i1, i2, i3, i4, i5⟩ := pps_all h
  exact ⟨by simp only [pld, PyData.showable, i1], by simp only [pld, PyData.hasDict, i2], by simp only [pld, PyData.depth]; omega, by simp only [pld, PyData.leavesShort, i4], by simp only [pld, PyData.bulk]; exact i5⟩
theorem Pl.sw {n : Int} {P : List (Str × Int)} (h : Pl n P) (hn : n ≤ 8) (lP : P.length ≤ 100) : Sw 2000 (pld P) := by
  have := pld_sw (P := P) fun x hx => ⟨h.nm.nam _ (List.mem_map_of_mem (f := (·.1)) hx), (h.rm x hx).1, by have := (h.rm x hx).2; omega⟩
  exact ⟨this.s, this.n, this.p, this.l, Nat.le_trans this.k (by omega)⟩
theorem hd_sw {n : Int} {D : List (Int × Int)} (f : Forest n D) (n0 : 0 ≤ n) (n1 : n ≤ 8) : Sw 100 (hd n D) := by
  have h : ∀ d ∈ D, 0 ≤ d.1 ∧ d.1 ≤ 100 ∧ 0 ≤ d.2 ∧ d.2 ≤ 100 := fun d hd => by
    have := f.ends (a := d.1) (b := d.2) hd
    omega
  have hl : D.length ≤ 8 := f.len
  obtain ⟨i1, i2⟩ := pds_show h
  have s1 := PyData.shown_int_le2 (i := n) (by omega) (by omega)
  have dp := pd_deep D
  refine ⟨?_, ?_, ?_, ?_, ?_⟩
  · simp only [hd, PyData.showable, PyData.showableAll, Bool.and_true, i1]
    rw [decide_eq_true (log_small n0 (by omega))]
  · simp only [hd, PyData.hasDict, PyData.hasDictAll, Bool.or_false, Bool.false_or]
    exact pds_nodict D
  · simp only [hd, PyData.depth, PyData.depthAll]
    omega
  · simp only [hd, PyData.leavesShort, PyData.leavesShortAll, Bool.and_true, i2]
    rw [decide_eq_true s1]
  · simp only [hd, PyData.bulk, PyData.bulkAll, pds_bulk]
    omega
theorem dp_pps {K : PySem.W.Frag} {H : Hp} : ∀ {ps : List (Addr × Str × Int)}, (∀ p ∈ ps, H p.1 = some (.tup [.str p.2.1, .int p.2.2])) → DpAll K H (ps.map fun p => V.ref p.1) ((ps.map (·.2)).map pp)
  | [], _ => .nil
  | p :: ps, h => .cons (.tup (SqT.of (h p (List.mem_cons_self ..))) (.cons (.str _) (.cons (.int _) .nil))) (dp_pps fun q hq => h q (List.mem_cons_of_mem _ hq))
theorem PlAt.dp {K : PySem.W.Frag} {H : Hp} {p : Addr} {P : List (Str × Int)} (x : PlAt H p P) : Dp K H (.ref p) (pld P) := by
  obtain ⟨ps, h1, h2, h3⟩ := x
  rw [h2]
  exact .tup h1.sq (dp_pps h3)
theorem Pl.nams {n : Int} {P : List (Str × Int)} (h : Pl n P) : ∀ x ∈ P, Nam x.1 := fun x hx => h.nm.nam _ (List.mem_map_of_mem (f := (·.1)) hx)
end Fw
namespace Fw
open PySem PySem.Spec PyProof.Rows L2
/-! sorted of anything that reads as data -/
theorem each_vals : ∀ {zs : List (V × PyData)} {us : List Value}, Vals (zs.map (·.1)) us → PySem.W.EachIs (fun u z => RelV z.1 u) us zs
  | [], _, r => by cases r; exact .nil
  | z :: zs, _, r => by
    cases r with
    | cons r t => exact .cons r (each_vals t)
theorem vals_each : ∀ {us : List Value} {zs : List (V × PyData)}, PySem.W.EachIs (fun u (z : V × PyData) => RelV z.1 u) us zs → Vals (zs.map (·.1)) us
  | _, _, .nil => .nil
  | _, _, .cons r t => .cons r (vals_each t)
theorem each_reads {X : Cx} {pins : List (Addr × Obj)} {σ : L2.St} {H : Hp} {s : Shared} {h' : Heap} (I : Inv X pins σ H s) (k : ∀ b o, s.heap.get? b = some o → h'.get? b = some o) :
    ∀ {us : List Value} {zs : List (V × PyData)}, PySem.W.EachIs (fun u (z : V × PyData) => RelV z.1 u) us zs → (∀ z ∈ zs, Dp X.K H z.1 z.2) → PySem.W.EachIs (fun u (z : V × PyData) => ∃ as, Reads h' u z.2 as) us zs
  | _, [], .nil, _ => .nil
  | _, z :: zs, .cons r t, hd => by
    obtain ⟨as, r2⟩ := Dp.reads I z.2 z.1 _ (hd z (List.mem_cons_self ..)) r
    exact .cons ⟨as, Reads.keeps k r2⟩ (each_reads I k t fun y hy => hd y (List.mem_cons_of_mem _ hy))
/-- the sorted list -/
def srt (zs : List (V × PyData)) : List (V × PyData) := zs.mergeSort (PySem.W.dataLe false (·.2))
def rSortDat (K : PySem.W.Frag) : List V → Hp → VK → Prop := fun vs H Q => ∃ (a : Addr) (zs : List (V × PyData)), vs = [.ref a] ∧ (SqL K H a (zs.map (·.1)) ∨ SqT K H a (zs.map (·.1))) ∧ (∀ z ∈ zs, Dp K H z.1 z.2) ∧
  PySem.W.AllAlike (zs.map (·.2)) ∧ PySem.W.Sortable (zs.map (·.2)) ∧ (∀ z ∈ zs, z.2.depth ≤ 60) ∧ ∀ p, H p = none → Q (.ref p) (upd H p (.lst ((srt zs).map (·.1))))
theorem cr_sortedDat {X : Cx} (K : PySem.W.Frag) (hK : X.K = K) (hu : X.A.units + 64 < cLine) : CallR X (.builtin "sorted") (rSortDat K) := by
  subst hK
  rintro pins s σ H vs us Q I r ⟨a, zs, rfl, hs, hd, al, so, dp, q⟩
  obtain ⟨u, rfl, ru⟩ := vals1 r
  cases (show u = Value.ref a from ru)
  obtain ⟨its, rv, hz, col⟩ : ∃ its : List Value, Vals (zs.map (·.1)) its ∧ its.length ≤ sizeLine ∧ ∀ (G : List Value → Shared → Prop) (E : Value → Shared → Prop),
      (∀ h' : Heap, (∀ b o, s.heap.get? b = some o → h'.get? b = some o) → G its { s with heap := h' }) → wpAny (model X.prog X.w) X.A.in1 (collect (.ref a)) G E s := by
    rcases hs with hs | hs
    · obtain ⟨its, rv, ⟨o, n, ho, hc, _, hd⟩, hz⟩ := I.list hs
      rw [rv.length] at hz
      refine ⟨its, rv, hz, fun G E g => wpAny_collect_seq a (.inl rfl) ho hc hd (fun h' k => ?_) (by rw [List.size_toArray]; exact hz)⟩
      rw [List.toList_toArray]
      exact g h' k
    · obtain ⟨its, rv, ⟨o, ho, hc, n, hd⟩, hz⟩ := I.tuple hs
      rw [rv.length] at hz
      refine ⟨its, rv, hz, fun G E g => wpAny_collect_seq a (.inr rfl) ho hc hd (fun h' k => ?_) (by rw [List.size_toArray]; exact hz)⟩
      rw [List.toList_toArray]
      exact g h' k
  refine Calls.call_function_entry kind_sorted plain_sorted entry_sorted (args_sorted1 _) ?_
  show wpAny (model X.prog X.w) X.A.in1 (Builtin.«sorted» _) _ _ _
  unfold Builtin.«sorted»
  refine wpAny_bind (m := checkCount "sorted" 1 1 _) (wpAny_pure (wpAny_bind (col _ _ fun h' kp => ?_)))
  refine wpAny_bind (wpAny_newList ?_ hz)
  have at0 : (h'.push (seqObj "list" its.toArray 0)).get? h'.objs.size = some (seqObj "list" its.toArray 0) := Heap.get?_push_size _ rfl
  have ee := each_vals rv
  have keep : ∀ b o, s.heap.get? b = some o → (PySem.W.sortingHeap (h'.push (seqObj "list" its.toArray 0)) h'.objs.size its).get? b = some o := fun b o e => by
    have e1 := kp b o e
    have nb : b ≠ h'.objs.size := Nat.ne_of_lt (Heap.lt_size e1)
    exact Heap.get?_push_of_some _ (Heap.get?_push_of_some _ ((Heap.get?_update_ne _ _ _ _ nb).trans (Heap.get?_push_of_some _ e1)))
  have er := each_reads I keep ee hd
  have S := PySem.W.SortsAt.data (prog := X.prog) (w := X.w) (A := X.A.in1.in1) (s := { s with heap := PySem.W.sortingHeap (h'.push (seqObj "list" its.toArray 0)) h'.objs.size its }) (PySem.W.each_map (R := fun v d => ∃ as, Reads (PySem.W.sortingHeap (h'.push (seqObj "list" its.toArray 0)) h'.objs.size its) v d as) (fun z : V × PyData => z.2) er) al so (fun d hd => by
    obtain ⟨z, hz, rfl⟩ := List.mem_map.mp hd
    have := dp z hz
    show X.A.units + 1 + 1 + z.2.depth < cLine
    omega)
  refine wpAny_bind (wpAny_holding (wpAny_call_entry slot_list_sort ⟨_, at0, rfl⟩ entry_list_sort (PySem.W.list_sort_vals at0 S hz ?_) (args_list_sort _)))
  refine ⟨_, rfl, wpAny_pure ⟨_, rfl, ?_⟩⟩
  have out := vals_each (PySem.W.sortVals_data false ee er al)
  generalize hO : PySem.W.sortVals (PySem.W.dataKind (PySem.W.sortingHeap (h'.push (seqObj "list" its.toArray 0)) h'.objs.size its) (zs.map (·.2))) false its its = O at out
  have hO' : PySem.W.sortVals (PySem.W.dataKind (PySem.W.sortingHeap (h'.push (seqObj "list" its.toArray 0)) h'.objs.size its) (zs.map fun x => x.2)) false its its = O := hO
  obtain ⟨e', he'⟩ := sortedHeap_at (vs := its) (out := O.toArray) at0
  have I1 : Inv X pins σ H { s with heap := h' } := I.kept (t' := s.toks) kp
  refine ⟨.ref h'.objs.size, upd H h'.objs.size (.lst ((srt zs).map (·.1))), I1.laid (t' := s.toks) (o := .lst ((srt zs).map (·.1))) (fun b u e => ?_) (Nat.le_refl _) ⟨?_, O, e', out, he'⟩, rfl, q _ (I1.hok.fresh (Nat.le_refl _))⟩
  · have lt := Heap.lt_size e
    rw [sortedHeap_old (Nat.ne_of_lt lt) (by rw [size_push']; exact Nat.lt_succ_of_lt lt)]
    exact Heap.get?_push_of_some _ e
  · have h1 := rv.length
    rw [List.length_map] at h1 ⊢
    unfold srt
    rw [List.length_mergeSort]
    omega
/-! text * number -/
/-! a placement, sorted -/
theorem pp_le {a b : Str × Int} (h : PySem.W.dataLe false pp a b = true) (n : a.1 ≠ b.1) : ltS a.1 b.1 := by
  have h : (!PySem.W.dataLt (pp b) (pp a)) = true := h
  have e : PySem.W.dataLt (pp b) (pp a) = PySem.W.dataLt (.str b.1) (.str a.1) := by
    unfold pp
    rw [PySem.W.dataLt_pair (by simp [PySem.W.alike]) (by simp [PySem.W.alike]), if_neg]
    simp only [PyData.eqv]
    intro z
    exact n (by simpa using z : b.1 = a.1).symm
  rw [e] at h
  have h2 : PySem.W.dataLe false (fun x : Str × Int => .str x.1) a b = true := h
  rw [PySem.W.dataLe_str] at h2
  have h2 : a.1.cps.toList ≤ b.1.cps.toList := of_decide_eq_true h2
  exact ltS_of (Std.not_lt.mpr h2) n
theorem sort_pl {K : PySem.W.Frag} {H : Hp} {c : Addr} {ps : List (Addr × Str × Int)} {Q : VK} (hc : SqL K H c (ps.map fun q => V.ref q.1) ∨ SqT K H c (ps.map fun q => V.ref q.1)) (hp : ∀ q ∈ ps, H q.1 = some (.tup [.str q.2.1, .int q.2.2]))
    (h : ∀ (p : Addr) (qs : List (Addr × Str × Int)), H p = none → qs.Perm ps → qs.Pairwise (fun a b => a.2.1 ≠ b.2.1 → ltS a.2.1 b.2.1) → Q (.ref p) (upd H p (.lst (qs.map fun q => V.ref q.1)))) : rSortDat K [.ref c] H Q := by
  have e1 : (ps.map fun q => (V.ref q.1, pp q.2)).map (·.1) = ps.map fun q => V.ref q.1 := by rw [List.map_map]; rfl
  have e2 : (ps.map fun q => (V.ref q.1, pp q.2)).map (·.2) = ps.map fun q => pp q.2 := by rw [List.map_map]; rfl
  refine ⟨c, ps.map fun q => (V.ref q.1, pp q.2), rfl, by rw [e1]; exact hc, fun z hz => ?_, ?_, ?_, fun z hz => ?_, fun p hn => ?_⟩
  · obtain ⟨q, hq, rfl⟩ := List.mem_map.mp hz
    exact .tup (SqT.of (hp q hq)) (.cons (.str _) (.cons (.int _) .nil))
  · rw [e2]
    exact PySem.W.AllAlike.of (enc := fun q : Addr × Str × Int => pp q.2) fun a b => by simp [pp, PySem.W.alike, PySem.W.alikeAll]
  · rw [e2]
    exact PySem.W.Sortable.tuples (enc := fun q : Addr × Str × Int => pp q.2) fun b => ⟨_, _, rfl⟩
  · obtain ⟨q, hq, rfl⟩ := List.mem_map.mp hz
    simp [pp, PyData.depth, PyData.depthAll]
  · have es : srt (ps.map fun q => (V.ref q.1, pp q.2)) = (ps.mergeSort (PySem.W.dataLe false fun q : Addr × Str × Int => pp q.2)).map fun q => (V.ref q.1, pp q.2) :=
      (PySem.W.sort_maps (f := fun q : Addr × Str × Int => (V.ref q.1, pp q.2)) fun a _ b _ => rfl).symm
    rw [es, List.map_map]
    refine h p _ hn (List.mergeSort_perm _ _) ?_
    have tot : PySem.W.TotalLe (PySem.W.dataLe false fun q : Addr × Str × Int => pp q.2) := PySem.W.sortLe_total (listOrd itemOrd) false fun q : Addr × Str × Int => PySem.W.keyToks (pp q.2)
    exact (PySem.W.sort_pairwise tot ps).imp fun {a b} z n => pp_le (a := a.2) (b := b.2) z n
theorem pl_add {n r : Int} {P P' : List (Str × Int)} {nm : Str} (pl : Pl n P) (hn : Nam nm) (no : nm ∉ P.map (·.1)) (r0 : 0 ≤ r) (r1 : r < n) (pm : P'.Perm (P ++ [(nm, r)])) (so : P'.Pairwise (fun a b => a.1 ≠ b.1 → ltS a.1 b.1)) : Pl n P' := by
  have nd : (P'.map (·.1)).Nodup := by
    rw [(pm.map (·.1)).nodup_iff, List.map_append, List.nodup_append]
    refine ⟨pl.nodup, by simp, fun a ha b hb e => ?_⟩
    rw [List.map_cons, List.map_nil, List.mem_singleton] at hb
    rw [e, hb] at ha
    exact no ha
  refine ⟨⟨fun x hx => ?_, ?_⟩, fun x hx => ?_⟩
  · have := (pm.map (·.1)).mem_iff.mp hx
    rw [List.map_append, List.mem_append] at this
    rcases this with m | m
    · exact pl.nm.nam x m
    · rw [List.map_cons, List.map_nil, List.mem_singleton] at m
      rw [m]
      exact hn
  · rw [List.pairwise_map]
    rw [List.nodup_iff_pairwise_ne, List.pairwise_map] at nd
    exact (so.and nd).imp fun {a b} z => z.1 z.2
  · rcases List.mem_append.mp (pm.mem_iff.mp hx) with m | m
    · exact pl.rm x m
    · rw [List.mem_singleton.mp m]
      exact ⟨r0, r1⟩
end Fw
set_option maxHeartbeats 2000000
namespace Fw
open PySem PySem.Spec PyProof.Rows L2
/-! moves that can be made one after another (math) -/
theorem SP.upto {R : Int → Int → Prop} {a b c : Int} {p : List Int} (h : SP R a b p) : c ∈ p → ∃ q, SP R a c q ∧ ∀ x ∈ q, x ∈ p := by
  induction h with
  | one a =>
    intro m
    rw [List.mem_singleton.mp m]
    exact ⟨_, .one a, fun x hx => hx⟩
  | @cons a c' b p r q n ih =>
    intro m
    rcases List.mem_cons.mp m with e | m
    · rw [e]
      exact ⟨_, .one a, fun x hx => by rw [List.mem_singleton.mp hx]; exact List.mem_cons_self⟩
    · obtain ⟨q', hq, sub⟩ := ih m
      refine ⟨_, .cons r hq fun z => n (sub _ z), fun x hx => ?_⟩
      rcases List.mem_cons.mp hx with e | hx
      · rw [e]; exact List.mem_cons_self
      · exact List.mem_cons_of_mem _ (sub x hx)
/-- a way within -/
theorem Wk.within {D : List (Int × Int)} {U : List Int} {g v : Int} (h : Wk D U g v) : ∃ p, SP (adj D) g v p ∧ ∀ x ∈ p, x = g ∨ x ∈ U := by
  induction h with
  | base => exact ⟨_, .one g, fun x hx => .inl (List.mem_singleton.mp hx)⟩
  | @step v o _ r mo ih =>
    obtain ⟨p, hp, hs⟩ := ih
    by_cases m : o ∈ p
    · obtain ⟨q, hq, sub⟩ := hp.upto m
      exact ⟨q, hq, fun x hx => hs x (sub x hx)⟩
    · refine ⟨_, hp.snoc r m, fun x hx => ?_⟩
      rcases List.mem_append.mp hx with hx | hx
      · exact hs x hx
      · rw [List.mem_singleton.mp hx]
        exact .inr mo
end Fw
set_option maxHeartbeats 2000000
namespace Fw
open PySem PySem.Spec PyProof.Rows L2
/-! a door more between rooms that are not connected (cut out of Dj) -/
theorem Wk.doorsG {D D' : List (Int × Int)} {R : List Int} {a b : Int} (h : Wk D R a b) (m : ∀ x y, adj D x y → adj D' x y) : Wk D' R a b := by
  induction h with
  | base => exact .base
  | step _ r k ih => exact .step ih (m _ _ r) k
def dr (u v : Int) : Int × Int := (min u v, max u v)
theorem dr_comm (u v : Int) : dr u v = dr v u := by unfold dr; rw [Int.min_comm, Int.max_comm]
theorem dr_eq {u w x y : Int} (h : dr u w = dr x y) : (x = u ∧ y = w) ∨ (x = w ∧ y = u) := by
  unfold dr at h
  have h1 := congrArg Prod.fst h
  have h2 := congrArg Prod.snd h
  dsimp only at h1 h2
  omega
theorem dr_of {u w x y : Int} (e : x = min u w ∧ y = max u w) : (x, y) = dr u w := by rw [e.1, e.2]; rfl
theorem adj_dr {E : List (Int × Int)} {u w : Int} (h : dr u w ∈ E) : adj E u w := by
  by_cases e : u ≤ w
  · rw [dr, Int.min_eq_left e, Int.max_eq_right e] at h
    exact .inl h
  · rw [dr, Int.min_eq_right (by omega), Int.max_eq_left (by omega)] at h
    exact .inr h
theorem adj_cons {E : List (Int × Int)} {d : Int × Int} : ∀ a b, adj E a b → adj (d :: E) a b := fun a b h => h.imp (List.mem_cons_of_mem _) (List.mem_cons_of_mem _)
/-- a door is parted by a new room -/
theorem Grown.split {U : List Int} {E : List (Int × Int)} (g : Grown U E) : ∀ {x y v : Int} {E0 : List (Int × Int)}, E.Perm (dr x y :: E0) → v ∉ U → ∃ U' E', Grown U' E' ∧ U'.Perm (v :: U) ∧ E'.Perm (dr x v :: dr v y :: E0) := by
  induction g with
  | nil => exact fun h _ => by have := h.length_eq; simp at this
  | @room U E w g no ih =>
    intro x y v E0 h nv
    obtain ⟨n1, n2⟩ : v ≠ w ∧ v ∉ U := ⟨fun e => nv (by rw [e]; exact List.mem_cons_self), fun m => nv (List.mem_cons_of_mem _ m)⟩
    obtain ⟨U', E', g', pu, pe⟩ := ih h n2
    refine ⟨w :: U', E', .room w g' fun m => ?_, (pu.cons w).trans (List.Perm.swap v w U), pe⟩
    rcases List.mem_cons.mp (pu.mem_iff.mp m) with m | m
    · exact n1 m.symm
    · exact no m
  | @door U E w u a b g no mu e ih =>
    intro x y v E0 h nv
    obtain ⟨n1, n2⟩ : v ≠ w ∧ v ∉ U := ⟨fun e => nv (by rw [e]; exact List.mem_cons_self), fun m => nv (List.mem_cons_of_mem _ m)⟩
    have eab := dr_of e
    by_cases hd : (a, b) = dr x y
    · rw [hd] at h
      have h0 := h.cons_inv
      have g1 : Grown (v :: U) (dr u v :: E) := .door v u _ _ g n2 mu ⟨rfl, rfl⟩
      have g2 : Grown (w :: v :: U) (dr v w :: dr u v :: E) := .door w v _ _ g1 (fun m => (List.mem_cons.mp m).elim (fun z => n1 z.symm) no) List.mem_cons_self ⟨rfl, rfl⟩
      refine ⟨_, _, g2, List.Perm.swap v w U, ?_⟩
      rcases dr_eq (eab.symm.trans hd) with ⟨rfl, rfl⟩ | ⟨rfl, rfl⟩
      · exact (List.Perm.swap _ _ _).trans ((h0.cons _).cons _)
      · rw [dr_comm v x, dr_comm y v]
        exact (h0.cons _).cons _
    · have m : (a, b) ∈ E0 := (List.mem_cons.mp (h.mem_iff.mp List.mem_cons_self)).resolve_left hd
      have p0 := List.perm_cons_erase m
      have h1 : E.Perm (dr x y :: E0.erase (a, b)) := (h.trans ((p0.cons _).trans (List.Perm.swap _ _ _))).cons_inv
      obtain ⟨U', E', g', pu, pe⟩ := ih h1 n2
      refine ⟨w :: U', (a, b) :: E', .door w u a b g' (fun m => ?_) (pu.mem_iff.mpr (List.mem_cons_of_mem _ mu)) e, (pu.cons w).trans (List.Perm.swap v w U), ?_⟩
      · rcases List.mem_cons.mp (pu.mem_iff.mp m) with m | m
        · exact n1 m.symm
        · exact no m
      · refine (pe.cons _).trans ((List.Perm.swap _ _ _).trans (((List.Perm.swap _ _ _).trans (p0.symm.cons _)).cons _))
/-- rooms that are not connected are joined -/
theorem Grown.join {U : List Int} {E : List (Int × Int)} (g : Grown U E) : ∀ {a b : Int}, a ∈ U → b ∈ U → ¬ Wk E U a b → ∃ U' E', Grown U' E' ∧ U'.Perm U ∧ E'.Perm (dr a b :: E) := by
  induction g with
  | nil => exact fun h _ _ => by cases h
  | @room U E w g no ih =>
    intro a b ha hb nw
    rcases List.mem_cons.mp ha with rfl | ha'
    · rcases List.mem_cons.mp hb with rfl | hb'
      · exact absurd .base nw
      · exact ⟨_, _, .door a b _ _ g no hb' ⟨rfl, rfl⟩, .refl _, by rw [dr_comm a b]; exact .refl _⟩
    · rcases List.mem_cons.mp hb with rfl | hb'
      · exact ⟨_, _, .door b a _ _ g no ha' ⟨rfl, rfl⟩, .refl _, .refl _⟩
      · obtain ⟨U', E', g', pu, pe⟩ := ih ha' hb' fun z => nw (z.mono fun x => List.mem_cons_of_mem _)
        exact ⟨w :: U', E', .room w g' fun m => no (pu.mem_iff.mp m), pu.cons w, pe⟩
  | @door U E w u x y g no mu e ih =>
    intro a b ha hb nw
    have exy := dr_of e
    have up : ∀ {s t : Int}, Wk E U s t → Wk ((x, y) :: E) (w :: U) s t := fun z => (z.doorsG adj_cons).mono fun x => List.mem_cons_of_mem _
    have uw : adj ((x, y) :: E) u w := adj_dr (by rw [exy]; exact List.mem_cons_self)
    rcases List.mem_cons.mp ha with rfl | ha'
    · rcases List.mem_cons.mp hb with rfl | hb'
      · exact absurd .base nw
      · have nw' : ¬ Wk E U u b := fun z => nw ((Wk.step .base (adj_symm uw) (List.mem_cons_of_mem _ mu)).trans (up z))
        obtain ⟨U', E', g', pu, pe⟩ := ih mu hb' nw'
        obtain ⟨U2, E2, g2, pu2, pe2⟩ := g'.split (v := a) pe fun m => no (pu.mem_iff.mp m)
        refine ⟨U2, E2, g2, pu2.trans (pu.cons _), pe2.trans ?_⟩
        rw [exy]
        exact List.Perm.swap _ _ _
    · rcases List.mem_cons.mp hb with rfl | hb'
      · have nw' : ¬ Wk E U a u := fun z => nw ((up z).step uw List.mem_cons_self)
        obtain ⟨U', E', g', pu, pe⟩ := ih ha' mu nw'
        obtain ⟨U2, E2, g2, pu2, pe2⟩ := g'.split (v := b) pe fun m => no (pu.mem_iff.mp m)
        refine ⟨U2, E2, g2, pu2.trans (pu.cons _), pe2.trans ?_⟩
        rw [exy, dr_comm b u]
      · obtain ⟨U', E', g', pu, pe⟩ := ih ha' hb' fun z => nw (up z)
        refine ⟨w :: U', (x, y) :: E', .door w u x y g' (fun m => no (pu.mem_iff.mp m)) (pu.mem_iff.mpr mu) e, pu.cons w, (pe.cons _).trans (List.Perm.swap _ _ _)⟩
theorem Forest.more {n : Int} {D D' : List (Int × Int)} {a b : Int} (f : Forest n D) (a0 : 0 ≤ a) (ab : a < b) (bn : b < n) (no : ∀ p, ¬ SP (Fw.adj D) a b p) (pm : D'.Perm (D ++ [(a, b)])) (so : D'.Pairwise fun x y => x ≠ y → Dlt x y) : Forest n D' := by
  obtain ⟨U, E, g, hU, p, l, up⟩ := f
  have nw : ¬ Wk E U a b := fun z => by
    obtain ⟨q, sp, _⟩ := z.within
    rw [← adj_perm p] at sp
    exact no q sp
  obtain ⟨U', E', g', pu, pe⟩ := g.join ((hU a).mpr ⟨a0, by omega⟩) ((hU b).mpr ⟨by omega, bn⟩) nw
  have ed : dr a b = (a, b) := by rw [dr, Int.min_eq_left (by omega), Int.max_eq_right (by omega)]
  rw [ed] at pe
  have pD : D'.Perm E' := pm.trans ((List.perm_append_singleton _ _).trans ((p.cons _).trans pe.symm))
  refine ⟨U', E', g', fun x => by rw [pu.mem_iff, hU], pD, by rw [pu.length_eq]; exact l, ?_⟩
  have nd := pD.nodup_iff.mpr g'.nodup
  rw [List.nodup_iff_pairwise_ne] at nd
  exact (so.and nd).imp fun z => z.1 z.2
/-- rooms without doors -/
theorem grown_rooms : ∀ {U : List Int}, U.Nodup → Grown U []
  | [], _ => .nil
  | v :: U, h => by
    have := List.nodup_cons.mp h
    exact .room v (grown_rooms this.2) this.1
theorem forest_nil {n : Int} (n8 : n ≤ 8) : Forest n [] := by
  refine ⟨rg n, [], grown_rooms (up_nodup (range_up n.toNat)), fun x => mem_rg, List.Perm.refl _, by rw [rg_len]; omega, List.Pairwise.nil⟩
theorem Dlt.trans' {a b c : Int × Int} (h : Dlt a b) (k : Dlt b c) : Dlt a c := by
  unfold Dlt at *
  omega
/-- one door after another -/
theorem forest_step {n : Int} {D : List (Int × Int)} {i : Nat} {a b : Int} (up : D.Pairwise Dlt) (hi : D[i]? = some (a, b)) (f : Forest n (D.take i)) (a0 : 0 ≤ a) (ab : a < b) (bn : b < n) (no : ∀ p, ¬ SP (Fw.adj (D.take i)) a b p) : Forest n (D.take (i + 1)) := by
  have e : D.take (i + 1) = D.take i ++ [(a, b)] := by rw [List.take_add_one, hi]; rfl
  exact f.more a0 ab bn no (by rw [e]) ((up.sublist (List.take_sublist _ _)).imp fun {x y} (h : Dlt x y) (_ : x ≠ y) => h)
theorem forest_way {n : Int} {D : List (Int × Int)} {i : Nat} {a b : Int} {p : List Int} (hi : D[i]? = some (a, b)) (sp : SP (Fw.adj (D.take i)) a b p) : ¬ Forest n D := fun f => by
  have m := List.mem_of_getElem? hi
  have ab := (f.ends m).2.1
  have s1 : SP (Fw.adj D) a b p := sp.map fun x y _ _ h => h.imp List.mem_of_mem_take List.mem_of_mem_take
  have s2 : SP (Fw.adj D) a b [a, b] := .cons (.inl m) (.one b) (by simp; omega)
  have e := f.uniq a b p [a, b] s1 s2
  subst e
  cases sp with
  | cons r q _ =>
    have hc := q.head
    rw [List.mem_singleton] at hc
    subst hc
    rcases r with r | r
    · obtain ⟨j, hj, ej⟩ := List.mem_iff_getElem.mp r
      rw [List.length_take] at hj
      rw [List.getElem_take] at ej
      have il : i < D.length := (List.getElem?_eq_some_iff.mp hi).1
      have ei := (List.getElem?_eq_some_iff.mp hi).2
      have := (List.getElem_inj (h₀ := (by omega : j < D.length)) (h₁ := il) f.nodup).mp (ej.trans ei.symm)
      omega
    · have := (f.ends (List.mem_of_mem_take r)).2.1
      omega
end Fw
namespace Fw
open PySem PySem.Spec PyProof.Rows L2
/-! a house whose tuples stand in memory in any manner (out of C, D, E, Y) -/
def HouseQ (K : PySem.W.Frag) (H : Hp) (h : Addr) (n : Int) (D : List (Int × Int)) : Prop := ∃ (q : Addr) (ps : List (Addr × Int × Int)),
  SqT K H h [.int n, .ref q] ∧ SqT K H q (ps.map fun p => V.ref p.1) ∧ D = ps.map (·.2) ∧ ∀ p ∈ ps, SqT K H p.1 [.int p.2.1, .int p.2.2]
theorem HouseAt.q {K : PySem.W.Frag} {H : Hp} {h : Addr} {n : Int} {D : List (Int × Int)} (x : HouseAt H h n D) : HouseQ K H h n D := by
  obtain ⟨q, ps, h1, h2, h3, h4⟩ := x
  exact ⟨q, ps, SqT.of h1, SqT.of h2, h3, fun p hp => SqT.of (h4 p hp)⟩
theorem HouseQ.same {K : PySem.W.Frag} {H H' : Hp} {h : Addr} {n : Int} {D : List (Int × Int)} (x : HouseQ K H h n D) (e : Same H H') : HouseQ K H' h n D := by
  obtain ⟨q, ps, h1, h2, h3, h4⟩ := x
  exact ⟨q, ps, sqT_same e h1, sqT_same e h2, h3, fun p hp => sqT_same e (h4 p hp)⟩
theorem HouseQ.top {K : PySem.W.Frag} {H : Hp} {h : Addr} {n : Int} {D : List (Int × Int)} (x : HouseQ K H h n D) : ∃ q, SqT K H h [.int n, .ref q] := by
  obtain ⟨q, ps, h1, _⟩ := x
  exact ⟨q, h1⟩
section
variable {P : Program} {w : World} {K : PySem.W.Frag} {mg : Str → Option Value} {base : Heap}
def spNbQ (K : PySem.W.Frag) : Sp := fun vs H Q _ => ∃ (h : Addr) (n : Int) (D : List (Int × Int)) (r : Int), vs = [.ref h, .int r] ∧ HouseQ K H h n D ∧ Forest n D ∧
  ∀ H' t, Same H H' → H' t = some (.tup (vi (nb n D r))) → Q (.ref t) H'
theorem ok_nbQ {f : Addr} {fd : FuncData} {k : Nat} (F : Fun K "neighbors" "neighbors" sNb f fd) (T : Nm mg) : FnOk P w K mg base CX0 (k + 1) f fd ["house", "room"] (spNbQ K) := by
  refine F.ok scNb (fun vs H Q E h => ?_) (fun cdv A outer s H vs Q E hr h => ?_)
  · obtain ⟨h, n, D, r, rfl, _⟩ := h
    rfl
  · obtain ⟨h, n, D, r, rfl, ⟨q0, ps, h1, h2, h3, h4⟩, hF, q⟩ := h
    refine ⟨_, pss_cons (ps_set (i := 2) scNb.nd rfl (.inl rfl) (pe_ix ix_tup (pv 0) pe_int (fun _ _ => rfl)))
      (pss_one (ps_ret (pe_callTy call_tuple_of (by rfl) T.tuple (by decide +kernel) (pa_cons (pe_op op_cat
        (pe_lc (own := [("a", 3), ("b", 4)]) (g := gAB K) (by rfl) scNb.nd (pi_tup (pv 2))
          (blkOk_by (own := [("a", 3), ("b", 4)]) (N := nNb) (sc := defScope sNb) (by decide +kernel))
          (fun _ _ _ _ _ => pg_tup (by rfl) (pgs_cons (pg_name (i := 3) scNb.nd rfl (Or.inl rfl)) (pgs_cons (pg_name (i := 4) scNb.nd rfl (Or.inl rfl)) pgs_nil)))
          (fun _ _ _ _ _ => pts_one (pt_cmpR op_eq (pv 4) (pv 1) (nomark _)))
          (fun _ _ _ _ _ => pv 3))
        (pe_lc (own := [("a", 3), ("b", 4)]) (g := gAB K) (by rfl) scNb.nd (pi_tup (pv 2))
          (blkOk_by (own := [("a", 3), ("b", 4)]) (N := nNb) (sc := defScope sNb) (by decide +kernel))
          (fun _ _ _ _ _ => pg_tup (by rfl) (pgs_cons (pg_name (i := 3) scNb.nd rfl (Or.inl rfl)) (pgs_cons (pg_name (i := 4) scNb.nd rfl (Or.inl rfl)) pgs_nil)))
          (fun _ _ _ _ _ => pts_one (pt_cmpR op_eq (pv 3) (pv 1) (nomark _)))
          (fun _ _ _ _ _ => pv 4))) pa_nil)))), ?_⟩
    have el := hF.len
    have eD : D.take (ps.map fun p => V.ref p.1).length = D := by
      rw [h3, List.length_map, ← List.length_map (f := fun x : Addr × Int × Int => x.2), List.take_length]
    refine ⟨_, rfl, h, _, _, _, rfl, rfl, h1, atI1, ?_⟩
    refine ⟨_, rfl, q0, rfl, ⟨_, h2⟩, fun L hL => lc_tup (K := K) (a := q0) (xs := ps.map fun p => V.ref p.1) (fun i H1 => Same H H1 ∧ H1 L = some (.lst (vi (ins (D.take i) r))))
      ⟨same_upd hL, upd_same⟩ (fun i H1 _ hh => (sqT_same hh.1 h2)) ?_ ?_⟩
    · rintro i x H1 hx ⟨s1, e1⟩
      obtain ⟨p, hp, rfl⟩ := get_ref hx
      have ed : D[i]? = some p.2 := by rw [h3, List.getElem?_map, hp]; rfl
      refine ⟨p.1, _, rfl, sqT_same s1 (h4 p (List.mem_of_getElem? hp)), rfl, _, _, rfl, _, _, rfl, rfl, rfl, _, rfl, _, rfl, rfl, _, rfl, ?_⟩
      refine ite2 (fun c => ?_) (fun c => ?_)
      · have c : p.2.2 = r := V.int.inj (of_decide_eq_true c)
        refine ⟨_, rfl, _, e1, ?_, same_put s1 hL, ?_⟩
        · rw [List.length_map]
          exact small1000 (Nat.le_trans (ins_len _ _) (by rw [List.length_take]; omega))
        · rw [upd_same, ins_succ ed, if_pos c, vi_app]
          rfl
      · have c : ¬ p.2.2 = r := fun e => c (decide_eq_true (by rw [e]))
        refine ⟨s1, ?_⟩
        rw [ins_succ ed, if_neg c, List.append_nil]
        exact e1
    · rintro H1 ⟨s1, e1⟩
      rw [eD] at e1
      refine ⟨_, rfl, q0, rfl, ⟨_, (sqT_same s1 h2)⟩, fun M hM => lc_tup (K := K) (a := q0) (xs := ps.map fun p => V.ref p.1) (fun i H2 => Same H1 H2 ∧ H2 M = some (.lst (vi (outs (D.take i) r))))
        ⟨same_upd hM, upd_same⟩ (fun i H2 _ hh => sqT_same hh.1 (sqT_same s1 h2)) ?_ ?_⟩
      · rintro i x H2 hx ⟨s2, e2⟩
        obtain ⟨p, hp, rfl⟩ := get_ref hx
        have ed : D[i]? = some p.2 := by rw [h3, List.getElem?_map, hp]; rfl
        refine ⟨p.1, _, rfl, sqT_same s2 (sqT_same s1 (h4 p (List.mem_of_getElem? hp))), rfl, _, _, rfl, _, _, rfl, rfl, rfl, _, rfl, _, rfl, rfl, _, rfl, ?_⟩
        refine ite2 (fun c => ?_) (fun c => ?_)
        · have c : p.2.1 = r := V.int.inj (of_decide_eq_true c)
          refine ⟨_, rfl, _, e2, ?_, same_put s2 hM, ?_⟩
          · rw [List.length_map]
            exact small1000 (Nat.le_trans (outs_len _ _) (by rw [List.length_take]; omega))
          · rw [upd_same, outs_succ ed, if_pos c, vi_app]
            rfl
        · have c : ¬ p.2.1 = r := fun e => c (decide_eq_true (by rw [e]))
          refine ⟨s2, ?_⟩
          rw [outs_succ ed, if_neg c, List.append_nil]
          exact e2
      · rintro H2 ⟨s2, e2⟩
        rw [eD] at e2
        refine ⟨L, M, _, _, rfl, rfl, s2 _ _ e1, e2, ?_, fun N hN => ?_⟩
        · rw [List.length_map, List.length_map]
          have h1 := outs_len D r
          have h2 := ins_len D r
          exact Nat.le_of_lt (small1000 (by omega))
        rw [← vi_app, hF.nb_eq r]
        refine ⟨N, _, rfl, .inl ⟨SqL.of upd_same, fun t ht => q _ t ?_ upd_same⟩⟩
        exact ((s1.trans s2).trans (same_upd hN)).trans (same_upd ht)
def spStepsQ (K : PySem.W.Frag) : Sp := fun vs H Q _ => ∃ (h rl : Addr) (n : Int) (D : List (Int × Int)) (g : Int) (R : List Int), vs = [.ref h, .int g, .ref rl] ∧ HouseQ K H h n D ∧ Forest n D ∧ 0 ≤ n ∧ n ≤ 8 ∧
  (SqL K H rl (vi R) ∨ SqT K H rl (vi R)) ∧ ∀ H' d kvs, Same H H' → H d = none → H' d = some (.dK kvs) → SDone n D R g kvs → Q (.ref d) H'
theorem ok_stepsQ {f fN : Addr} {fd fdN : FuncData} (F : Fun K "steps_toward" "steps_toward" sSteps f fd) (T : Nm mg) (DN : Def K mg "neighbors" sNb fN fdN ["house", "room"]) : FnOk P w K mg base CX0 2 f fd ["house", "goal", "rooms"] (spStepsQ K) := by
  have GN : FnOk P w K mg base CX0 1 fN fdN ["house", "room"] (spNbQ K) := ok_nbQ DN.F T
  refine F.ok scSteps (fun vs H Q E h => ?_) (fun cdv A outer s H vs Q E hr h => ?_)
  · obtain ⟨h, rl, n, D, g, R, rfl, _⟩ := h
    rfl
  · obtain ⟨h, rl, n, D, g, R, rfl, hH, hF, hn0, hn1, hR, q⟩ := h
    have hu := hu_of hr
    refine ⟨_, pss_cons (ps_set (i := 3) scSteps.nd rfl (.inl rfl) (pe_disp (pps_cons (pv 1) pe_non pps_nil) (by rfl) (by rfl) (fun z => by cases z) (by decide)))
      (pss_cons (ps_set (i := 4) scSteps.nd rfl (.inl rfl) (pe_lst (pa_cons (pv 1) pa_nil)))
      (pss_cons (ps_while PassesOwn.never (pt_truth (pv 4) (by intro _; rfl))
        (pss_cons (ps_set (i := 5) scSteps.nd rfl (.inl rfl) (pe_bm0 PySem.F.plainAttrs_list PySem.F.slot_list_pop PySem.F.type_list_pop mt_pop (pv 4)))
        (pss_one (ps_for PassesOwn.never rfl (pi_tup (pe_call GN hr (by rfl) DN.g DN.F.kp DN.b .nil pass0 (pa_cons (pv 0) (pa_cons (pv 5) pa_nil)))) (pg_name (i := 6) scSteps.nd rfl (Or.inl rfl))
          (pss_one (ps_if (PW.pt (pw_and (pt_cmpR op_in_seq (pv 6) (pv 2) (by rfl)) (pw_and1 (pt_cmp (pc_dnotin hu (pv 6) (pv 3))))))
            (pss_cons (ps_dput hu (pv 3) (pv 6) (pv 5) rfl)
            (pss_one (ps_expr (pe_bm PySem.F.plainAttrs_list PySem.F.slot_list_append PySem.F.type_list_append mt_append (pv 4) (pa_cons (pv 6) pa_nil)))))
            pss_nil))))))
      (pss_one (ps_ret (pv 3))))), ?_⟩
    refine fun d hd => ⟨_, rfl, upd_same, [(Sum.inl g, .non)], rfl, by show 1 ≤ 15; decide, ?_⟩
    rw [upd_upd]
    refine ⟨_, rfl, by show 1 ≤ sizeLine; decide, fun wl hw => ?_⟩
    have ed0 : (upd H d (.dK (mergeK [] [(Sum.inl g, V.non)]))) d = some (.dK [(Sum.inl g, V.non)]) := upd_same
    have nwd : d ≠ wl := ne_of_none ed0 hw
    have gw : H wl = none := (same_upd hd).free hw
    have clos0 : ∀ v o, isK [(Sum.inl g, V.non)] v = true → v ∉ [g] → adj D v o → o ∈ R → isK [(Sum.inl g, V.non)] o = true := fun v o hv hn _ _ => by
      obtain ⟨ks, e1, _, e3⟩ := (SInv.start (n := n) (D := D) (R := R) (g := g)).keys
      have e4 : ks = [g] := by
        cases ks with
        | nil => cases e1
        | cons k r =>
          cases r with
          | nil =>
            injection e1 with e1 _
            rw [← Sum.inl.inj e1]
          | cons k2 r =>
            injection e1 with _ e1
            cases e1
      rw [e4] at e3
      exact absurd ((e3 v).mpr hv) hn
    refine ⟨fun m σ H' => ∃ (kvs : List (Key × V)) (wt : List Int) (y5 y6 : Option V), σ = [some (.ref h), some (.int g), some (.ref rl), some (.ref d), some (.ref wl), y5, y6] ∧ SAt H d wl n D R g kvs wt H' ∧
        (∀ v o, isK kvs v = true → v ∉ wt → adj D v o → o ∈ R → isK kvs o = true) ∧ m = 2 * left n.toNat (isK kvs) + wt.length, ⟨_, [(Sum.inl g, V.non)], [g], none, none, rfl, ⟨?_, ?_, upd_same, SInv.start, ?_, ?_⟩, clos0, rfl⟩, ?_⟩
    · exact (same_upd hd).trans (same_upd hw)
    · rw [upd_ne nwd]
      exact ed0
    · intro v hv
      rw [List.mem_singleton.mp hv]
      unfold isK
      rw [SInv.start (n := n) (D := D) (R := R) |>.goal]
      rfl
    · have := left_le n.toNat (isK [(Sum.inl g, V.non)])
      simp only [List.length_cons, List.length_nil]
      omega
    clear clos0 ed0
    rintro m σ H1 ⟨kvs, wt, y5, y6, rfl, S1, clos, rfl⟩
    refine ⟨_, rfl, _, .inl ⟨_, SqL.of S1.ew, rfl⟩, ?_⟩
    rcases snoc_cases wt with rfl | ⟨ys, v, rfl⟩
    · refine iteF ?_
      exact ⟨_, rfl, q _ d kvs S1.sm hd S1.ed ⟨S1.inv, fun v o h1 h2 h3 => clos v o h1 (by simp) h2 h3⟩⟩
    · have ne : (!(vi (ys ++ [v])).isEmpty) = true := by
        cases ys <;> rfl
      rw [ne]
      refine iteT ⟨_, fun _ _ hh => hh, ?_⟩
      have hv : isK kvs v = true := S1.wk v (by simp)
      refine ⟨_, rfl, .inl ⟨rfl, _, SqL.of S1.ew⟩, wl, _, _, rfl, rfl, S1.ew, vi_snoc_last, ?_⟩
      rw [vi_dropLast]
      have l1 := S1.wlen
      rw [List.length_append, List.length_singleton] at l1
      have S2 : SAt H d wl n D R g kvs ys (upd H1 wl (.lst (vi ys))) := ⟨same_put S1.sm gw, (upd_ne nwd).trans S1.ed, upd_same, S1.inv, fun x hx => S1.wk x (List.mem_append_left _ hx), by omega⟩
      refine ⟨_, rfl, _, rfl, h, n, D, v, rfl, hH.same S2.sm, hF, fun H3 t s3 et => ?_⟩
      have S3 := S2.same s3
      refine ⟨t, rfl, ⟨_, SqT.of et⟩, for_tup (K := K) (a := t) (xs := vi (nb n D v)) (fun i σ H' => ∃ (kvs' : List (Key × V)) (wt : List Int) (y6 : Option V), σ = [some (.ref h), some (.int g), some (.ref rl), some (.ref d), some (.ref wl), some (.int v), y6] ∧
          SAt H d wl n D R g kvs' wt H' ∧ H' t = some (.tup (vi (nb n D v))) ∧ isK kvs' v = true ∧ (∀ x o, isK kvs' x = true → x ∉ wt → x ≠ v → adj D x o → o ∈ R → isK kvs' o = true) ∧
          (∀ o ∈ (nb n D v).take i, o ∈ R → isK kvs' o = true) ∧ 2 * left n.toNat (isK kvs') + wt.length < 2 * left n.toNat (isK kvs) + (ys ++ [v]).length) ⟨kvs, ys, y6, rfl, S3, et, hv, ?_, ?_, ?_⟩ ?_ ?_ ?_⟩
      · intro x o h1 h2 h3 h4 h5
        exact clos x o h1 (by simp [h2, h3]) h4 h5
      · intro o ho
        simp at ho
      · rw [List.length_append, List.length_singleton]
        omega
      · rintro i σ H' _ ⟨kvs', wt, y6, rfl, _, et', _⟩
        exact SqT.of et'
      · rintro i x σ H4 hx ⟨kvs', wt, y6, rfl, S4, et4, hv4, cl4, pre4, lt4⟩
        obtain ⟨o, eo, rfl⟩ := get_vi hx
        have mo := List.mem_of_getElem? eo
        have ao : adj D v o := hF.mem_nb.mp mo
        have ro := hF.adj ao
        have pre5 : ∀ kvs2 : List (Key × V), (∀ y, isK kvs' y = true → isK kvs2 y = true) → (o ∈ R → isK kvs2 o = true) → ∀ z ∈ (nb n D v).take (i + 1), z ∈ R → isK kvs2 z = true := fun kvs2 hm ho z hz hzR => by
          rw [List.take_add_one, eo, List.mem_append] at hz
          rcases hz with hz | hz
          · exact hm _ (pre4 z hz hzR)
          · have : z = o := by simpa using hz
            rw [this] at hzR ⊢
            exact ho hzR
        dsimp only [gName]
        refine if_by (fun b H5 => H5 = H4 ∧ (b = true → o ∈ R ∧ isK kvs' o = false) ∧ (b = false → o ∈ R → isK kvs' o = true)) ?_ ?_ ?_
        · rintro H5 ⟨rfl, hb, _⟩
          obtain ⟨oR, ok⟩ := hb rfl
          obtain ⟨I5, lt5⟩ := S4.inv.put hv4 ok ao oR ro.2.2.1 ro.2.2.2
          have lk4 := S4.inv.len
          have lw4 := S4.wlen
          refine ⟨_, rfl, _, rfl, _, rfl, d, _, rfl, DPut.k (k := Sum.inl o) S4.ed (small1000 (by omega)), ?_⟩
          have ew5 : (upd H5 d (.dK (putK kvs' (Sum.inl o) (V.int v)))) wl = some (.lst (vi wt)) := (upd_ne nwd.symm).trans S4.ew
          refine ⟨_, rfl, .inl ⟨rfl, _, SqL.of ew5⟩, _, rfl, wl, _, _, rfl, rfl, ew5, by rw [List.length_map]; exact small1000 (by omega), ?_⟩
          refine ⟨putK kvs' (Sum.inl o) (V.int v), wt ++ [o], _, rfl, ⟨same_put (same_put S4.sm hd) gw, (upd_ne nwd).trans upd_same, ?_, I5, ?_, ?_⟩, ?_, ?_, ?_, ?_, ?_⟩
          · rw [upd_same, vi_app]
            rfl
          · intro y hy
            rw [isK_put]
            rcases List.mem_append.mp hy with hy | hy
            · rw [S4.wk y hy, Bool.or_true]
            · rw [List.mem_singleton.mp hy, decide_eq_true rfl, Bool.true_or]
          · rw [List.length_append, List.length_singleton]
            omega
          · rw [upd_ne (ne_of et4 S4.ew (by intro z; cases z)), upd_ne (ne_of et4 S4.ed (by intro z; cases z))]
            exact et4
          · rw [isK_put, hv4, Bool.or_true]
          · intro y z h1 h2 h3 h4 h5
            rw [isK_put, Bool.or_eq_true, decide_eq_true_eq] at h1
            rw [List.mem_append, not_or, List.mem_singleton] at h2
            rcases h1 with h1 | h1
            · exact absurd h1 h2.2
            · rw [isK_put, cl4 y z h1 h2.1 h3 h4 h5, Bool.or_true]
          · refine pre5 _ (fun y hy => by rw [isK_put, hy, Bool.or_true]) fun _ => ?_
            rw [isK_put, decide_eq_true rfl, Bool.true_or]
          · rw [List.length_append, List.length_singleton]
            omega
        · rintro H5 ⟨rfl, _, hb⟩
          exact ⟨kvs', wt, _, rfl, S4, et4, hv4, cl4, pre5 kvs' (fun _ hh => hh) (hb rfl), lt4⟩
        · intro QQ hQ
          have hR4 : SqL K H4 rl (vi R) ∨ SqT K H4 rl (vi R) := hR.imp (fun z => S4.sm.seq z) (fun z => Same.sqT S4.sm z)
          refine ⟨_, rfl, _, rfl, rl, _, rfl, hR4, rfl, flat_ints R, _, rfl, ?_⟩
          show if (inV (.int o) (vi R)) = true then _ else _
          rw [inV_ints]
          refine ite2 (fun c => ?_) (fun c => ?_)
          · have c : o ∈ R := of_decide_eq_true c
            refine ⟨_, rfl, _, rfl, d, _, rfl, DGet.k (k := Sum.inl o) S4.ed, _, rfl, ?_⟩
            refine hQ _ _ ⟨rfl, fun e => ⟨c, ?_⟩, fun e _ => ?_⟩
            · show isK kvs' o = false
              unfold isK lk
              simpa using e
            · show isK kvs' o = true
              unfold isK lk
              simpa using e
          · exact hQ _ _ ⟨rfl, fun e => (by cases e), fun _ e => absurd (decide_eq_true e) c⟩
      · rintro σ H4 ⟨kvs', wt, y6, rfl, S4, et4, hv4, cl4, pre4, lt4⟩
        rw [List.length_map, List.take_length] at pre4
        refine ⟨_, lt4, kvs', wt, _, _, rfl, S4, fun x o h1 h2 h3 h4 => ?_, rfl⟩
        by_cases e : x = v
        · subst e
          exact pre4 o (hF.mem_nb.mpr h3) h4
        · exact cl4 x o h1 h2 e h3 h4
def spPathQ (K : PySem.W.Frag) : Sp := fun vs H Q _ => ∃ (h : Addr) (n : Int) (D : List (Int × Int)) (a b : Int), vs = [.ref h, .int a, .int b] ∧ HouseQ K H h n D ∧ Forest n D ∧ n ≤ 8 ∧ 0 ≤ a ∧ a < n ∧ 0 ≤ b ∧ b < n ∧
  (∀ H', Same H H' → (∀ p, ¬ SP (adj D) a b p) → Q .non H') ∧ (∀ H' t p, Same H H' → SP (adj D) a b p → p.length ≤ 8 → H' t = some (.tup (vi p)) → Q (.ref t) H')
theorem ok_pathQ {f fN fS : Addr} {fd fdN fdS : FuncData} (F : Fun K "path_between" "path_between" sPath f fd) (T : Nm mg) (DN : Def K mg "neighbors" sNb fN fdN ["house", "room"]) (DS : Def K mg "steps_toward" sSteps fS fdS ["house", "goal", "rooms"]) : FnOk P w K mg base CX0 3 f fd ["house", "a", "b"] (spPathQ K) := by
  have GS : FnOk P w K mg base CX0 2 fS fdS ["house", "goal", "rooms"] (spStepsQ K) := ok_stepsQ DS.F T DN
  refine F.ok scPath (fun vs H Q E h => ?_) (fun cdv A outer s H vs Q E hr h => ?_)
  · obtain ⟨h, n, D, a, b, rfl, _⟩ := h
    rfl
  · obtain ⟨h, n, D, a, b, rfl, hH, hF, hn, a0, a1, b0, b1, q1, q2⟩ := h
    have hu := hu_of hr
    obtain ⟨hq, eh⟩ := hH.top
    refine ⟨_, pss_cons (ps_set (i := 3) scPath.nd rfl (.inl rfl) (pe_call GS hr (by rfl) DS.g DS.F.kp DS.b .nil pass0 (pa_cons (pv 0) (pa_cons (pv 2) (pa_cons (pe_listRg (by rfl) (by rfl) T.list (prg_1 (by rfl) T.range (pe_ix ix_tup (pv 0) pe_int (fun _ _ => rfl)))) pa_nil)))))
      (pss_cons (ps_if (pt_cmp (pc_dnotin hu (pv 1) (pv 3))) (pss_one (ps_ret pe_non)) pss_nil)
      (pss_cons (ps_set (i := 4) scPath.nd rfl (.inl rfl) (pe_lst (pa_cons (pv 1) pa_nil)))
      (pss_cons (ps_while PassesOwn.never (pt_cmpR op_ne (pe_ix ix_list (pv 4) (pe_un un_neg pe_int) (fun _ _ => rfl)) (pv 2) (nomark _))
        (pss_one (ps_expr (pe_bm PySem.F.plainAttrs_list PySem.F.slot_list_append PySem.F.type_list_append mt_append (pv 4) (pa_cons (pe_dget hu (pv 3) (pe_ix ix_list (pv 4) (pe_un un_neg pe_int) (fun _ _ => rfl)) (fun _ _ => rfl)) pa_nil)))))
      (pss_one (ps_ret (pe_callTy call_tuple_of (by rfl) T.tuple (by decide +kernel) (pa_cons (pv 4) pa_nil))))))), ?_⟩
    refine ⟨_, rfl, _, rfl, _, rfl, h, _, _, _, rfl, rfl, eh, atI0, n, rfl, RgOk.of_le (by omega) (by omega) (by omega) (by omega), fun rl hrl => ?_⟩
    rw [rg_vi, show ((List.range n.toNat).map fun (i : Nat) => (i : Int)) = rg n from rfl]
    have s1 : Same H (upd H rl (.lst (vi (rg n)))) := same_upd hrl
    refine ⟨h, rl, n, D, b, rg n, rfl, hH.same s1, hF, by omega, hn, .inl (SqL.of upd_same), fun H1 d kvs s2 hd ed S => ?_⟩
    have s2' := s1.trans s2
    have cl : ∀ v o, isK kvs v = true → adj D v o → isK kvs o = true := fun v o h1 h2 => S.closed v o h1 h2 (mem_rg.mpr ⟨(hF.adj h2).2.2.1, (hF.adj h2).2.2.2⟩)
    refine ⟨_, rfl, _, rfl, d, _, rfl, DGet.k (k := Sum.inl a) ed, _, rfl, ?_⟩
    cases ea : valV kvs (Sum.inl a) with
    | none =>
      refine iteT ?_
      refine q1 _ s2' fun p hp => ?_
      have hb : isK kvs b = true := by
        unfold isK
        rw [S.inv.goal]
        rfl
      have ha : isK kvs a = true := hp.back (S := fun x => isK kvs x = true) (fun x y r hy => cl y x hy (adj_symm r)) hb
      unfold isK lk at ha
      rw [ea] at ha
      cases ha
    | some x =>
      refine iteF ?_
      obtain ⟨p, hp⟩ := S.inv.way a x ea
      have hlen := hF.short hn a0 a1 hp.sp
      refine ⟨_, rfl, by show 1 ≤ sizeLine; decide, fun pl hpl => ?_⟩
      have gpl : H pl = none := s2'.free hpl
      have npd : d ≠ pl := ne_of_none ed hpl
      have p0 : ∃ r0, p = a :: r0 := by
        cases hp with
        | goal _ => exact ⟨[], rfl⟩
        | step _ _ _ _ => exact ⟨_, rfl⟩
      obtain ⟨r0, rfl⟩ := p0
      refine ⟨fun m σ H' => ∃ (don : List Int) (v : Int) (rest : List Int), σ = [some (.ref h), some (.int a), some (.int b), some (.ref d), some (.ref pl)] ∧ Same H H' ∧ H' d = some (.dK kvs) ∧ H' pl = some (.lst (vi (don ++ [v]))) ∧
          Ch D (lk kvs) b v (v :: rest) ∧ don ++ v :: rest = a :: r0 ∧ m = rest.length, ⟨_, [], a, r0, rfl, same_put s2' gpl, (upd_ne npd).trans ed, upd_same, hp, rfl, rfl⟩, ?_⟩
      rintro m σ H2 ⟨don, v, rest, rfl, s3, ed3, ep3, hv, eq3, rfl⟩
      have hat : atI (vi (don ++ [v])) (-1) = some (.int v) := by
        rw [vi_app]
        exact atI_last _ _
      refine ⟨_, rfl, _, rfl, pl, _, _, _, rfl, rfl, SqL.of ep3, hat, _, rfl, rfl, _, rfl, ?_⟩
      by_cases e : v = b
      · subst e
        have er : rest = [] := by
          have := hv.sp.loop
          injection this
        subst er
        refine iteNS rfl ?_
        refine ⟨_, rfl, pl, _, rfl, .inl ⟨SqL.of ep3, fun t ht => ?_⟩⟩
        refine q2 _ t (a :: r0) (s3.trans (same_upd ht)) hp.sp hlen ?_
        rw [upd_same, ← eq3]
      · have ne : (!decide (V.int v = V.int b)) = true := by
          rw [decide_eq_false (fun z => e (V.int.inj z))]
          rfl
        rw [ne]
        refine iteT ⟨_, fun _ _ hh => hh, ?_⟩
        cases hv with
        | goal _ => exact absurd rfl e
        | step ev _ hu2 _ =>
          rename_i u _ _
          have r0' : ∃ r1, rest = u :: r1 := by
            cases hu2 with
            | goal _ => exact ⟨[], rfl⟩
            | step _ _ _ _ => exact ⟨_, rfl⟩
          obtain ⟨r1, rfl⟩ := r0'
          have len3 : (don ++ v :: u :: r1).length ≤ 8 := by rw [eq3]; exact hlen
          have len4 : (vi (don ++ [v])).length < sizeLine := by
            rw [List.length_map, List.length_append, List.length_singleton]
            rw [List.length_append, List.length_cons] at len3
            exact small1000 (by omega)
          have hdg : DGet H2 d (V.int v) (some (V.int u)) := by
            have := DGet.k (k := Sum.inl v) ed3
            unfold lk at ev
            rw [ev] at this
            exact this
          refine ⟨_, rfl, .inl ⟨rfl, _, SqL.of ep3⟩, _, rfl, _, rfl, _, rfl, pl, _, _, _, rfl, rfl, SqL.of ep3, hat, d, V.int u, rfl, hdg, pl, _, _, rfl, rfl, ep3, len4, ?_⟩
          · refine ⟨r1.length, by simp, don ++ [v], u, r1, rfl, same_put s3 gpl, (upd_ne npd).trans ed3, ?_, hu2, by rw [List.append_assoc]; exact eq3, rfl⟩
            rw [upd_same, vi_app (don ++ [v])]
            rfl
end
end Fw
set_option maxHeartbeats 2000000
namespace Fw
open PySem PySem.Spec PyProof.Rows L2
/-- what the written part says of one of the error classes -/
structure EC (K : PySem.W.Frag) (C : Addr) : Prop where
  o : OexC K C
  x : XfC K C
  cl : (PySem.W.clsIn K C).isSome = true
  ofc : PySem.W.findIn K (.ref C) "__class__" = some (some (.builtin "object.__class__"))
  sp : PySem.W.specialIn K (.builtin "object.__class__") "__get__" = some (some (.builtin "getset_descriptor.__get__"))
  tk : PySem.W.takesIn K (.builtin "object.__class__") = some true
  mo : PySem.W.mroIn K C (.type "object") = some true
section
variable {X : Cx} {e : Expr} {es : List Expr} {ta : TA} {p pos : Pos}
/-- l.count(True), l a list of bools -/
def rCntB (K : PySem.W.Frag) : V → List V → Hp → VK → Prop := fun x xs H Q => ∃ (p : Addr) (bs : List Bool), x = .ref p ∧ xs = [.bl true] ∧ SqL K H p (bs.map V.bl) ∧ Q (.int ((bs.count true : Nat) : Int)) H
def isT : Value → Bool
  | .bool b => b
  | _ => false
theorem mt_countB : MtR X "list.count" (rCntB X.K) := by
  intro pn s σ H x xs v us Q I rx rys hx
  obtain ⟨p, bs, rfl, rfl, hs, q⟩ := hx
  cases rx
  obtain ⟨ut, rfl, rt⟩ := rys.one
  cases (show ut = Value.bool true from rt)
  obtain ⟨its, rv, ⟨⟨oc, dd, od, sl⟩, n, ho, hc, _, hd⟩, _⟩ := I.list hs
  simp only at hc hd
  subst hc hd
  have all : ∀ {bs : List Bool} {us : List Value}, Vals (bs.map V.bl) us → (∀ y ∈ us, ∃ b, y = Value.bool b) ∧ us.countP isT = bs.count true := by
    intro bs
    induction bs with
    | nil => intro us r; cases r; exact ⟨fun y hy => (by cases hy), rfl⟩
    | cons b bs ih =>
      intro us r
      cases r with
      | cons r rr =>
        obtain ⟨h1, h2⟩ := ih rr
        have e := (show _ = Value.bool b from r)
        subst e
        refine ⟨fun y hy => ?_, ?_⟩
        · rcases List.mem_cons.mp hy with e | e
          · exact ⟨b, e⟩
          · exact h1 y e
        · rw [List.countP_cons, List.count_cons, h2]
          cases b <;> rfl
  obtain ⟨h1, h2⟩ := all rv
  refine call_meets PySem.F.slot_list_count ⟨_, ho, rfl⟩ PySem.F.entry_list_count (PySem.F.args_list_count_2 _ _) (SeqAt.list_countAt p its.toArray n dd sl (.bool true) isT) ⟨ho, fun y hy => ?_, ?_⟩
  · obtain ⟨b, rfl⟩ := h1 y (by simpa using hy)
    have := SeqAt.EqAt.bool_bool (A := X.A.in1) (s := s) b true
    rw [show (b == true) = isT (.bool b) by cases b <;> rfl] at this
    exact this
  · refine ⟨.int ((bs.count true : Nat) : Int), H, I.tok _, ⟨s.toks, ?_⟩, q⟩
    show Value.int ((its.toArray.toList.countP isT : Nat) : Int) s.toks = _
    rw [← h2]
end
end Fw
set_option maxHeartbeats 2000000
namespace Fw
open PySem PySem.Spec PyProof.Rows L2
/-- the classes above an error class, without itself -/
abbrev above (E : Addr) : List Value := [.ref E, .type "ValueError", .type "Exception", .type "BaseException", .type "object"]
/-- an error class by its place, with its __init__ -/
structure CF (K : PySem.W.Frag) (mg : Str → Option Value) (x : Str) (q : Str) (st : Stmt) (ps : List Str) (E C : Addr) (f : Addr) (fd : FuncData) : Prop where
  e : EC K C
  g : mg x = some (.ref C)
  mro : ∃ cd, PySem.W.clsIn K C = some cd ∧ cd.mro = .ref C :: above E
  i : PySem.W.findIn K (.ref C) "__init__" = some (some (.ref f))
  t : PySem.W.typeIn K (.ref f) = some (.type "function")
  F : Fun K "__init__" q st f fd
  b : Binds K fd ps []
theorem cf_mk {K : PySem.W.Frag} {h : Heap} {mg : Str → Option Value} {x q : Str} {st : Stmt} {ps : List Str} {E C f : Addr}
    {nm qn : Str} {N : Addr} {bs : List Value} {sn : List Str} {sub : List Value} {ab : Bool} {col : Option Bool} {dd : Option Addr} {m0 m1 m2 m3 m5 : Option Value}
    {od an : Option Addr} {sl : Array (Option Value)} {oc kV dc pm cd ct : Value} (X : K.In h) (G : h.Ns mainGlobals mg)
    (hb : ∀ fd, Fun K "__init__" q st f fd → Binds K fd ps [])
    (aC : PySem.W.nsIn K mainGlobals x = some (some (.ref C)))
    (xL : K.lookup C = some (excClassObj nm qn C N bs (above E) true sn sub ab col dd m0 m1 m2 m3 m5 "ValueError.__new__"))
    (sa : PySem.W.findIn K (.ref C) "__setattr__" = some (some (.builtin "object.__setattr__"))) (ga : PySem.W.findIn K (.ref C) "__getattribute__" = some (some (.builtin "BaseException.__getattribute__"))) (gg : PySem.W.findIn K (.ref C) "__getattr__" = some none)
    (a1 : PySem.W.findIn K (.ref C) "__init__" = some (some (.ref f))) (t1 : PySem.W.typeIn K (.ref f) = some (.type "function"))
    (l1 : K.lookup f = some ⟨oc, od, .func (PySem.W.fnOf "__init__" q (defArgs st) (defBody st) (defScope st) .none kV dc pm an cd ct), sl⟩) (c1 : PySem.W.codeIn K cd q = true) (k1 : PySem.W.keepIn K (.ref f) = true)
    (kC : PySem.W.keepIn K (.ref C) = true) (tC : PySem.W.typeIn K (.ref C) = some (.type "type")) (hC : PySem.W.hasDictIn K C = true)
    (ca : PySem.W.findIn K (.ref C) "__class__" = some (some (.builtin "object.__class__")))
    (sp : PySem.W.specialIn K (.builtin "object.__class__") "__get__" = some (some (.builtin "getset_descriptor.__get__"))) (tk : PySem.W.takesIn K (.builtin "object.__class__") = some true) :
    ∃ fd, CF K mg x q st ps E C f fd := by
  have cl : PySem.W.clsIn K C = some { name := nm, bases := bs, mro := .ref C :: above E, ns := N, qualname := qn, hasDict := true, slotNames := sn, subclasses := sub, abstract := ab, collection := col, hasDel := false } := by
    unfold PySem.W.clsIn
    rw [xL]
  have mr : ∀ v, PySem.W.mroIn K C v = some ((Value.ref C :: above E).contains v) := fun v => by
    unfold PySem.W.mroIn
    rw [cl]
    rfl
  have exC : PySem.W.subIn K (.ref C) (.type "BaseException") = some true := (mr _).trans rfl
  have F1 := fun_mk (st := st) l1 c1 k1
  refine ⟨_, ⟨⟨⟨nm, qn, N, bs, _, sn, sub, ab, col, dd, m0, m1, m2, m3, m5, xL, rfl⟩, sa, exC, tC, kC⟩, ⟨ga, gg, exC, hC⟩, by rw [cl]; rfl, ca, sp, tk, (mr _).trans rfl⟩, PySem.W.mg_of X G aC, ⟨_, cl, rfl⟩, a1, t1, F1, hb _ F1⟩
end Fw
set_option maxHeartbeats 2000000
namespace Fw
open PySem PySem.Spec PyProof.Rows L2
/-- what the __init__ of an error with a field does -/
def spIniF (f : Str) (C : Addr) : Sp := fun vs H Q _ => ∃ (a : Addr) (v : V), vs = [.ref a, v] ∧ H a = some (exo a C none) ∧ ∀ dx, H dx = none → dx ≠ a → Q .non (upd (upd H dx (exd dx [(f, v)])) a (exo a C (some dx)))
/-- an error class of the text with one field -/
def CE (K : PySem.W.Frag) (mg : Str → Option Value) (x q fld : Str) (st : Stmt) : Prop := ∃ E C f fd, CF K mg x q st ["self", fld] E C f fd ∧ PySem.W.findIn K (.ref C) fld = some none
/-- an error class that can be raised, by its name -/
structure ErR (P : Program) (w : World) (K : PySem.W.Frag) (mg : Str → Option Value) (base : Heap) (x fld : Str) (E C : Addr) : Prop where
  e : EC K C
  g : mg x = some (.ref C)
  mro : ∃ cd, PySem.W.clsIn K C = some cd ∧ cd.mro = .ref C :: above E
  no : PySem.W.findIn K (.ref C) fld = some none
  i : ∃ f fd, PySem.W.findIn K (.ref C) "__init__" = some (some (.ref f)) ∧ PySem.W.typeIn K (.ref f) = some (.type "function") ∧ Binds K fd ["self", fld] [] ∧ FnOk P w K mg base CX0 1 f fd ["self", fld] (spIniF fld C)
/-! ### except among the errors -/
/-! ### raise -/
theorem raise_end {fld : Str} {C : Addr} {v : V} {H1 : Hp} {Q : XK} (q : ∀ d H', Same H1 H' → H' d = some (.xd [(fld, v)]) → Q (.ref C) (some d) H') : ([v] : List V).length ≤ 1000 ∧ ∀ a, H1 a = none → spIniF fld C (.ref a :: ([v] ++ [])) (upd H1 a (exo a C none))
    (fun v H2 => v = .non ∧ ∃ (d : Addr) (fs : List (Str × V)), H2 a = some (exo a C (some d)) ∧ H2 d = some (exd d fs) ∧ H1 d = none ∧ Q (.ref C) (some d) (upd (del H2 a) d (.xd fs))) (fun _ _ _ => False) := by
  refine ⟨by show 1 ≤ 1000; decide, fun a ha => ⟨a, v, rfl, upd_same, fun dx h1 h2 => ?_⟩⟩
  have hd : H1 dx = none := by rw [← h1, upd_ne h2]
  refine ⟨rfl, dx, _, upd_same, (upd_ne h2).trans upd_same, hd, q _ _ (fun b o e => ?_) upd_same⟩
  have n1 : b ≠ a := ne_of_none e ha
  have n2 : b ≠ dx := ne_of_none e hd
  rw [upd_ne n2, del_ne n1, upd_ne n1, upd_ne n2, upd_ne n1]
  exact e
theorem pmk_er {X : Cx} {x fld : Str} {E C : Addr} {k : Nat} {p pos : Pos} {e : Expr} {te : TE} (R : ErR X.prog X.w X.K X.mg X.base x fld E C) (hr : Room (k + 2) X.A) (hg : Gl X x) (he : PE X e te) (hdb : (x == ("__debug__" : Str)) = false := by decide)
    (h1 : starEach [e] X.env = (false, eval e X.env) :: starEach [] X.env := by rfl) (h2 : (backTo pos (starEach [] X.env)).any (·.1) = false := by rfl) : PMk X (.Call (.Name x p) [e] [] pos) (tMkO C (spIniF fld C) [] (tCons te tNil)) := by
  obtain ⟨f, fd, a, b, c, d⟩ := R.i
  exact pmk_oex R.e.o a b (d.mono (Nat.le_add_left 1 k)) hr c .nil pass0 hg R.g (pa_cons he pa_nil (hs := h1)) hdb h1 h2
/-! ### a def that may raise, by its name -/
def CalX (P : Program) (w : World) (K : PySem.W.Frag) (mg : Str → Option Value) (base : Heap) (k : Nat) (x : Str) (ps : List Str) (sp : Sp) : Prop :=
  ∃ f fd, mg x = some (.ref f) ∧ PySem.W.keepIn K (.ref f) = true ∧ Binds K fd ps [] ∧ FnOk P w K mg base (L2.CX P w) k f fd ps sp
theorem DefE.calX {P : Program} {w : World} {K : PySem.W.Frag} {mg : Str → Option Value} {base : Heap} {x : Str} {st : Stmt} {ps : List Str} {k : Nat} {sp : Sp} (D : DefE K mg x st ps) (h : ∀ f fd, Def K mg x st f fd ps → FnOk P w K mg base (L2.CX P w) k f fd ps sp) : CalX P w K mg base k x ps sp := by
  obtain ⟨f, fd, d⟩ := D
  exact ⟨f, fd, d.g, d.F.kp, d.b, h f fd d⟩
theorem pe_calX {X : Cx} {W : WX} {k : Nat} {ps : List Str} {sp : Sp} {x : Str} {p pos : Pos} {e : Expr} {es : List Expr} {t : TA} (C : CalX X.prog X.w X.K X.mg X.base k x ps sp) (tk : Takes X W) (hr : Room k X.A) (hg : Gl X x) (ha : PA X (e :: es) t) (hdb : (x == ("__debug__" : Str)) = false := by decide)
    (h1 : starEach (e :: es) X.env = (false, eval e X.env) :: starEach es X.env := by rfl) (h2 : (backTo pos (starEach es X.env)).any (·.1) = false := by rfl) : PE X (.Call (.Name x p) (e :: es) [] pos) (tCallS sp (WE W) t) := by
  obtain ⟨f, fd, a, b, c, d⟩ := C
  exact pe_callS d hr hg a b c (fun σ => passAt tk σ) ha hdb h1 h2
/-! ### an exception that has landed, and the state around it -/
structure Air (X : Cx) (pins : List (Addr × Obj)) (B : Heap) (a : Addr) (cls : Value) (d : Option Addr) (σ : L2.St) (H : Hp) (z : Shared) : Prop where
  ex : ∃ g : Shared, Inv X pins σ H g ∧ (∀ b o, g.heap.get? b = some o → b ∉ frs X.stack → B.get? b = some o) ∧ g.heap.UpToSlots z.heap ∧ z.os = g.os
  fly : HandSPX.FlyingZ B (X.env :: X.outer) a (Zc cls d) z.heap
  free : H a = none
  bare : AllBare z.gens
section
variable {X : Cx} {pins : List (Addr × Obj)} {B : Heap} {a : Addr} {cls : Value} {d : Option Addr} {σ : L2.St} {H : Hp} {z : Shared}
theorem Air.inv (x : Air X pins B a cls d σ H z) : Inv X pins σ H z := by
  obtain ⟨g, i, k, u, o⟩ := x.ex
  exact i.landed k x.fly.1 u o x.bare
theorem Air.step {h' : Heap} (x : Air X pins B a cls d σ H z) (f : HandSPX.FlyingZ B (X.env :: X.outer) a (Zc cls d) h') (u : z.heap.UpToSlots h') : Air X pins B a cls d σ H { z with heap := h' } := by
  obtain ⟨g, i, k, u0, o⟩ := x.ex
  exact ⟨⟨g, i, k, u0.trans u, o⟩, f, x.free, x.bare⟩
theorem Air.push (x : Air X pins B a cls d σ H z) (o : Obj) : Air X pins B a cls d σ H { z with heap := z.heap.push o } := by
  have up : ∀ b q, z.heap.get? b = some q → (z.heap.push o).get? b = some q := fun b q e => Heap.get?_push_of_some _ e
  obtain ⟨c1, c2, c3, ob, fs, tb, ot, us, g1, g2, g3, g4, g5, g6, g7, g8, g9⟩ := x.fly
  exact x.step ⟨fun b q e => up b q (c1 b q e), c2, c3.of_keeps fun b q e _ => ⟨q, up b q e, rfl⟩, ob, fs, tb, ot, us, up _ _ g1, g2, g3, g4, g5, g6, up _ _ g7, g8, g9⟩ (Heap.UpToSlots.of_keeps up)
theorem Air.hold (x : Air X pins B a cls d σ H z) (fr : X.env.frame = some X.env.locals) : ∃ oe, z.heap.get? a = some oe ∧ Zc cls d oe ∧ (∃ vs, oe.data = .fields vs) ∧ Inv (X.suite a ((a, oe) :: (X.pn ++ pins))) [] σ H z := by
  obtain ⟨oe, fs, at0, zc, fd⟩ := x.fly.there
  have off : ∀ v : Env, v ∈ X.env :: X.outer → v.frame ≠ some a := by
    intro v mv ev
    obtain ⟨_, ob, at1, plain⟩ := x.fly.2.2.1.mem (List.mem_filterMap.2 ⟨v, mv, ev⟩)
    cases Option.some.inj (at0.symm.trans at1)
    exact plain fs fd
  refine ⟨oe, at0, zc, ⟨fs, fd⟩, x.inv.suite at0 fd x.free ?_ ?_⟩
  · intro same
    exact off X.env (.head _) (by rw [fr, same])
  · intro inFs
    obtain ⟨v, mv, ev⟩ := List.mem_filterMap.1 inFs
    exact off v (.tail _ mv) ev
/-- a class of the text, or a builtin one, by its name in a clause -/
theorem Air.name {x : Str} {c : Value} {p : Pos} {Q : Value → Shared → Prop} {E : Value → Shared → Prop} (y : Air X pins B a cls d σ H z) (fr : X.env.frame = some X.env.locals) (nm : L2.Names X x c) (h : Q c z) : wpAny (model X.prog X.w) (X.A.mark (some (.ref a))) (eval (.Name x p) X.env) Q E z := by
  obtain ⟨oe, _, _, _, J⟩ := y.hold fr
  obtain ⟨gl, nd, own | ⟨out, blt, nn⟩⟩ := nm
  · exact ld_glob J gl own h nd
  · exact ld_blt J gl out blt h nn nd
end
/-! ### try: .. except (A, B): .. , where it surely is one of the two -/
end Fw
namespace Fw
open PySem PySem.Spec PyProof.Rows L2
/-! a def that may raise, where it does not -/
section
variable {P : Program} {w : World} {K : PySem.W.Frag} {mg : Str → Option Value} {base : Heap}
theorem CalX.calm {x : Str} {ps : List Str} {k : Nat} {sp sp' : Sp} (C : CalX P w K mg base k x ps sp) (h : ∀ vs H Q E, sp' vs H Q E → sp vs H Q fun _ _ _ => False) : Cal P w K mg base k x ps sp' := by
  obtain ⟨f, fd, a, b, c, F⟩ := C
  refine ⟨f, fd, a, b, c, fun vs H Q E q => F.len vs H Q _ (h vs H Q E q), fun A outer s H args us vs Q E hr he hb hv hs => ?_⟩
  refine codeAny_mono (F.run A outer s H args us vs Q _ hr he hb hv (h vs H Q E hs)) fun r s' hq => ?_
  cases r with
  | error e =>
    obtain ⟨_, _, _, _, _, _, _, _, _, _, _, _, no⟩ := hq
    exact no.elim
  | ok fl => cases fl <;> exact hq
theorem CalX.up {x : Str} {ps : List Str} {j k : Nat} {sp : Sp} (C : CalX P w K mg base j x ps sp) (h : j ≤ k) : CalX P w K mg base k x ps sp := by
  obtain ⟨f, fd, a, b, c, F⟩ := C
  exact ⟨f, fd, a, b, c, F.mono h⟩
end
end Fw
set_option maxHeartbeats 2000000
namespace Fw
open PySem PySem.Spec PyProof.Rows L2
/-- the class above all errors -/
structure HE (K : PySem.W.Frag) (mg : Str → Option Value) (E : Addr) : Prop where
  g : mg "HouseError" = some (.ref E)
  ex : PySem.W.subIn K (.ref E) (.type "BaseException") = some true
  cl : (PySem.W.clsIn K E).isSome = true
  ty : PySem.W.typeIn K (.ref E) = some (.type "type")
  m : (PySem.W.clsIn K E).map (·.mro) = some (above E)
/-- an error class of the text with one field, below E -/
def CEE (K : PySem.W.Frag) (mg : Str → Option Value) (E : Addr) (x q fld : Str) (st : Stmt) : Prop := ∃ C f fd, CF K mg x q st ["self", fld] E C f fd ∧ PySem.W.findIn K (.ref C) fld = some none
abbrev Mro (K : PySem.W.Frag) (E D : Addr) : Prop := ∃ cd, PySem.W.clsIn K D = some cd ∧ cd.mro = .ref D :: above E
theorem he_mk {K : PySem.W.Frag} {h : Heap} {mg : Str → Option Value} {E : Addr} {nm qn : Str} {N : Addr} {bs : List Value} {sn : List Str} {sub : List Value} {ab : Bool} {col : Option Bool} {dd : Option Addr} {m0 m1 m2 m3 m5 : Option Value} (X : K.In h) (G : h.Ns mainGlobals mg)
    (aE : PySem.W.nsIn K mainGlobals "HouseError" = some (some (.ref E))) (ex : PySem.W.subIn K (.ref E) (.type "BaseException") = some true)
    (xL : K.lookup E = some (excClassObj nm qn E N bs [.type "ValueError", .type "Exception", .type "BaseException", .type "object"] true sn sub ab col dd m0 m1 m2 m3 m5 "ValueError.__new__")) (ty : PySem.W.typeIn K (.ref E) = some (.type "type")) : HE K mg E := by
  have cl : ∃ cd, PySem.W.clsIn K E = some cd ∧ cd.mro = above E := by
    unfold PySem.W.clsIn
    rw [xL]
    exact ⟨_, rfl, rfl⟩
  obtain ⟨cd, h1, h2⟩ := cl
  exact ⟨PySem.W.mg_of X G aE, ex, by rw [h1]; rfl, ty, by rw [h1, ← h2]; rfl⟩
theorem HE.ne {K : PySem.W.Frag} {mg : Str → Option Value} {E C : Addr} (h : HE K mg E) (c : Mro K E C) : C ≠ E := fun e => by
  obtain ⟨cd, h1, h2⟩ := c
  have := h.m
  rw [← e, h1] at this
  simp only [Option.map_some, Option.some.injEq] at this
  rw [h2] at this
  have := congrArg List.length this
  cases this
theorem exm_he {K : PySem.W.Frag} {mg : Str → Option Value} {D E : Addr} (hm : Mro K E D) (h : HE K mg E) : PySem.W.exmOne K (.ref D) (.ref E) = some true := by
  obtain ⟨cd, h1, h2⟩ := hm
  unfold PySem.W.exmOne
  rw [if_pos (by rw [h.ex]; rfl)]
  unfold PySem.W.kitCls
  simp only [h.cl, h.ty]
  rw [if_pos (by rfl)]
  show PySem.W.mroIn K D (.ref E) = _
  unfold PySem.W.mroIn
  rw [h1]
  show (if cd.mro.isEmpty then none else some (cd.mro.contains (.ref E))) = _
  rw [h2]
  simp
theorem kitR {K : PySem.W.Frag} {D E C : Addr} (hm : Mro K E D) (hC : (PySem.W.clsIn K C).isSome = true) (tC : PySem.W.typeIn K (.ref C) = some (.type "type")) : PySem.W.kitOne K (.ref D) (.ref C) = some (decide (C = D ∨ C = E)) := by
  obtain ⟨cd, h1, h2⟩ := hm
  unfold PySem.W.kitOne
  by_cases e : D = C
  · rw [if_pos (by rw [e]; exact beq_self_eq_true _)]
    simp [e]
  · rw [if_neg (by simpa using e)]
    unfold PySem.W.kitCls
    simp only [hC, tC]
    rw [if_pos (by rfl)]
    show PySem.W.mroIn K D (.ref C) = _
    unfold PySem.W.mroIn
    rw [h1]
    show (if cd.mro.isEmpty then none else some (cd.mro.contains (.ref C))) = _
    rw [h2]
    show some ((Value.ref D :: above E).contains (.ref C)) = _
    have e' : C ≠ D := fun z => e z.symm
    by_cases e2 : C = E <;> simp [e', e2]
theorem kitVE {K : PySem.W.Frag} {D E : Addr} (hm : Mro K E D) : PySem.W.kitOne K (.ref D) (.type "ValueError") = some true := by
  obtain ⟨cd, h1, h2⟩ := hm
  unfold PySem.W.kitOne
  rw [if_neg (by simp)]
  unfold PySem.W.kitCls
  simp only []
  rw [if_pos (by decide +kernel)]
  show PySem.W.mroIn K D (.type "ValueError") = _
  unfold PySem.W.mroIn
  rw [h1]
  show (if cd.mro.isEmpty then none else some (cd.mro.contains _)) = _
  rw [h2]
  show some ((Value.ref D :: above E).contains _) = _
  simp
/-- isinstance of the exception that a suite holds -/
structure HeldX (K : PySem.W.Frag) (cls : Value) (d : Option Addr) (D : Addr) (H : Hp) : Prop where
  c : cls = .ref D
  e : EC K D
  x : ∀ dx, d = some dx → ∃ fs, H dx = some (.xd fs)
def rIsC (K : PySem.W.Frag) (a : Addr) (cls : Value) (d : Option Addr) : List V → Hp → VK → Prop := fun xs H Q => ∃ (D : Addr) (c : V) (cv : Value) (b : Bool), xs = [.ref a, c] ∧ HeldX K cls d D H ∧ ClsV c cv ∧ PySem.W.kitOne K (.ref D) cv = some b ∧ Q (.bl b) H
def rIsT (K : PySem.W.Frag) (a : Addr) (cls : Value) (d : Option Addr) : List V → Hp → VK → Prop := fun xs H Q => ∃ (D t : Addr) (cs : List V) (cvs : List Value) (b : Bool), xs = [.ref a, .ref t] ∧ HeldX K cls d D H ∧ SqT K H t cs ∧ (∀ us, Vals cs us → us = cvs) ∧ PySem.W.kitAny K (.ref D) cvs = some b ∧ Q (.bl b) H
/-- two classes of unlike names are not one -/
theorem CF.ne {K : PySem.W.Frag} {mg : Str → Option Value} {x y q1 q2 : Str} {s1 s2 : Stmt} {p1 p2 : List Str} {E C1 C2 f1 f2 : Addr} {d1 d2 : FuncData} (a : CF K mg x q1 s1 p1 E C1 f1 d1) (b : CF K mg y q2 s2 p2 E C2 f2 d2) (n : q1 ≠ q2) : C1 ≠ C2 := fun e => by
  subst e
  have ef : f1 = f2 := by
    have := a.i.symm.trans b.i
    cases this
    rfl
  subst ef
  obtain ⟨oc, od, kV, doc, pm, an, c, ct, osl, rfl, l1, _⟩ := a.F.ex
  obtain ⟨oc', od', kV', doc', pm', an', c', ct', osl', rfl, l2, _⟩ := b.F.ex
  rw [l1] at l2
  simp only [Option.some.injEq, Obj.mk.injEq, Data.func.injEq] at l2
  exact n (by have := congrArg (·.qualname) l2.2.2.1; exact this)
end Fw
set_option maxHeartbeats 2000000
namespace Fw
open PySem PySem.Spec PyProof.Rows L2
/-- an error class that can be raised, with all that is told of it -/
structure Er1 (P : Program) (w : World) (K : PySem.W.Frag) (mg : Str → Option Value) (base : Heap) (x q fld : Str) (E C : Addr) : Prop where
  r : ErR P w K mg base x fld E C
  c : ∃ st f fd, CF K mg x q st ["self", fld] E C f fd
theorem Er1.ne {P : Program} {w : World} {K : PySem.W.Frag} {mg : Str → Option Value} {base : Heap} {x y q1 q2 f1 f2 : Str} {E C1 C2 : Addr} (a : Er1 P w K mg base x q1 f1 E C1) (b : Er1 P w K mg base y q2 f2 E C2) (n : q1 ≠ q2) : C1 ≠ C2 := by
  obtain ⟨_, _, _, a⟩ := a.c
  obtain ⟨_, _, _, b⟩ := b.c
  exact a.ne b n
/-- e of class C is no D -/
theorem Er1.isnt {P : Program} {w : World} {K : PySem.W.Frag} {mg : Str → Option Value} {base : Heap} {x y q1 q2 f1 f2 : Str} {E C1 C2 : Addr} (a : Er1 P w K mg base x q1 f1 E C1) (b : Er1 P w K mg base y q2 f2 E C2) (h : HE K mg E) (n : q1 ≠ q2) : PySem.W.kitOne K (.ref C1) (.ref C2) = some false := by
  rw [kitR a.r.mro b.r.e.cl b.r.e.o.tyC, decide_eq_false]
  rintro (e | e)
  · exact a.ne b n e.symm
  · exact h.ne b.r.mro e
theorem Er1.is {P : Program} {w : World} {K : PySem.W.Frag} {mg : Str → Option Value} {base : Heap} {x q1 f1 : Str} {E C1 : Addr} (a : Er1 P w K mg base x q1 f1 E C1) : PySem.W.kitOne K (.ref C1) (.ref C1) = some true := by
  rw [kitR a.r.mro a.r.e.cl a.r.e.o.tyC, decide_eq_true (.inl rfl)]
section
variable {P : Program} {w : World} {K : PySem.W.Frag} {mg : Str → Option Value} {base : Heap} {E : Addr}
theorem HE.names {X : Cx} {E : Addr} (h : HE X.K X.mg E) (g : Gl X "HouseError") : L2.Names X "HouseError" (.ref E) := ⟨g, by decide, .inl h.g⟩
theorem er1_UnknownPerson (c : CEE K mg E "UnknownPerson" "UnknownPerson.__init__" "name" iUnknownPerson) : ∃ C, Er1 P w K mg base "UnknownPerson" "UnknownPerson.__init__" "name" E C := by
  obtain ⟨C, f, fd, c, no⟩ := c
  refine ⟨C, ⟨c.e, c.g, c.mro, no, f, fd, c.i, c.t, c.b, ?_⟩, _, _, _, c⟩
  refine Fun.ok c.F (N := ["self", "name"]) ⟨rfl, rfl, rfl, by decide +kernel, rfl, by decide +kernel, by decide +kernel⟩ (fun vs H Q E h => ?_) (fun cdv A outer s H vs Q E hr h => ?_)
  · obtain ⟨a, v, rfl, _⟩ := h
    rfl
  · obtain ⟨a, v, rfl, ea, q⟩ := h
    exact ⟨_, pss_one (ps_ost (pv 0) (pv 1)), _, rfl, _, rfl, a, C, rfl, c.e.o, no, .inl ⟨ea, q⟩⟩
theorem er1_InvalidRoom (c : CEE K mg E "InvalidRoom" "InvalidRoom.__init__" "room" iInvalidRoom) : ∃ C, Er1 P w K mg base "InvalidRoom" "InvalidRoom.__init__" "room" E C := by
  obtain ⟨C, f, fd, c, no⟩ := c
  refine ⟨C, ⟨c.e, c.g, c.mro, no, f, fd, c.i, c.t, c.b, ?_⟩, _, _, _, c⟩
  refine Fun.ok c.F (N := ["self", "room"]) ⟨rfl, rfl, rfl, by decide +kernel, rfl, by decide +kernel, by decide +kernel⟩ (fun vs H Q E h => ?_) (fun cdv A outer s H vs Q E hr h => ?_)
  · obtain ⟨a, v, rfl, _⟩ := h
    rfl
  · obtain ⟨a, v, rfl, ea, q⟩ := h
    exact ⟨_, pss_one (ps_ost (pv 0) (pv 1)), _, rfl, _, rfl, a, C, rfl, c.e.o, no, .inl ⟨ea, q⟩⟩
theorem er1_NotAdjacent (c : CEE K mg E "NotAdjacent" "NotAdjacent.__init__" "room" iNotAdjacent) : ∃ C, Er1 P w K mg base "NotAdjacent" "NotAdjacent.__init__" "room" E C := by
  obtain ⟨C, f, fd, c, no⟩ := c
  refine ⟨C, ⟨c.e, c.g, c.mro, no, f, fd, c.i, c.t, c.b, ?_⟩, _, _, _, c⟩
  refine Fun.ok c.F (N := ["self", "room"]) ⟨rfl, rfl, rfl, by decide +kernel, rfl, by decide +kernel, by decide +kernel⟩ (fun vs H Q E h => ?_) (fun cdv A outer s H vs Q E hr h => ?_)
  · obtain ⟨a, v, rfl, _⟩ := h
    rfl
  · obtain ⟨a, v, rfl, ea, q⟩ := h
    exact ⟨_, pss_one (ps_ost (pv 0) (pv 1)), _, rfl, _, rfl, a, C, rfl, c.e.o, no, .inl ⟨ea, q⟩⟩
theorem er1_EmptyRoom (c : CEE K mg E "EmptyRoom" "EmptyRoom.__init__" "room" iEmptyRoom) : ∃ C, Er1 P w K mg base "EmptyRoom" "EmptyRoom.__init__" "room" E C := by
  obtain ⟨C, f, fd, c, no⟩ := c
  refine ⟨C, ⟨c.e, c.g, c.mro, no, f, fd, c.i, c.t, c.b, ?_⟩, _, _, _, c⟩
  refine Fun.ok c.F (N := ["self", "room"]) ⟨rfl, rfl, rfl, by decide +kernel, rfl, by decide +kernel, by decide +kernel⟩ (fun vs H Q E h => ?_) (fun cdv A outer s H vs Q E hr h => ?_)
  · obtain ⟨a, v, rfl, _⟩ := h
    rfl
  · obtain ⟨a, v, rfl, ea, q⟩ := h
    exact ⟨_, pss_one (ps_ost (pv 0) (pv 1)), _, rfl, _, rfl, a, C, rfl, c.e.o, no, .inl ⟨ea, q⟩⟩
theorem er1_Blocked (c : CEE K mg E "Blocked" "Blocked.__init__" "block" iBlocked) : ∃ C, Er1 P w K mg base "Blocked" "Blocked.__init__" "block" E C := by
  obtain ⟨C, f, fd, c, no⟩ := c
  refine ⟨C, ⟨c.e, c.g, c.mro, no, f, fd, c.i, c.t, c.b, ?_⟩, _, _, _, c⟩
  refine Fun.ok c.F (N := ["self", "block"]) ⟨rfl, rfl, rfl, by decide +kernel, rfl, by decide +kernel, by decide +kernel⟩ (fun vs H Q E h => ?_) (fun cdv A outer s H vs Q E hr h => ?_)
  · obtain ⟨a, v, rfl, _⟩ := h
    rfl
  · obtain ⟨a, v, rfl, ea, q⟩ := h
    exact ⟨_, pss_one (ps_ost (pv 0) (pv 1)), _, rfl, _, rfl, a, C, rfl, c.e.o, no, .inl ⟨ea, q⟩⟩
theorem er1_InvalidName (c : CEE K mg E "InvalidName" "InvalidName.__init__" "name" iInvalidName) : ∃ C, Er1 P w K mg base "InvalidName" "InvalidName.__init__" "name" E C := by
  obtain ⟨C, f, fd, c, no⟩ := c
  refine ⟨C, ⟨c.e, c.g, c.mro, no, f, fd, c.i, c.t, c.b, ?_⟩, _, _, _, c⟩
  refine Fun.ok c.F (N := ["self", "name"]) ⟨rfl, rfl, rfl, by decide +kernel, rfl, by decide +kernel, by decide +kernel⟩ (fun vs H Q E h => ?_) (fun cdv A outer s H vs Q E hr h => ?_)
  · obtain ⟨a, v, rfl, _⟩ := h
    rfl
  · obtain ⟨a, v, rfl, ea, q⟩ := h
    exact ⟨_, pss_one (ps_ost (pv 0) (pv 1)), _, rfl, _, rfl, a, C, rfl, c.e.o, no, .inl ⟨ea, q⟩⟩
theorem er1_DuplicateName (c : CEE K mg E "DuplicateName" "DuplicateName.__init__" "name" iDuplicateName) : ∃ C, Er1 P w K mg base "DuplicateName" "DuplicateName.__init__" "name" E C := by
  obtain ⟨C, f, fd, c, no⟩ := c
  refine ⟨C, ⟨c.e, c.g, c.mro, no, f, fd, c.i, c.t, c.b, ?_⟩, _, _, _, c⟩
  refine Fun.ok c.F (N := ["self", "name"]) ⟨rfl, rfl, rfl, by decide +kernel, rfl, by decide +kernel, by decide +kernel⟩ (fun vs H Q E h => ?_) (fun cdv A outer s H vs Q E hr h => ?_)
  · obtain ⟨a, v, rfl, _⟩ := h
    rfl
  · obtain ⟨a, v, rfl, ea, q⟩ := h
    exact ⟨_, pss_one (ps_ost (pv 0) (pv 1)), _, rfl, _, rfl, a, C, rfl, c.e.o, no, .inl ⟨ea, q⟩⟩
theorem er1_LimitReached (c : CEE K mg E "LimitReached" "LimitReached.__init__" "limit" iLimitReached) : ∃ C, Er1 P w K mg base "LimitReached" "LimitReached.__init__" "limit" E C := by
  obtain ⟨C, f, fd, c, no⟩ := c
  refine ⟨C, ⟨c.e, c.g, c.mro, no, f, fd, c.i, c.t, c.b, ?_⟩, _, _, _, c⟩
  refine Fun.ok c.F (N := ["self", "limit"]) ⟨rfl, rfl, rfl, by decide +kernel, rfl, by decide +kernel, by decide +kernel⟩ (fun vs H Q E h => ?_) (fun cdv A outer s H vs Q E hr h => ?_)
  · obtain ⟨a, v, rfl, _⟩ := h
    rfl
  · obtain ⟨a, v, rfl, ea, q⟩ := h
    exact ⟨_, pss_one (ps_ost (pv 0) (pv 1)), _, rfl, _, rfl, a, C, rfl, c.e.o, no, .inl ⟨ea, q⟩⟩
theorem er1_AlreadyAdjacent (c : CEE K mg E "AlreadyAdjacent" "AlreadyAdjacent.__init__" "room" iAlreadyAdjacent) : ∃ C, Er1 P w K mg base "AlreadyAdjacent" "AlreadyAdjacent.__init__" "room" E C := by
  obtain ⟨C, f, fd, c, no⟩ := c
  refine ⟨C, ⟨c.e, c.g, c.mro, no, f, fd, c.i, c.t, c.b, ?_⟩, _, _, _, c⟩
  refine Fun.ok c.F (N := ["self", "room"]) ⟨rfl, rfl, rfl, by decide +kernel, rfl, by decide +kernel, by decide +kernel⟩ (fun vs H Q E h => ?_) (fun cdv A outer s H vs Q E hr h => ?_)
  · obtain ⟨a, v, rfl, _⟩ := h
    rfl
  · obtain ⟨a, v, rfl, ea, q⟩ := h
    exact ⟨_, pss_one (ps_ost (pv 0) (pv 1)), _, rfl, _, rfl, a, C, rfl, c.e.o, no, .inl ⟨ea, q⟩⟩
theorem er1_WouldFormCycle (c : CEE K mg E "WouldFormCycle" "WouldFormCycle.__init__" "room" iWouldFormCycle) : ∃ C, Er1 P w K mg base "WouldFormCycle" "WouldFormCycle.__init__" "room" E C := by
  obtain ⟨C, f, fd, c, no⟩ := c
  refine ⟨C, ⟨c.e, c.g, c.mro, no, f, fd, c.i, c.t, c.b, ?_⟩, _, _, _, c⟩
  refine Fun.ok c.F (N := ["self", "room"]) ⟨rfl, rfl, rfl, by decide +kernel, rfl, by decide +kernel, by decide +kernel⟩ (fun vs H Q E h => ?_) (fun cdv A outer s H vs Q E hr h => ?_)
  · obtain ⟨a, v, rfl, _⟩ := h
    rfl
  · obtain ⟨a, v, rfl, ea, q⟩ := h
    exact ⟨_, pss_one (ps_ost (pv 0) (pv 1)), _, rfl, _, rfl, a, C, rfl, c.e.o, no, .inl ⟨ea, q⟩⟩
theorem er1_BatchFailed (c : CEE K mg E "BatchFailed" "BatchFailed.__init__" "position" iBatchFailed) : ∃ C, Er1 P w K mg base "BatchFailed" "BatchFailed.__init__" "position" E C := by
  obtain ⟨C, f, fd, c, no⟩ := c
  refine ⟨C, ⟨c.e, c.g, c.mro, no, f, fd, c.i, c.t, c.b, ?_⟩, _, _, _, c⟩
  refine Fun.ok c.F (N := ["self", "position"]) ⟨rfl, rfl, rfl, by decide +kernel, rfl, by decide +kernel, by decide +kernel⟩ (fun vs H Q E h => ?_) (fun cdv A outer s H vs Q E hr h => ?_)
  · obtain ⟨a, v, rfl, _⟩ := h
    rfl
  · obtain ⟨a, v, rfl, ea, q⟩ := h
    exact ⟨_, pss_one (ps_ost (pv 0) (pv 1)), _, rfl, _, rfl, a, C, rfl, c.e.o, no, .inl ⟨ea, q⟩⟩
theorem er1_InvalidMoment (c : CEE K mg E "InvalidMoment" "InvalidMoment.__init__" "position" iInvalidMoment) : ∃ C, Er1 P w K mg base "InvalidMoment" "InvalidMoment.__init__" "position" E C := by
  obtain ⟨C, f, fd, c, no⟩ := c
  refine ⟨C, ⟨c.e, c.g, c.mro, no, f, fd, c.i, c.t, c.b, ?_⟩, _, _, _, c⟩
  refine Fun.ok c.F (N := ["self", "position"]) ⟨rfl, rfl, rfl, by decide +kernel, rfl, by decide +kernel, by decide +kernel⟩ (fun vs H Q E h => ?_) (fun cdv A outer s H vs Q E hr h => ?_)
  · obtain ⟨a, v, rfl, _⟩ := h
    rfl
  · obtain ⟨a, v, rfl, ea, q⟩ := h
    exact ⟨_, pss_one (ps_ost (pv 0) (pv 1)), _, rfl, _, rfl, a, C, rfl, c.e.o, no, .inl ⟨ea, q⟩⟩
end
end Fw
namespace Fw
open PySem PySem.Spec PyProof.Rows L2
/-- a statement that raises nothing, in a def that may raise -/
theorem ps_calm {X : Cx} {st : Stmt} {t : TS} (h : PS X.nox st t) : PS X st t := by
  constructor
  intro pins z σ H D I rd
  exact wpAny_mono (h.run pins z σ H D (I.wish _) rd) (fun _ _ => L2.SP.unwish) fun _ _ no => no.elim
end Fw
namespace Fw
open PySem PySem.Spec PyProof.Rows L2
/-! ### dicts by names -/
def dk (F : List (Str × V)) : List (Key × V) := F.map fun x => (Sum.inr x.1, x.2)
theorem valV_none {F : List (Str × V)} {nm : Str} (h : nm ∉ F.map (·.1)) : valV (dk F) (Sum.inr nm) = none := by
  induction F with
  | nil => rfl
  | cons x F ih =>
    rw [List.map_cons, List.mem_cons, not_or] at h
    show valV ((Sum.inr x.1, x.2) :: dk F) _ = none
    rw [valV_neg (fun e => h.1 (Sum.inr.inj e).symm)]
    exact ih h.2
theorem valV_dk {F : List (Str × V)} (nd : (F.map (·.1)).Nodup) {nm : Str} {v : V} (h : (nm, v) ∈ F) : valV (dk F) (Sum.inr nm) = some v := by
  induction F with
  | nil => cases h
  | cons x F ih =>
    rw [List.map_cons, List.nodup_cons] at nd
    rcases List.mem_cons.mp h with e | m
    · subst e
      exact valV_pos rfl
    · show valV ((Sum.inr x.1, x.2) :: dk F) _ = _
      rw [valV_neg (fun e => nd.1 (by rw [Sum.inr.inj e]; exact List.mem_map_of_mem (f := (·.1)) m))]
      exact ih nd.2 m
theorem merge_app : ∀ {F G : List (Str × V)}, ((F ++ G).map (·.1)).Nodup → mergeK (dk F) (dk G) = dk (F ++ G)
  | F, [], _ => by rw [List.append_nil]; rfl
  | F, x :: G, nd => by
    have n1 : x.1 ∉ F.map (·.1) := fun m => by
      rw [List.map_append, List.map_cons, List.nodup_append] at nd
      exact nd.2.2 x.1 m x.1 (List.mem_cons_self ..) rfl
    show mergeK (putK (dk F) (Sum.inr x.1) x.2) (dk G) = _
    rw [putK_new _ (valV_none n1)]
    have e : dk F ++ [(Sum.inr x.1, x.2)] = dk (F ++ [x]) := by unfold dk; rw [List.map_append]; rfl
    rw [e, merge_app (by rw [List.append_assoc]; exact nd), List.append_assoc]
    rfl
theorem merge_dk {F : List (Str × V)} (nd : (F.map (·.1)).Nodup) : mergeK [] (dk F) = dk F := merge_app (F := []) nd
theorem dk_len (F : List (Str × V)) : (dk F).length = F.length := by unfold dk; rw [List.length_map]
theorem PlAt.at {K : PySem.W.Frag} {H : Hp} {l : Addr} {X : List (Str × Int)} (x : PlAt H l X) {r : Int} (h0 : 0 ≤ r) (h1 : r < (X.length : Nat)) : ∃ xs t nm v, SqT K H l xs ∧ atI xs r = some (.ref t) ∧ H t = some (.tup [.str nm, .int v]) ∧ (nm, v) ∈ X := by
  obtain ⟨ps, e1, e2, e3⟩ := x
  have hj : r.toNat < ps.length := by rw [e2, List.length_map] at h1; omega
  have hm := List.getElem_mem hj
  refine ⟨_, ps[r.toNat].1, ps[r.toNat].2.1, ps[r.toNat].2.2, e1.sq, ?_, e3 _ hm, by rw [e2]; exact List.mem_map_of_mem (f := (·.2)) hm⟩
  have := atI_nat (xs := ps.map fun q => V.ref q.1) (j := r.toNat) (v := V.ref ps[r.toNat].1) (by rw [List.getElem?_map, List.getElem?_eq_getElem hj]; rfl)
  rw [show ((r.toNat : Nat) : Int) = r by omega] at this
  exact this
/-! ### dict(placement) -/
def dkI (P : List (Str × Int)) : List (Key × V) := dk (P.map fun x => (x.1, V.int x.2))
theorem dkI_keys (P : List (Str × Int)) : (P.map fun x => (x.1, V.int x.2)).map (·.1) = P.map (·.1) := by
  rw [List.map_map]
  rfl
theorem valV_dkI {P : List (Str × Int)} (nd : (P.map (·.1)).Nodup) {nm : Str} {r : Int} (h : (nm, r) ∈ P) : valV (dkI P) (Sum.inr nm) = some (.int r) :=
  valV_dk (by rw [dkI_keys]; exact nd) (List.mem_map.mpr ⟨(nm, r), h, rfl⟩)
theorem valV_dkI_none {P : List (Str × Int)} {nm : Str} (h : nm ∉ P.map (·.1)) : valV (dkI P) (Sum.inr nm) = none := valV_none (by rw [dkI_keys]; exact h)
theorem pairs_in {X : Cx} {pins : List (Addr × Obj)} {σ : L2.St} {H : Hp} {s : Shared} (I : Inv X pins σ H s) : ∀ {ps : List (Addr × Str × Int)}, (∀ q ∈ ps, H q.1 = some (.tup [.str q.2.1, .int q.2.2])) →
    ∃ (vs : List (Value × Value)) (kv : List (Key × Value)), vs.length = ps.length ∧ KV (dkI (ps.map (·.2))) kv ∧ kv.length = ps.length ∧
      ∀ (j : Nat) (u v : Value), vs[j]? = some (u, v) → ∃ q k, ps[j]? = some q ∧ PairAt s.heap q.1 u v ∧ kv[j]? = some (k, v) ∧ (mixKind X.prog X.w).is k u = true
  | [], _ => ⟨[], [], rfl, .nil, rfl, fun j u v e => by cases e⟩
  | p :: ps, h => by
    obtain ⟨vs, kv, l1, rel, l2, f⟩ := pairs_in I fun q hq => h q (List.mem_cons_of_mem _ hq)
    obtain ⟨its, rv, ht, _⟩ := I.tuple (SqT.of (h p (List.mem_cons_self ..)))
    obtain ⟨u, y, ei, ru, ry⟩ := vals2 rv
    subst ei
    refine ⟨(u, y) :: vs, (Sum.inr p.2.1, y) :: kv, by rw [List.length_cons, List.length_cons, l1], .cons ⟨rfl, ry⟩ rel, by rw [List.length_cons, List.length_cons, l2], fun j u' v' e => ?_⟩
    cases j with
    | zero =>
      cases e
      exact ⟨p, _, rfl, .inl ht, rfl, kV_is (P := X.prog) (w := X.w) (k := Sum.inr p.2.1) ru⟩
    | succ j => exact f j u' v' (by simpa using e)
theorem call_dictT {X : Cx} (hcalm : X.calm = true) : CallR X (.type "dict") (fun xs H Q => ∃ (a : Addr) (P : List (Str × Int)), xs = [.ref a] ∧ PlD H a P ∧ (P.map (·.1)).Nodup ∧ P.length ≤ 1000 ∧ ∀ p, H p = none → Q (.ref p) (upd H p (.dK (dkI P)))) := by
  intro pins s σ H xs us Q I r q
  obtain ⟨a, P, rfl, ⟨ps, ob, od, hp, eP, hps⟩, nd, lP, q⟩ := q
  obtain ⟨u, rfl, ru⟩ := vals1 r
  obtain rfl : u = Value.ref a := ru
  obtain ⟨ho, hz, its, rel, ⟨o2, ho2, hc2, n2, hd2⟩⟩ := (show ObjOk X.prog X.w H s.heap a (.frz ob (.tup (ps.map fun q => V.ref q.1))) from I.hok a _ hp)
  have e2 : o2 = ob := by
    rw [ho] at ho2
    exact (Option.some.inj ho2).symm
  subst e2
  have ei : its = (ps.map (·.1)).map Value.ref := refs_at (by rw [List.map_map]; exact rel)
  obtain ⟨vs, kv, l1, rk, l2, f⟩ := pairs_in I hps
  have lp : ps.length = P.length := by rw [eP, List.length_map]
  have hlen : (dkI P).length ≤ sizeLine := by
    unfold dkI
    rw [dk_len, List.length_map]
    exact Nat.le_of_lt (small1000 lP)
  have hsz : vs.length ≤ sizeLine := by
    rw [l1, lp]
    exact Nat.le_of_lt (small1000 lP)
  refine PySem.call_dict_pairs (knd := mixKind X.prog X.w) (kvs := kv) (PairArg.tuple a its.toArray (fun j => (ps.map (·.1)).getD j 0) vs) (I.ok.hd hcalm) ⟨⟨o2, n2, ho, hc2, od, hd2⟩, ?_, fun j k v e => ?_⟩ ⟨by rw [l2, l1], fun j key v e => ?_⟩ hsz fun h' tk hd' k => ?_
  · rw [ei, List.size_toArray, List.length_map, List.length_map, l1]
  · obtain ⟨q', k', hq, hpa, _, _⟩ := f j k v e
    have hg : (ps.map (·.1))[j]? = some q'.1 := by rw [List.getElem?_map, hq]; rfl
    have hT : (ps.map (·.1)).getD j 0 = q'.1 := by rw [List.getD_eq_getElem?_getD, hg]; rfl
    show its.toArray[j]? = some (Value.ref ((ps.map (·.1)).getD j 0)) ∧ PairAt s.heap ((ps.map (·.1)).getD j 0) k v
    rw [hT]
    refine ⟨?_, hpa⟩
    rw [ei, List.getElem?_toArray, List.getElem?_map, hg]
    rfl
  · obtain ⟨q', k', _, _, hk, hi⟩ := f j key v e
    exact ⟨k', hk, hi⟩
  · have hm : (s.heap.objs.size == sysModules) = false := beq_eq_false_iff_ne.mpr (Nat.ne_of_gt I.big)
    have em : mergeK [] (dkI P) = dkI P := merge_dk (by rw [dkI_keys]; exact nd)
    have rk' : KV (dkI P) (merged [] kv) := by
      have := KV.merge (kvs := []) (vs := []) rk .nil
      rw [← eP, em] at this
      exact this
    exact ⟨.ref s.heap.objs.size, upd H s.heap.objs.size (.dK (dkI P)), I.laid (t' := tk) (fun b o e => k b o List.not_mem_nil e) (Nat.le_refl _) (show ObjOk X.prog X.w _ _ _ (.dK (dkI P)) from ⟨hlen, hm, merged [] kv, rk', hd'⟩), rfl, q _ (I.hok.fresh (Nat.le_refl _))⟩
end Fw
set_option maxHeartbeats 2000000
namespace Fw
open PySem PySem.Spec PyProof.Rows L2
/-! ### placements compared -/
theorem eqvAll_pp : ∀ (R G : List (Str × Int)), PyData.eqvAll (R.map pp) (G.map pp) = decide (R = G)
  | [], [] => rfl
  | [], _ :: _ => by rw [List.map_nil, List.map_cons, PyData.eqvAll]; rfl
  | _ :: _, [] => by rw [List.map_nil, List.map_cons, PyData.eqvAll]; rfl
  | x :: R, y :: G => by
    rw [List.map_cons, List.map_cons, PyData.eqvAll, eqvAll_pp R G]
    obtain ⟨x1, x2⟩ := x
    obtain ⟨y1, y2⟩ := y
    simp only [pp, PyData.eqv, PyData.eqvAll, Bool.and_true]
    rw [Bool.eq_iff_iff]
    simp
theorem eqv_pld (R G : List (Str × Int)) : PyData.eqv (pld R) (pld G) = decide (R = G) := by
  unfold pld
  rw [PyData.eqv]
  exact eqvAll_pp R G
end Fw
namespace Fw
open PySem PySem.Spec PyProof.Rows L2
open RZ
/-- zip of two tuples, the second the shorter -/
theorem lc_zipS {K : PySem.W.Frag} {a b : Addr} {xs ys : List V} {g : TG} {tt : TT} {te : TE} {vs : List Nat} {σ : L2.St} {H1 : Hp} {D : Addr} {Qd : Hp → Prop} (hl : ys.length ≤ xs.length) (Pv : Nat → Hp → Prop) (h0 : Pv 0 (upd H1 D (.lst []))) (hq : ∀ i H, Pv i H → SqT K H a xs ∧ SqT K H b ys)
    (hs : ∀ (i : Nat) (x y : V) (T : Addr) (H : Hp), xs[i]? = some x → ys[i]? = some y → Pv i H → H T = none → g (.ref T) (wipe σ vs) (upd H T (.tup [x, y])) fun σ2 H2 => wipe σ2 vs = wipe σ vs ∧ tt σ2 H2 fun b H3 =>
      if b = true then te σ2 H3 fun y H4 => ∃ acc, H4 D = some (.lst acc) ∧ acc.length < sizeLine ∧ Pv (i + 1) (upd H4 D (.lst (acc ++ [y]))) else Pv (i + 1) H3) (hd : ∀ H, Pv ys.length H → Qd H) :
    ∃ W : Nat → Nat → Hp → Prop, (∃ m, W 0 m (upd H1 D (.lst []))) ∧ ∀ i m H, W i m H →
      ((ItzT K a b).stop i H ∧ Qd H) ∨ ((ItzT K a b).go i H ∧ ∃ Nx : Hp → Prop, (∀ H', Nx H' → ∃ m', m' < m ∧ W (i + 1) m' H') ∧ ∀ x H', (ItzT K a b).yld i H x H' → g x (wipe σ vs) H' fun σ2 H2 => wipe σ2 vs = wipe σ vs ∧ tt σ2 H2 fun b H3 =>
        if b = true then te σ2 H3 fun y H4 => ∃ acc, H4 D = some (.lst acc) ∧ acc.length < sizeLine ∧ Nx (upd H4 D (.lst (acc ++ [y]))) else Nx H3) := by
  refine ⟨fun i m H => m = ys.length - i ∧ i ≤ ys.length ∧ Pv i H, ⟨ys.length, rfl, Nat.zero_le _, h0⟩, ?_⟩
  rintro i m H ⟨rfl, hi, p⟩
  obtain ⟨qx, qy⟩ := hq i H p
  by_cases hlt : i < ys.length
  · have hx : xs[i]? = some xs[i] := List.getElem?_eq_getElem (by omega)
    have hy : ys[i]? = some ys[i] := List.getElem?_eq_getElem hlt
    refine .inr ⟨⟨xs, ys, _, _, qx, qy, hx, hy⟩, Pv (i + 1), fun H' p' => ⟨ys.length - (i + 1), by omega, rfl, hlt, p'⟩, fun v H' y => ?_⟩
    obtain ⟨T, x', y', rfl, hT, rfl, f1, f2⟩ := y
    exact hs i x' y' T H (f1 xs qx) (f2 ys qy) p hT
  · have e : i = ys.length := by omega
    subst e
    exact .inl ⟨⟨xs, ys, qx, qy, Or.inr (Nat.le_refl _)⟩, hd H p⟩
theorem tp_ty {K : PySem.W.Frag} {H : Hp} {p : Addr} {xs : List V} (h : TpAt H p xs) : TyX K H (.ref p) (.type "tuple") := h.elim (fun h => .base (.tup h)) fun ⟨_, _, h⟩ => .fTuple h
theorem k_ss : kitB "str" "str" = some true := by decide +kernel
theorem k_tt' : kitB "tuple" "tuple" = some true := by decide +kernel
theorem cut1 (xs : List V) : cutV xs (some 1) none = xs.drop 1 := by
  unfold cutV
  show (xs.drop (min 1 xs.length)).take (xs.length - min 1 xs.length) = xs.drop 1
  cases xs with
  | nil => rfl
  | cons x r =>
    rw [show min 1 (x :: r).length = 1 by simp]
    exact List.take_of_length_le (by simp)
theorem one_le {c : Nat} (h : 97 ≤ c) : decide ((⟨#[c]⟩ : Str).cps.toList < (Str.ofString "a").cps.toList) = false := by
  rw [show (Str.ofString "a").cps.toList = [97] by decide +kernel]
  rw [decide_eq_false_iff_not]
  intro h2
  have h2 : [c] < [97] := h2
  rw [List.cons_lt_cons_iff] at h2
  rcases h2 with h2 | ⟨_, h2⟩
  · omega
  · exact absurd h2 (List.lt_irrefl _)
theorem one_ge {c : Nat} (h : c ≤ 122) : decide ((Str.ofString "z").cps.toList < (⟨#[c]⟩ : Str).cps.toList) = false := by
  rw [show (Str.ofString "z").cps.toList = [122] by decide +kernel]
  rw [decide_eq_false_iff_not]
  intro h2
  have h2 : [122] < [c] := h2
  rw [List.cons_lt_cons_iff] at h2
  rcases h2 with h2 | ⟨_, h2⟩
  · omega
  · exact absurd h2 (List.lt_irrefl _)
theorem names_snoc {P : List (Str × Int)} {k : Nat} {nm : Str} {r : Int} (h : P[k]? = some (nm, r)) : (P.take (k + 1)).map (·.1) = (P.take k).map (·.1) ++ [nm] := by
  rw [take_snoc h, List.map_append]
  rfl
section
variable {P : Program} {w : World} {K : PySem.W.Frag} {mg : Str → Option Value} {base : Heap}
def spIsNameT : Sp := fun vs H Q _ => ∃ nm, vs = [.str nm] ∧ Nam nm ∧ ∀ H', Same H H' → Q (.bl true) H'
abbrev nIsName : List Str := ["value", "letter"]
theorem scIsName : FnScope nIsName ["value"] (defScope sIsName) := ⟨rfl, rfl, rfl, by decide +kernel, rfl, by decide +kernel, by decide +kernel⟩
theorem ok_isname {f : Addr} {fd : FuncData} {k : Nat} (F : Fun K "is_name" "is_name" sIsName f fd) (T : Nm mg) {tk : Tok} (M : mg "LONGEST_NAME" = some (.int 8 tk)) : FnOk P w K mg base CX0 (k + 1) f fd pIsInt spIsNameT := by
  refine F.ok scIsName (fun vs H Q E h => ?_) (fun cdv A outer s H vs Q E hr h => ?_)
  · obtain ⟨nm, rfl, _⟩ := h
    rfl
  · obtain ⟨nm, rfl, hn, q⟩ := h
    refine ⟨_, (pss_cons (ps_if (PW.pt (pw_or (pt_not (pt_val (pe_callB call_isi (by rfl) T.isinstance (by decide +kernel) (pa_cons (pv 0) (pa_cons (pe_bltn (v := .ty "str") (by rfl) T.str (by decide +kernel) rfl) pa_nil))))) (pw_or1 (pt_not (pt_chain op_le op_le pe_int (pe_callB call_len_str (by rfl) T.len (by decide +kernel) (pa_cons (pv 0) pa_nil)) (pe_glob (v := .int 8) (by rfl) M ⟨_, rfl⟩))))))
      (pss_one (ps_ret pe_bl))
      pss_nil)
      (pss_one (ps_ret (pe_callB (cr_all rfl) (by rfl) T.all (by decide +kernel) (pa_cons (pe_lc (own := [("letter", 1)]) (g := gName 1) (by rfl) scIsName.nd (pi_str (pv 0))
 (blkOk_by (own := [("letter", 1)]) (N := nIsName) (sc := defScope sIsName) (by decide +kernel))
 (fun _ _ _ _ _ => (pg_name (i := 1) scIsName.nd rfl (.inl rfl))) (fun _ _ _ _ _ => pts_nil) (fun _ _ _ _ _ => (pe_chain op_le_str op_le_str pe_str (pv 1) pe_str))) pa_nil))))), ?_⟩
    have l1 := hn.1
    have l2 := hn.2.1
    refine ⟨_, rfl, _, _, _, _, _, rfl, .ty _, .base (.str _), kit_ty k_ss, _, rfl, iteF ⟨_, rfl, _, rfl, Nat.le_of_lt (small1000 (by omega)), _, _, rfl, rfl, _, rfl, ?_⟩⟩
    rw [decide_eq_true (show (1 : Int) ≤ (nm.length : Nat) by omega)]
    refine iteT ⟨_, _, rfl, rfl, _, rfl, ?_⟩
    rw [decide_eq_true (show ((nm.length : Nat) : Int) ≤ 8 by omega)]
    refine iteF ⟨_, rfl, nm, rfl, fun L hL => lc_it walk_str (fun i H1 => Same H H1 ∧ H1 L = some (.lst ((List.replicate i true).map V.bl))) ⟨same_upd hL, upd_same⟩ (fun _ _ _ _ => trivial) ?_ ?_⟩
    · rintro i x H1 H2 hi ⟨s1, e1⟩ ⟨rfl, c, hc, rfl⟩
      have cm : c ∈ nm.cps.toList := by
        rw [Array.mem_toList_iff]
        exact Array.mem_of_getElem? hc
      obtain ⟨c0, c1⟩ := hn.2.2 c cm
      refine ⟨rfl, ?_⟩
      unfold tYes
      refine iteT ⟨_, rfl, _, _, rfl, rfl, _, rfl, ?_⟩
      rw [one_le c0]
      refine iteT ⟨_, _, rfl, rfl, ?_⟩
      rw [one_ge c1]
      refine ⟨_, e1, ?_, same_put s1 hL, ?_⟩
      · rw [List.length_map, List.length_replicate]
        have : nm.cps.size = nm.length := rfl
        exact small1000 (by omega)
      · rw [upd_same, List.replicate_succ', List.map_append]
        rfl
    · rintro H1 ⟨s1, e1⟩
      refine ⟨L, List.replicate _ true, rfl, SqL.of e1, ?_⟩
      rw [show (List.replicate nm.cps.size true).all id = true by simp]
      exact q _ s1
def spIsPairT : Sp := fun vs H Q _ => ∃ (t : Addr) (x y : V), vs = [.ref t] ∧ H t = some (.tup [x, y]) ∧ Q (.bl true) H
abbrev nIsPair : List Str := ["value"]
theorem scIsPair : FnScope nIsPair ["value"] (defScope sIsPair) := ⟨rfl, rfl, rfl, by decide +kernel, rfl, by decide +kernel, by decide +kernel⟩
theorem ok_ispair {f : Addr} {fd : FuncData} {k : Nat} (F : Fun K "is_pair" "is_pair" sIsPair f fd) (T : Nm mg) : FnOk P w K mg base CX0 (k + 1) f fd pIsInt spIsPairT := by
  refine F.ok scIsPair (fun vs H Q E h => ?_) (fun cdv A outer s H vs Q E hr h => ?_)
  · obtain ⟨t, x, y, rfl, _⟩ := h
    rfl
  · obtain ⟨t, x, y, rfl, e, q⟩ := h
    refine ⟨_, (pss_one (ps_ret (pe_and (pe_callB call_isi (by rfl) T.isinstance (by decide +kernel) (pa_cons (pv 0) (pa_cons (pe_bltn (v := .ty "tuple") (by rfl) T.tuple (by decide +kernel) rfl) pa_nil))) (pe_one (pe_cmpR op_eq (pe_callB (call_lenK K rfl) (by rfl) T.len (by decide +kernel) (pa_cons (pv 0) pa_nil)) pe_int (nomark _)))))), ?_⟩
    exact ⟨_, rfl, _, _, _, _, _, rfl, .ty _, .base (.tup e), kit_ty k_tt', _, rfl, iteT ⟨_, rfl, t, _, rfl, .inr (SqT.of e), rfl, q⟩⟩
def spIsPRT : Sp := fun vs H Q _ => ∃ (h t : Addr) (n : Int) (D : List (Int × Int)) (nm : Str) (r : Int), vs = [.ref h, .ref t] ∧ HouseAt H h n D ∧ H t = some (.tup [.str nm, .int r]) ∧ Nam nm ∧ 0 ≤ r ∧ r < n ∧ ∀ H', Same H H' → Q (.bl true) H'
abbrev nIsPR : List Str := ["house", "value", "name", "room"]
theorem scIsPR : FnScope nIsPR ["house", "value"] (defScope sIsPR) := ⟨rfl, rfl, rfl, by decide +kernel, rfl, by decide +kernel, by decide +kernel⟩
theorem ok_ispr {f : Addr} {fd : FuncData} {k : Nat} (F : Fun K "is_person_in_room" "is_person_in_room" sIsPR f fd) (Cis_pair : Cal P w K mg base (k + 2) "is_pair" pIsInt spIsPairT) (Cis_name : Cal P w K mg base (k + 2) "is_name" pIsInt spIsNameT) (Cis_room : Cal P w K mg base (k + 2) "is_room" pIsRoom spIsRoom) : FnOk P w K mg base CX0 (k + 3) f fd pIsRoom spIsPRT := by
  refine F.ok scIsPR (fun vs H Q E h => ?_) (fun cdv A outer s H vs Q E hr h => ?_)
  · obtain ⟨h, t, n, D, nm, r, rfl, _⟩ := h
    rfl
  · obtain ⟨h, t, n, D, nm, r, rfl, hH, et, hn, r0, r1, q⟩ := h
    refine ⟨_, (pss_cons (ps_if (pt_not (pt_val (pe_cal Cis_pair hr (by rfl) (pa_cons (pv 1) pa_nil))))
      (pss_one (ps_ret pe_bl))
      pss_nil)
      (pss_cons (ps_asg (pv 1) (pg_tup (by rfl) (pgs_cons (pg_name (i := 2) scIsPR.nd rfl (.inl rfl)) (pgs_cons (pg_name (i := 3) scIsPR.nd rfl (.inl rfl)) pgs_nil))))
      (pss_one (ps_ret (pe_and (pe_cal Cis_name hr (by rfl) (pa_cons (pv 2) pa_nil)) (pe_one (pe_cal Cis_room hr (by rfl) (pa_cons (pv 0) (pa_cons (pv 3) pa_nil))))))))), ?_⟩
    refine ⟨_, rfl, t, _, _, rfl, et, _, rfl, iteF ⟨_, rfl, t, _, rfl, SqT.of et, rfl, _, _, rfl, _, _, rfl, rfl, ?_⟩⟩
    refine ⟨_, rfl, nm, rfl, hn, fun H1 s1 => ⟨_, rfl, iteT ⟨_, rfl, _, rfl, h, n, D, r, rfl, hH.same s1, ?_⟩⟩⟩
    rw [decide_eq_true ⟨r0, r1⟩]
    exact q _ s1
def spNamesOf : Sp := fun vs H Q _ => ∃ (p : Addr) (P : List (Str × Int)), vs = [.ref p] ∧ PlAt H p P ∧ P.length ≤ 100 ∧ ∀ H' t, Same H H' → H' t = some (.tup ((P.map (·.1)).map V.str)) → Q (.ref t) H'
abbrev nNamesOf : List Str := ["placement", "name", "room"]
theorem scNamesOf : FnScope nNamesOf ["placement"] (defScope sNamesOf) := ⟨rfl, rfl, rfl, by decide +kernel, rfl, by decide +kernel, by decide +kernel⟩
theorem ok_namesof {f : Addr} {fd : FuncData} {k : Nat} (F : Fun K "names_of" "names_of" sNamesOf f fd) (T : Nm mg) : FnOk P w K mg base CX0 (k + 1) f fd pNamesOf spNamesOf := by
  refine F.ok scNamesOf (fun vs H Q E h => ?_) (fun cdv A outer s H vs Q E hr h => ?_)
  · obtain ⟨p, P, rfl, _⟩ := h
    rfl
  · obtain ⟨p, P, rfl, hP, lP, q⟩ := h
    refine ⟨_, (pss_one (ps_ret (pe_callTy (call_tupleK K rfl) (by rfl) T.tuple (by decide +kernel) (pa_cons (pe_lc (own := [("name", 1), ("room", 2)]) (g := gTup K 2 (gCons (gName 1) (gCons (gName 2) gNil))) (by rfl) scNamesOf.nd (pi_tup (pv 0))
 (blkOk_by (own := [("name", 1), ("room", 2)]) (N := nNamesOf) (sc := defScope sNamesOf) (by decide +kernel))
 (fun _ _ _ _ _ => (pg_tup (by rfl) (pgs_cons (pg_name (i := 1) scNamesOf.nd rfl (.inl rfl)) (pgs_cons (pg_name (i := 2) scNamesOf.nd rfl (.inl rfl)) pgs_nil)))) (fun _ _ _ _ _ => pts_nil) (fun _ _ _ _ _ => (pv 1))) pa_nil)))), ?_⟩
    refine ⟨_, rfl, p, rfl, hP.sq, fun L hL => lc_pl hP (fun i H1 => Same H H1 ∧ H1 L = some (.lst (((P.take i).map (·.1)).map V.str))) ⟨same_upd hL, upd_same⟩ (fun _ _ h => Tk.of h.1) ?_ ?_⟩
    · rintro k nm r H1 hk ⟨s1, e1⟩
      refine ⟨rfl, ?_⟩
      unfold tYes
      refine iteT ⟨_, rfl, _, e1, ?_, same_put s1 hL, ?_⟩
      · rw [List.length_map, List.length_map, List.length_take]
        exact small1000 (by omega)
      · rw [upd_same, names_snoc hk, vs_app]
        rfl
    · rintro H1 ⟨s1, e1⟩
      rw [List.take_length] at e1
      exact ⟨L, _, rfl, .inl ⟨SqL.of e1, fun t ht => q _ t (s1.trans (same_upd ht)) upd_same⟩⟩
def spIsAscS : Sp := fun vs H Q _ => ∃ (t : Addr) (ns : List Str), vs = [.ref t] ∧ H t = some (.tup (ns.map V.str)) ∧ ns.Pairwise ltS ∧ ns.length ≤ 100 ∧ ∀ H', Same H H' → Q (.bl true) H'
abbrev nIsAsc : List Str := ["sequence", "one", "other"]
theorem scIsAsc : FnScope nIsAsc ["sequence"] (defScope sIsAsc) := ⟨rfl, rfl, rfl, by decide +kernel, rfl, by decide +kernel, by decide +kernel⟩
theorem ok_isasc {f : Addr} {fd : FuncData} {k : Nat} (F : Fun K "is_ascending" "is_ascending" sIsAsc f fd) (T : Nm mg) : FnOk P w K mg base CX0 (k + 1) f fd pIsAsc spIsAscS := by
  refine F.ok scIsAsc (fun vs H Q E h => ?_) (fun cdv A outer s H vs Q E hr h => ?_)
  · obtain ⟨t, ns, rfl, _⟩ := h
    rfl
  · obtain ⟨t, ns, rfl, et, up, lns, q⟩ := h
    refine ⟨_, (pss_one (ps_ret (pe_callB (cr_all rfl) (by rfl) T.all (by decide +kernel) (pa_cons (pe_lc (own := [("one", 1), ("other", 2)]) (g := gTup K 2 (gCons (gName 1) (gCons (gName 2) gNil))) (by rfl) scIsAsc.nd (pi_zipA (by rfl) T.zip (pa_cons (pv 0) (pa_cons (pe_slice sl_tupA (pv 0) (po_some pe_int) po_none) pa_nil)))
 (blkOk_by (own := [("one", 1), ("other", 2)]) (N := nIsAsc) (sc := defScope sIsAsc) (by decide +kernel))
 (fun _ _ _ _ _ => (pg_tup (by rfl) (pgs_cons (pg_name (i := 1) scIsAsc.nd rfl (.inl rfl)) (pgs_cons (pg_name (i := 2) scIsAsc.nd rfl (.inl rfl)) pgs_nil)))) (fun _ _ _ _ _ => pts_nil) (fun _ _ _ _ _ => (pe_cmpR op_lt_str (pv 1) (pv 2) (nomark _)))) pa_nil)))), ?_⟩
    have main : ∀ (H1 : Hp) (u : Addr), Same H H1 → H1 u = some (.tup ((ns.map V.str).drop 1)) → ∀ Qd : Hp → Prop, True := fun _ _ _ _ _ => trivial
    refine ⟨_, rfl, _, rfl, _, rfl, t, _, rfl, SqT.of et, fun hfull => ?_, fun _ u hu => ?_⟩
    · have h0 : ns = [] := by
        have h1 : min 1 (ns.map V.str).length = 0 := hfull.1
        rw [List.length_map] at h1
        exact List.eq_nil_of_length_eq_zero (by omega)
      subst h0
      refine ⟨t, t, _, _, rfl, .inr ⟨SqT.of et, SqT.of et, fun L hL => lc_zipS (K := K) (a := t) (b := t) (xs := []) (ys := []) (Nat.le_refl _) (fun i H1 => Same H H1 ∧ H1 L = some (.lst []))
        ⟨same_upd hL, upd_same⟩ (fun i H1 hh => ⟨SqT.of (hh.1 _ _ et), SqT.of (hh.1 _ _ et)⟩) ?_ ?_⟩⟩
      · rintro i x y T' H1 hx
        cases hx
      · rintro H1 ⟨s1, e1⟩
        exact ⟨L, [], rfl, SqL.of e1, q _ s1⟩
    · rw [cut1] at *
      have su := same_upd (o := .tup ((ns.map V.str).drop 1)) hu
      refine ⟨t, u, _, _, rfl, .inr ⟨SqT.of (su _ _ et), SqT.of upd_same, fun L hL => lc_zipS (K := K) (a := t) (b := u) (xs := ns.map V.str) (ys := (ns.map V.str).drop 1) (by rw [List.length_drop]; omega) (fun i H1 => Same (upd H u (.tup ((ns.map V.str).drop 1))) H1 ∧ H1 L = some (.lst ((List.replicate i true).map V.bl)))
        ⟨same_upd hL, upd_same⟩ (fun i H1 hh => ⟨SqT.of (hh.1 _ _ (su _ _ et)), SqT.of (hh.1 _ _ upd_same)⟩) ?_ ?_⟩⟩
      · rintro i x y T' H1 hx hy ⟨s1, e1⟩ hT
        obtain ⟨a, ha, rfl⟩ := get_vs hx
        rw [List.getElem?_drop] at hy
        obtain ⟨b, hb, rfl⟩ := get_vs hy
        have hlt : ltS a b := by
          obtain ⟨i1, e1⟩ := List.getElem?_eq_some_iff.mp ha
          obtain ⟨i2, e2⟩ := List.getElem?_eq_some_iff.mp hb
          have := (List.pairwise_iff_getElem.mp up) i (1 + i) i1 i2 (by omega)
          rw [e1, e2] at this
          exact this
        have li := lt_of_get ha
        refine ⟨T', _, rfl, SqT.of upd_same, rfl, _, _, rfl, _, _, rfl, rfl, rfl, ?_⟩
        unfold tYes
        refine iteT ⟨_, rfl, _, rfl, _, _, rfl, rfl, ?_⟩
        rw [decide_eq_true (show a.cps.toList < b.cps.toList from hlt)]
        refine ⟨_, same_upd hT _ _ e1, ?_, same_put (s1.trans (same_upd hT)) hL, ?_⟩
        · rw [List.length_map, List.length_replicate]
          exact small1000 (by omega)
        · rw [upd_same, List.replicate_succ', List.map_append]
          rfl
      · rintro H1 ⟨s1, e1⟩
        refine ⟨L, List.replicate _ true, rfl, SqL.of e1, ?_⟩
        rw [show (List.replicate ((ns.map V.str).drop 1).length true).all id = true by simp]
        exact q _ (su.trans s1)
def spIsPlT : Sp := fun vs H Q _ => ∃ (h p : Addr) (n : Int) (D : List (Int × Int)) (P : List (Str × Int)), vs = [.ref h, .ref p] ∧ HouseAt H h n D ∧ PlAt H p P ∧ Pl n P ∧ P.length ≤ 12 ∧ ∀ H', Same H H' → Q (.bl true) H'
abbrev nIsPl : List Str := ["house", "value", "pair"]
theorem scIsPl : FnScope nIsPl ["house", "value"] (defScope sIsPl) := ⟨rfl, rfl, rfl, by decide +kernel, rfl, by decide +kernel, by decide +kernel⟩
theorem ok_ispl {f : Addr} {fd : FuncData} {k : Nat} (F : Fun K "is_placement" "is_placement" sIsPl f fd) (T : Nm mg) {tk : Tok} (M : mg "MAX_PEOPLE" = some (.int 12 tk)) (Cis_person_in_room : Cal P w K mg base (k + 3) "is_person_in_room" pIsRoom spIsPRT) (Cnames_of : Cal P w K mg base (k + 3) "names_of" pNamesOf spNamesOf) (Cis_ascending : Cal P w K mg base (k + 3) "is_ascending" pIsAsc spIsAscS) : FnOk P w K mg base CX0 (k + 4) f fd pIsRoom spIsPlT := by
  refine F.ok scIsPl (fun vs H Q E h => ?_) (fun cdv A outer s H vs Q E hr h => ?_)
  · obtain ⟨h, p, n, D, P, rfl, _⟩ := h
    rfl
  · obtain ⟨h, p, n, D, P, rfl, hH, hP, pl, lP, q⟩ := h
    refine ⟨_, (pss_cons (ps_if (PW.pt (pw_or (pt_not (pt_val (pe_callB call_isi (by rfl) T.isinstance (by decide +kernel) (pa_cons (pv 1) (pa_cons (pe_bltn (v := .ty "tuple") (by rfl) T.tuple (by decide +kernel) rfl) pa_nil))))) (pw_or1 (pt_cmpR op_gt (pe_callB (call_lenK K rfl) (by rfl) T.len (by decide +kernel) (pa_cons (pv 1) pa_nil)) (pe_glob (v := .int 12) (by rfl) M ⟨_, rfl⟩) (nomark _)))))
      (pss_one (ps_ret pe_bl))
      pss_nil)
      (pss_cons (ps_if (pt_not (pt_val (pe_callB (cr_all rfl) (by rfl) T.all (by decide +kernel) (pa_cons (pe_lc (own := [("pair", 2)]) (g := gName 2) (by rfl) scIsPl.nd (pi_tup (pv 1))
 (blkOk_by (own := [("pair", 2)]) (N := nIsPl) (sc := defScope sIsPl) (by decide +kernel))
 (fun _ _ _ _ _ => (pg_name (i := 2) scIsPl.nd rfl (.inl rfl))) (fun _ _ _ _ _ => pts_nil) (fun _ _ _ _ _ => (pe_cal Cis_person_in_room hr (by rfl) (pa_cons (pv 0) (pa_cons (pv 2) pa_nil))))) pa_nil))))
      (pss_one (ps_ret pe_bl))
      pss_nil)
      (pss_one (ps_ret (pe_cal Cis_ascending hr (by rfl) (pa_cons (pe_cal Cnames_of hr (by rfl) (pa_cons (pv 1) pa_nil)) pa_nil)))))), ?_⟩
    obtain ⟨ps, h1, h2, h3⟩ := id hP
    have lps : ps.length = P.length := by rw [h2, List.length_map]
    refine ⟨_, rfl, _, _, _, _, _, rfl, .ty _, tp_ty h1, kit_ty k_tt', _, rfl, iteF ⟨_, rfl, p, _, rfl, .inr h1.sq, _, _, rfl, rfl, _, rfl, ?_⟩⟩
    rw [List.length_map, decide_eq_false (show ¬ ((ps.length : Nat) : Int) > 12 by omega)]
    refine iteF ⟨_, rfl, p, rfl, ⟨_, h1.sq⟩, fun L hL => lc_tup (K := K) (a := p) (xs := ps.map fun q => V.ref q.1) (fun i H1 => Same H H1 ∧ H1 L = some (.lst ((List.replicate i true).map V.bl))) ⟨same_upd hL, upd_same⟩ (fun i H1 _ hh => (h1.same hh.1).sq) ?_ ?_⟩
    · rintro i x H1 hx ⟨s1, e1⟩
      obtain ⟨u, hu, rfl⟩ := get_pl hx
      have mu := List.mem_of_getElem? hu
      have mP : u.2 ∈ P := by rw [h2]; exact List.mem_map_of_mem mu
      have hi := lt_of_get hu
      refine ⟨rfl, ?_⟩
      unfold tYes
      refine iteT ⟨_, rfl, _, rfl, h, u.1, n, D, u.2.1, u.2.2, rfl, hH.same s1, s1 _ _ (h3 u mu), pl.nm.nam _ (List.mem_map_of_mem (f := (·.1)) mP), (pl.rm _ mP).1, (pl.rm _ mP).2, fun H2 s2 => ⟨_, s2 _ _ e1, ?_, same_put (s1.trans s2) hL, ?_⟩⟩
      · rw [List.length_map, List.length_replicate]
        exact small1000 (by omega)
      · rw [upd_same, List.replicate_succ', List.map_append]
        rfl
    · rintro H1 ⟨s1, e1⟩
      refine ⟨L, List.replicate _ true, rfl, SqL.of e1, _, rfl, ?_⟩
      rw [show (List.replicate (ps.map fun q => V.ref q.1).length true).all id = true by simp]
      refine iteF ⟨_, rfl, p, P, rfl, hP.same s1, by omega, fun H2 t s2 e2 => ⟨t, _, rfl, e2, pl.nm.up, by rw [List.length_map]; omega, fun H3 s3 => q _ (s1.trans (s2.trans s3))⟩⟩
end
end Fw
namespace Fw
open PySem PySem.Spec PyProof.Rows L2
theorem rd_sm {H H1 : Hp} (s : Same H H1) {a : Addr} {o : HO} (h : Rd H a o) : Rd H1 a o := by
  rcases h with e | ⟨ob, e⟩
  · exact .inl (s _ _ e)
  · exact .inr ⟨ob, s _ _ e⟩
theorem sqL_sm {K : PySem.W.Frag} {H H1 : Hp} (s : Same H H1) {a : Addr} {xs : List V} (h : SqL K H a xs) : SqL K H1 a xs := by
  rcases h with e | e
  · exact .inl (rd_sm s e)
  · exact .inr e
theorem sqT_sm {K : PySem.W.Frag} {H H1 : Hp} (s : Same H H1) {a : Addr} {xs : List V} (h : SqT K H a xs) : SqT K H1 a xs := by
  rcases h with e | e
  · exact .inl (rd_sm s e)
  · exact .inr e
end Fw
set_option maxHeartbeats 2000000
namespace Fw
open PySem PySem.Spec PyProof.Rows L2
/-! any value of the laws: data, with {} as a leaf; no list of it is sys.modules or among av -/
mutual
inductive Dx (K : PySem.W.Frag) (av : List Addr) (H : Hp) : V → PyData → Prop
  | non : Dx K av H .non .none
  | bl (b : Bool) : Dx K av H (.bl b) (.bool b)
  | int (i : Int) : Dx K av H (.int i) (.int i)
  | str (x : Str) : Dx K av H (.str x) (.str x)
  | lst {a : Addr} {xs : List V} {ds : List PyData} : SqL K H a xs → a ∉ sysModules :: av → DxAll K av H xs ds → Dx K av H (.ref a) (.list ds)
  | tup {a : Addr} {xs : List V} {ds : List PyData} : SqT K H a xs → DxAll K av H xs ds → Dx K av H (.ref a) (.tuple ds)
  | dct {a : Addr} : H a = some (.dK []) → Dx K av H (.ref a) (.dict [])
inductive DxAll (K : PySem.W.Frag) (av : List Addr) (H : Hp) : List V → List PyData → Prop
  | nil : DxAll K av H [] []
  | cons {v : V} {vs : List V} {d : PyData} {ds : List PyData} : Dx K av H v d → DxAll K av H vs ds → DxAll K av H (v :: vs) (d :: ds)
end
mutual
theorem dx_sm {K : PySem.W.Frag} {av : List Addr} {H H1 : Hp} (s : Same H H1) : ∀ {v : V} {d : PyData}, Dx K av H v d → Dx K av H1 v d
  | _, _, .non => .non
  | _, _, .bl b => .bl b
  | _, _, .int i => .int i
  | _, _, .str x => .str x
  | _, _, .lst h n a => .lst (sqL_sm s h) n (dxA_sm s a)
  | _, _, .tup h a => .tup (sqT_sm s h) (dxA_sm s a)
  | _, _, .dct e => .dct (s _ _ e)
theorem dxA_sm {K : PySem.W.Frag} {av : List Addr} {H H1 : Hp} (s : Same H H1) : ∀ {v : List V} {d : List PyData}, DxAll K av H v d → DxAll K av H1 v d
  | _, _, .nil => .nil
  | _, _, .cons h a => .cons (dx_sm s h) (dxA_sm s a)
end
end Fw
set_option maxHeartbeats 2000000
set_option maxHeartbeats 2000000
namespace Fw
open PySem PySem.Spec PyProof.Rows L2
/-! ### a text and any value -/
theorem decl_str (b : Str) (u : Tok) (l : Addr) (dd : Option Addr) (es : Array DictEntry) (n : Nat) (ss : Array (Option Value)) :
    Meets (Builtin.«str.__eq__» ⟨[.str b u, .ref l], []⟩) (fun _ R s => s.heap.get? l = some { cls := .type "dict", dict := dd, data := .dict es n, slots := ss } ∧ R (.ok (.ret .notImplemented)) s) :=
  .of_wp fun prog w A R s h => by
    obtain ⟨hp, g, d, tk, os⟩ := s
    obtain ⟨hl, h⟩ := h
    wp_walk using wpAny_loadPart hl, wpAny_load hl
    exact ⟨_, rfl, h⟩
theorem decl_dict (b : Str) (u : Tok) (l : Addr) (dd : Option Addr) (es : Array DictEntry) (n : Nat) (ss : Array (Option Value)) :
    Meets (Builtin.«dict.__eq__» ⟨[.ref l, .str b u], []⟩) (fun _ R s => s.heap.get? l = some { cls := .type "dict", dict := dd, data := .dict es n, slots := ss } ∧ R (.ok (.ret .notImplemented)) s) :=
  .of_wp fun prog w A R s h => by
    obtain ⟨hp, g, d, tk, os⟩ := s
    obtain ⟨hl, h⟩ := h
    have f1 := F.sub_str_dict
    wp_walk using wpAny_loadPart hl, wpAny_load hl
    exact ⟨_, rfl, h⟩
/-- is it that text -/
def strIs (z : Str) : PyData → Bool
  | .str y => z == y
  | _ => false
theorem rc_dict {A : Around} {s : Shared} {l : Addr} {o : Obj} {es : Array DictEntry} {n : Nat} (b : Str) (u : Tok) (ho : s.heap.get? l = some o) (hc : o.cls = .type "dict") (hd : o.data = .dict es n) (hu : A.units < cLine) : SeqAt.RcAt A s (.str b u) (.ref l) false := fun prog w E Q h => by
  obtain ⟨c, dd, da, ss⟩ := o
  cases hc
  cases hd
  refine SeqAt.rc_eq_decline_or (k := false) (typeIs_str s b u) ⟨_, ho, rfl⟩ (by decide) F.sub_dict_str F.slot_str_eq F.slot_dict_eq_refl ?_ ?_ ?_ (.inr hu) h
  · exact fun _ q => call_meets F.slot_str_eq (typeIs_str s b u) F.entry_str_eq (F.args_str_eq_2 _ _) (decl_str b u l dd es n ss) ⟨ho, q⟩
  · exact fun _ q => call_meets F.slot_dict_eq_refl ⟨_, ho, rfl⟩ F.entry_dict_eq (F.args_dict_eq_2 _ _) (decl_dict b u l dd es n ss) ⟨ho, q⟩
  · exact fun _ q => wpAny_of_eq (rfl : isSame (.str b u) (.ref l) = pure false) q
section
variable {X : Cx} {pins : List (Addr × Obj)} {σ : L2.St} {H : Hp} {s : Shared} {av : List Addr} {A : Around}
theorem dict_at {a : Addr} (I : Inv X pins σ H s) (e : H a = some (.dK [])) : ∃ o es n, s.heap.get? a = some o ∧ o.cls = .type "dict" ∧ o.data = .dict es n := by
  obtain ⟨_, y, vs, kv, o, es, ep, ho, hx, hd, _⟩ := (show ObjOk X.prog X.w H s.heap a (.dK []) from I.hok a _ e)
  exact ⟨o, es, ep, ho, hx.1, hd⟩
theorem rc_any (I : Inv X pins σ H s) {v : V} {d : PyData} {x : Value} (h : Dx X.K av H v d) (r : RelV v x) (hu : A.units < cLine) (z : Str) (t : Tok) : SeqAt.RcAt A s (.str z t) x (strIs z d) := by
  cases h with
  | non => cases r; exact SeqAt.RcAt.str_none z t
  | bl b => cases r; exact SeqAt.RcAt.str_bool z t b
  | int i => obtain ⟨u, rfl⟩ := r; exact SeqAt.RcAt.str_int z t i u
  | str y => obtain ⟨u, rfl⟩ := r; exact SeqAt.RcAt.str_str z t y u
  | lst h _ _ =>
    cases r
    obtain ⟨its, _, pl, _⟩ := I.list h
    exact SeqAt.RcAt.str_list z t pl.isList hu
  | tup h _ =>
    cases r
    obtain ⟨its, _, pl, _⟩ := I.tuple h
    exact SeqAt.RcAt.str_tuple z t pl hu
  | dct e =>
    cases r
    obtain ⟨o, es, n, h1, h2, h3⟩ := dict_at I e
    exact rc_dict z t h1 h2 h3 hu
end
section
variable {X : Cx} {av : List Addr}
/-- text == any value -/
def rEqA (K : PySem.W.Frag) (av : List Addr) : R2 := fun x y H Q => ∃ z d, x = .str z ∧ Dx K av H y d ∧ Q (.bl (strIs z d)) H
theorem op_eqA (hu : X.A.units < cLine) : OpR X (compareOp .Eq) (rEqA X.K av) := by
  rintro pins s σ H _ y v u Q I rx ry ⟨z, d, rfl, h, q⟩
  obtain ⟨t, rfl⟩ := rx
  exact rc_any I h ry hu z t X.prog X.w X.xe _ ⟨.bl _, H, I, rfl, q⟩
end
end Fw
set_option maxHeartbeats 2000000
namespace Fw
open PySem PySem.Spec PyProof.Rows L2
/-- the type's name of a value -/
def kindD : PyData → String
  | .none => "NoneType"
  | .bool _ => "bool"
  | .int _ => "int"
  | .str _ => "str"
  | .list _ => "list"
  | .tuple _ => "tuple"
  | .dict _ => "dict"
theorem dx_ty {K : PySem.W.Frag} {av : List Addr} {H : Hp} {v : V} {d : PyData} (h : Dx K av H v d) : TyX K H v (.type (kindD d)) := by
  cases h with
  | non => exact .base .non
  | bl b => exact .base (.bl b)
  | int i => exact .base (.int i)
  | str x => exact .base (.str x)
  | lst h n a =>
    rcases h with (e | ⟨ob, e⟩) | ⟨o, its, n, e, c, _⟩
    · exact .base (.lst e)
    · exact .base (.frz e)
    · exact .kList e c
  | tup h a =>
    rcases h with (e | ⟨ob, e⟩) | ⟨o, its, n, e, c, _⟩
    · exact .base (.tup e)
    · exact .fTuple e
    · exact .kTuple e c
  | dct e => exact .base (.dK e)
/-- the answer of isinstance(v, T) for T among tuple, int, bool, str -/
def isD (T : String) (d : PyData) : Bool := kindD d == T || (T == "int" && kindD d == "bool")
theorem kitD {K : PySem.W.Frag} {T : String} (hT : T ∈ ["tuple", "int", "bool", "str"]) (d : PyData) : PySem.W.kitOne K (.type (kindD d)) (.type T) = some (isD T d) := by
  have key : ∀ k ∈ ["NoneType", "bool", "int", "str", "list", "tuple", "dict"], ∀ T ∈ ["tuple", "int", "bool", "str"], (if (Value.type k == Value.type T) = true then some true else if PySem.W.kitMeta T = true then (fastBuiltinMro k).map (·.contains (Value.type T)) else none) = some (k == T || (T == "int" && k == "bool")) := by
    decide +kernel
  have hk : kindD d ∈ ["NoneType", "bool", "int", "str", "list", "tuple", "dict"] := by cases d <;> simp [kindD]
  exact key _ hk T hT
/-- isinstance(v, T) -/
def rIsD (K : PySem.W.Frag) (av : List Addr) : List V → Hp → VK → Prop := fun xs H Q => ∃ (x : V) (T : String) (d : PyData), xs = [x, .ty T] ∧ T ∈ ["tuple", "int", "bool", "str"] ∧ Dx K av H x d ∧ Q (.bl (isD T d)) H
theorem call_isD {X : Cx} {av : List Addr} : CallR X (.builtin "isinstance") (rIsD X.K av) := by
  intro pn sh σ H xs us Q J rr hh
  obtain ⟨x, T, d, rfl, hT, hd, q⟩ := hh
  exact call_isi pn sh σ H _ us Q J rr ⟨x, .ty T, _, .type T, _, rfl, .ty T, dx_ty hd, kitD hT d, q⟩
end Fw
set_option maxHeartbeats 2000000
namespace Fw
open PySem PySem.Spec PyProof.Rows L2
/-! values of any kind with a bound: the numbers' size, the depth, the bulk -/
mutual
def okI (b : Nat) : PyData → Bool
  | .int i => decide (i.natAbs ≤ 10 ^ 59 + b)
  | .str z => z.cps.toList.all fun c => decide (c < 1114112)
  | .list ds => okIA b ds
  | .tuple ds => okIA b ds
  | .dict kvs => kvs.isEmpty
  | .none => true
  | .bool _ => true
def okIA (b : Nat) : List PyData → Bool
  | [] => true
  | d :: ds => okI b d && okIA b ds
end
theorem int_short {i : Int} {b : Nat} (h : i.natAbs ≤ 10 ^ 59 + b) (hb : b ≤ 1000) : (PyData.shown (.int i)).length ≤ 70 ∧ i.natAbs.log2 < 1920 := by
  have h1 : i.natAbs < 10 ^ 60 := by
    have : (10 : Nat) ^ 59 + 1000 < 10 ^ 60 := by decide +kernel
    omega
  constructor
  · have e := int_text_length_le10 (k := 60) (by decide) h1
    show (Str.ofString (toString i)).length ≤ 70
    rw [PySem.ofString_length]
    omega
  · by_cases z : i.natAbs = 0
    · rw [z]; decide
    · rw [Nat.log2_lt z]
      have : (10 : Nat) ^ 60 < 2 ^ 200 := by decide +kernel
      have : (2 : Nat) ^ 200 ≤ 2 ^ 1920 := Nat.pow_le_pow_right (by decide) (by decide)
      omega
mutual
theorem okI_short {b : Nat} (hb : b ≤ 1000) : ∀ d : PyData, okI b d = true → d.leavesShort 70 = true ∧ d.showable = true
  | .int i, h => by
    have h := int_short (of_decide_eq_true (show decide (i.natAbs ≤ 10 ^ 59 + b) = true from h)) hb
    simp only [PyData.leavesShort, PyData.showable]
    exact ⟨decide_eq_true h.1, decide_eq_true h.2⟩
  | .str z, h => by
    simp only [PyData.leavesShort, PyData.showable]
    refine ⟨?_, trivial⟩
    have h : (z.cps.toList.all fun c => decide (c < 1114112)) = true := h
    rw [List.all_eq_true] at h ⊢
    intro c hc
    have := of_decide_eq_true (h c hc)
    have e : (16 : Nat) ^ 8 = 4294967296 := by decide
    exact decide_eq_true (by omega)
  | .list ds, h => by
    simp only [PyData.leavesShort, PyData.showable]
    exact okIA_short hb ds h
  | .tuple ds, h => by
    simp only [PyData.leavesShort, PyData.showable]
    exact okIA_short hb ds h
  | .dict [], _ => by
    simp [PyData.leavesShort, PyData.showable, PyData.leavesShortKv, PyData.showableKv]
  | .dict (_ :: _), h => by cases h
  | .none, _ => by simp [PyData.leavesShort, PyData.showable]
  | .bool _, _ => by simp [PyData.leavesShort, PyData.showable]
theorem okIA_short {b : Nat} (hb : b ≤ 1000) : ∀ ds : List PyData, okIA b ds = true → PyData.leavesShortAll 70 ds = true ∧ PyData.showableAll ds = true
  | [], _ => ⟨rfl, rfl⟩
  | d :: ds, h => by
    have h : (okI b d && okIA b ds) = true := h
    rw [Bool.and_eq_true] at h
    obtain ⟨a1, a2⟩ := okI_short hb d h.1
    obtain ⟨b1, b2⟩ := okIA_short hb ds h.2
    simp only [PyData.leavesShortAll, PyData.showableAll, a1, a2, b1, b2, Bool.and_true, and_self]
end
mutual
theorem okI_up {a b : Nat} (h : a ≤ b) : ∀ d : PyData, okI a d = true → okI b d = true
  | .int i, z => decide_eq_true (Nat.le_trans (of_decide_eq_true (show decide (i.natAbs ≤ 10 ^ 59 + a) = true from z)) (by omega))
  | .str _, z => z
  | .list ds, z => okIA_up h ds z
  | .tuple ds, z => okIA_up h ds z
  | .dict _, z => z
  | .none, _ => rfl
  | .bool _, _ => rfl
theorem okIA_up {a b : Nat} (h : a ≤ b) : ∀ ds : List PyData, okIA a ds = true → okIA b ds = true
  | [], _ => rfl
  | d :: ds, z => by
    have z : (okI a d && okIA a ds) = true := z
    rw [Bool.and_eq_true] at z
    show (okI b d && okIA b ds) = true
    rw [Bool.and_eq_true]
    exact ⟨okI_up h d z.1, okIA_up h ds z.2⟩
end
structure Gd (b k n : Nat) (d : PyData) : Prop where
  i : okI b d = true
  p : d.depth ≤ k
  w : d.bulk ≤ n
structure GdA (b k n : Nat) (ds : List PyData) : Prop where
  i : okIA b ds = true
  p : PyData.depthAll ds ≤ k
  w : PyData.bulkAll ds ≤ n
theorem Gd.up {a b j k m n : Nat} {d : PyData} (h : Gd a j m d) (h1 : a ≤ b) (h2 : j ≤ k) (h3 : m ≤ n) : Gd b k n d := ⟨okI_up h1 d h.i, Nat.le_trans h.p h2, Nat.le_trans h.w h3⟩
theorem GdA.up {a b j k m n : Nat} {d : List PyData} (h : GdA a j m d) (h1 : a ≤ b) (h2 : j ≤ k) (h3 : m ≤ n) : GdA b k n d := ⟨okIA_up h1 d h.i, Nat.le_trans h.p h2, Nat.le_trans h.w h3⟩
theorem GdA.nil {b k n : Nat} : GdA b k n [] := ⟨rfl, Nat.zero_le _, Nat.zero_le _⟩
theorem GdA.cons {b k m n : Nat} {d : PyData} {ds : List PyData} (h : Gd b k m d) (t : GdA b k n ds) : GdA b k (m + 1 + n) (d :: ds) := by
  refine ⟨?_, ?_, ?_⟩
  · show (okI b d && okIA b ds) = true
    rw [h.i, t.i]; rfl
  · simp only [PyData.depthAll]
    have := h.p; have := t.p; omega
  · simp only [PyData.bulkAll]
    have := h.w; have := t.w; omega
theorem GdA.un {b k n : Nat} {d : PyData} {ds : List PyData} (h : GdA b k n (d :: ds)) : ∃ m l, m + 1 + l ≤ n ∧ Gd b k m d ∧ GdA b k l ds := by
  obtain ⟨h1, h2, h3⟩ := h
  have h1 : (okI b d && okIA b ds) = true := h1
  rw [Bool.and_eq_true] at h1
  simp only [PyData.depthAll] at h2
  simp only [PyData.bulkAll] at h3
  exact ⟨_, _, h3, ⟨h1.1, by omega, Nat.le_refl _⟩, ⟨h1.2, by omega, Nat.le_refl _⟩⟩
theorem GdA.app {b k n : Nat} {ys : List PyData} (t : GdA b k n ys) : ∀ {m : Nat} {xs : List PyData}, GdA b k m xs → GdA b k (m + n) (xs ++ ys)
  | m, [], _ => t.up (Nat.le_refl _) (Nat.le_refl _) (by omega)
  | m, x :: xs, h => by
    obtain ⟨a, l, e, h1, h2⟩ := h.un
    exact (GdA.cons h1 (GdA.app t h2)).up (Nat.le_refl _) (Nat.le_refl _) (by omega)
theorem GdA.split {b k n : Nat} : ∀ {xs ys : List PyData}, GdA b k n (xs ++ ys) → ∃ m l, m + l ≤ n ∧ GdA b k m xs ∧ GdA b k l ys
  | [], ys, h => ⟨0, n, by omega, .nil, h⟩
  | x :: xs, ys, h => by
    obtain ⟨a, l, e, h1, h2⟩ := GdA.un (d := x) (ds := xs ++ ys) h
    obtain ⟨m, r, e2, h3, h4⟩ := h2.split
    exact ⟨a + 1 + m, r, by omega, .cons h1 h3, h4⟩
theorem GdA.at {b k n : Nat} {ds : List PyData} (h : GdA b k n ds) (i : Nat) : ∃ m l, m + l ≤ n ∧ GdA b k m (ds.take i) ∧ GdA b k l (ds.drop i) := by
  have := h
  rw [← List.take_append_drop i ds] at this
  exact this.split
theorem GdA.get {b k : Nat} : ∀ {ds : List PyData} {n : Nat}, GdA b k n ds → ∀ {d : PyData}, d ∈ ds → Gd b k n d
  | x :: xs, n, h, d, m => by
    obtain ⟨a, l, e, h1, h2⟩ := h.un
    rcases List.mem_cons.mp m with rfl | m
    · exact h1.up (Nat.le_refl _) (Nat.le_refl _) (by omega)
    · exact (h2.get m).up (Nat.le_refl _) (Nat.le_refl _) (by omega)
theorem GdA.len {b k : Nat} : ∀ {ds : List PyData} {n : Nat}, GdA b k n ds → ds.length ≤ n
  | [], _, _ => Nat.zero_le _
  | x :: xs, n, h => by
    obtain ⟨a, l, e, h1, h2⟩ := h.un
    have := h2.len
    rw [List.length_cons]
    omega
theorem Gd.tup {b k n : Nat} {ds : List PyData} (h : GdA b k n ds) : Gd b (k + 1) n (.tuple ds) := ⟨h.i, by simp only [PyData.depth]; have := h.p; omega, by simp only [PyData.bulk]; exact h.w⟩
theorem Gd.lst {b k n : Nat} {ds : List PyData} (h : GdA b k n ds) : Gd b (k + 1) n (.list ds) := ⟨h.i, by simp only [PyData.depth]; have := h.p; omega, by simp only [PyData.bulk]; exact h.w⟩
theorem Gd.un {b k n : Nat} {ds : List PyData} (h : Gd b (k + 1) n (.tuple ds)) : GdA b k n ds := ⟨h.i, by have := h.p; simp only [PyData.depth] at this; omega, by have := h.w; simp only [PyData.bulk] at this; exact this⟩
theorem Gd.flat {b n : Nat} {ds : List PyData} (h : Gd b 0 n (.tuple ds)) : False := by
  have := h.p
  simp only [PyData.depth] at this
  omega
/-- it can be shown -/
theorem Gd.shows {b k n : Nat} {d : PyData} (h : Gd b k n d) (hb : b ≤ 1000) (hk : k ≤ 60) (hn : n ≤ 100000) : d.showable = true ∧ d.depth ≤ 60 ∧ d.shown.length ≤ sizeLine := by
  obtain ⟨h1, h2⟩ := okI_short hb d h.i
  refine ⟨h2, Nat.le_trans h.p hk, ?_⟩
  have h3 := PyData.shown_le_bulk 70 (by decide) d h1
  have h4 : (70 + 2) * d.bulk ≤ 72 * 100000 := Nat.mul_le_mul_left _ (Nat.le_trans h.w hn)
  rw [sizeLine_eq]
  omega
/-! slices and sums of tuples whose items are told -/
theorem DxAll.app {K : PySem.W.Frag} {av : List Addr} {H : Hp} : ∀ {xs ys : List V} {ds es : List PyData}, DxAll K av H xs ds → DxAll K av H ys es → DxAll K av H (xs ++ ys) (ds ++ es)
  | _, _, _, _, .nil, t => t
  | _, _, _, _, .cons h r, t => .cons h (r.app t)
theorem DxAll.take {K : PySem.W.Frag} {av : List Addr} {H : Hp} : ∀ {xs : List V} {ds : List PyData} (i : Nat), DxAll K av H xs ds → DxAll K av H (xs.take i) (ds.take i)
  | _, _, 0, _ => by rw [List.take_zero, List.take_zero]; exact .nil
  | _, _, i + 1, .nil => .nil
  | _, _, i + 1, .cons h r => .cons h (r.take i)
theorem DxAll.drop {K : PySem.W.Frag} {av : List Addr} {H : Hp} : ∀ {xs : List V} {ds : List PyData} (i : Nat), DxAll K av H xs ds → DxAll K av H (xs.drop i) (ds.drop i)
  | _, _, 0, h => h
  | _, _, i + 1, .nil => .nil
  | _, _, i + 1, .cons h r => r.drop i
theorem DxAll.len {K : PySem.W.Frag} {av : List Addr} {H : Hp} : ∀ {xs : List V} {ds : List PyData}, DxAll K av H xs ds → xs.length = ds.length
  | _, _, .nil => rfl
  | _, _, .cons _ r => congrArg (· + 1) r.len
theorem DxAll.at {K : PySem.W.Frag} {av : List Addr} {H : Hp} : ∀ {xs : List V} {ds : List PyData}, DxAll K av H xs ds → ∀ {i : Nat} {x : V}, xs[i]? = some x → ∃ d, ds[i]? = some d ∧ Dx K av H x d
  | _, _, .cons h r, 0, x, e => by cases e; exact ⟨_, rfl, h⟩
  | _, _, .cons h r, i + 1, x, e => r.at e
section
variable {X : Cx}
/-- t[lo:hi]: some tuple with those items -/
def rSlS (K : PySem.W.Frag) : V → Option Int → Option Int → Hp → VK → Prop := fun x lo hi H Q => ∃ a xs, x = .ref a ∧ SqT K H a xs ∧ ∀ H' p, Same H H' → SqT K H' p (cutV xs lo hi) → Q (.ref p) H'
theorem cut_whole {xs : List V} {lo hi : Option Int} (h1 : HT.sIx xs.length 0 lo = 0) (h2 : HT.sIx xs.length xs.length hi = xs.length) : cutV xs lo hi = xs := by
  unfold cutV
  rw [h1, h2, List.drop_zero, Nat.sub_zero, List.take_length]
theorem sl_tupS : SlR X (rSlS X.K) := by
  intro pins s σ H x v vl vu lo hi sl Q I rx hs pl pu h
  obtain ⟨a, xs, rfl, hx, q⟩ := h
  refine sl_tupA pins s σ H _ v vl vu lo hi sl Q I rx hs pl pu ⟨a, xs, rfl, hx, fun w => q H a (Same.refl _) ?_, fun _ p hp => q _ p (same_upd hp) (SqT.of upd_same)⟩
  rw [cut_whole w.1 w.2]
  exact hx
/-- t + u: some tuple with those items -/
def rCatS (K : PySem.W.Frag) : R2 := fun x y H Q => ∃ a b xs ys, x = .ref a ∧ y = .ref b ∧ SqT K H a xs ∧ SqT K H b ys ∧ xs.length + ys.length ≤ sizeLine ∧ ∀ H' p, Same H H' → SqT K H' p (xs ++ ys) → Q (.ref p) H'
theorem op_catS : OpR X (binaryOp .Add) (rCatS X.K) := by
  intro pins s σ H x y v u Q I rx ry h
  obtain ⟨a, b, xs, ys, rfl, rfl, ha, hb, hz, q⟩ := h
  refine op_catA pins s σ H _ _ v u Q I rx ry ⟨a, b, xs, ys, rfl, rfl, ha, hb, hz, fun e => q H b (Same.refl _) (by rw [e]; exact hb), fun _ e => q H a (Same.refl _) (by rw [e, List.append_nil]; exact ha), fun _ _ p hp => q _ p (same_upd hp) (SqT.of upd_same)⟩
end
theorem cut_from {xs : List V} {i : Int} (h0 : 0 ≤ i) (h1 : i ≤ (xs.length : Nat)) : cutV xs (some i) none = xs.drop i.toNat := by
  unfold cutV
  show (xs.drop (if i < 0 then (i + (xs.length : Nat)).toNat else min i.toNat xs.length)).take (xs.length - (if i < 0 then (i + (xs.length : Nat)).toNat else min i.toNat xs.length)) = _
  rw [if_neg (by omega), show min i.toNat xs.length = i.toNat by omega, List.take_of_length_le (by rw [List.length_drop]; exact Nat.le_refl _)]
end Fw
set_option maxHeartbeats 2000000
namespace Fw
open PySem PySem.Spec PyProof.Rows L2
/-- the next room on a way -/
def nxt : List Int → V
  | _ :: b :: _ => .int b
  | _ => .non
/-- the next room toward b, or None -/
def NX (D : List (Int × Int)) (a b : Int) (v : V) : Prop := ((∀ p, ¬ SP (adj D) a b p) ∧ v = .non) ∨ ∃ p, SP (adj D) a b p ∧ v = nxt p
theorem NX.uniq {n a b : Int} {D : List (Int × Int)} {u v : V} (f : Forest n D) (x : NX D a b u) (y : NX D a b v) : u = v := by
  rcases x with ⟨nx, rfl⟩ | ⟨p, hp, rfl⟩ <;> rcases y with ⟨ny, rfl⟩ | ⟨q, hq, rfl⟩
  · rfl
  · exact absurd hq (nx q)
  · exact absurd hp (ny p)
  · rw [f.uniq _ _ _ _ hp hq]
theorem NX.kind {n a b : Int} {D : List (Int × Int)} {v : V} (f : Forest n D) (a0 : 0 ≤ a) (a1 : a < n) (x : NX D a b v) : v = .non ∨ ∃ r : Int, v = .int r ∧ 0 ≤ r ∧ r < n := by
  rcases x with ⟨_, rfl⟩ | ⟨p, hp, rfl⟩
  · exact .inl rfl
  · have all := hp.all (S := fun x => 0 ≤ x ∧ x < n) (fun x y r => ⟨(f.adj r).2.2.1, (f.adj r).2.2.2⟩) ⟨a0, a1⟩
    match p, all with
    | [], _ => exact .inl rfl
    | [_], _ => exact .inl rfl
    | _ :: r :: _, all => exact .inr ⟨r, rfl, all r (by simp)⟩
theorem strIs_eq {z : Str} {d : PyData} (h : strIs z d = true) : d = .str z := by
  cases d <;> first | (cases h; done) | skip
  rw [show z = _ from eq_of_beq h]
theorem dx_str {K : PySem.W.Frag} {av : List Addr} {H : Hp} {v : V} {z : Str} (h : Dx K av H v (.str z)) : v = .str z := by
  cases h
  rfl
section
variable {P : Program} {w : World} {K : PySem.W.Frag} {mg : Str → Option Value} {base : Heap}
/-- room_of of any value: the room, or the error -/
def spRoomAny (K : PySem.W.Frag) (C : Addr) : Sp := fun vs H Q E => ∃ (p : Addr) (P : List (Str × Int)) (v : V) (d : PyData), vs = [.ref p, v] ∧ PlAt H p P ∧ Dx K [] H v d ∧ (∀ nm r, v = .str nm → (nm, r) ∈ P → Q (.int r) H) ∧
  ((∀ x ∈ P, strIs x.1 d = false) → ∀ dx H', Same H H' → H' dx = some (.xd [("name", v)]) → E (.ref C) (some dx) H')
theorem ok_roomany {f : Addr} {fd : FuncData} {k : Nat} {E0 C : Addr} (F : Fun K "room_of" "room_of" sRoomOf f fd) (RE : ErR P w K mg base "UnknownPerson" "name" E0 C) : FnOk P w K mg base (L2.CX P w) (k + 3) f fd pRoomOf (spRoomAny K C) := by
  refine F.okX scRoomOf (fun vs H Q E h => ?_) (fun cdv A outer s H vs Q E hr h => ?_)
  · obtain ⟨p, P, v, d, rfl, _⟩ := h
    rfl
  · obtain ⟨p, P, v, d, rfl, hP, hd, q, qE⟩ := h
    refine ⟨_, (pss_cons (ps_calm (ps_for PassesOwn.never rfl (pi_tup (pv 0)) (pg_tup (by rfl) (pgs_cons (pg_name (i := 2) scRoomOf.nd rfl (.inl rfl)) (pgs_cons (pg_name (i := 3) scRoomOf.nd rfl (.inl rfl)) pgs_nil)))
      (pss_one (ps_if (pt_cmpR (op_eqA (av := []) (Nat.lt_of_succ_lt (hu_of hr))) (pv 2) (pv 1) (nomark _))
       (pss_one (ps_ret (pv 3)))
       pss_nil))))
      (pss_one (ps_raise rfl (takes_of rfl rfl rfl rfl) (pmk_er RE hr (by rfl) (pv 1))))), ?_⟩
    refine ⟨_, rfl, p, rfl, hP.sq, for_pl hP (fun i σ' H' => ∃ y2 y3, σ' = [some (.ref p), some v, y2, y3] ∧ H' = H ∧ ∀ x ∈ P.take i, strIs x.1 d = false) ⟨_, _, rfl, rfl, fun x hx => by cases hx⟩ ?_ ?_ ?_⟩
    · rintro k σ' H' ⟨_, _, _, rfl, _⟩
      exact Tk.refl
    · rintro k n' r' σ' H' hk ⟨y2, y3, rfl, rfl, hn⟩
      refine ⟨_, rfl, _, rfl, n', d, rfl, hd, _, rfl, ?_⟩
      refine ite2 (fun c => ?_) (fun c => ?_)
      · have e := strIs_eq c
        subst e
        exact ⟨_, rfl, q n' r' (dx_str hd) (List.mem_of_getElem? hk)⟩
      · refine ⟨_, _, rfl, rfl, fun x hx => ?_⟩
        rw [take_snoc hk, List.mem_append] at hx
        rcases hx with hx | hx
        · exact hn x hx
        · rw [List.mem_singleton.mp hx]
          exact Bool.eq_false_iff.mpr c
    · rintro σ' H' ⟨y2, y3, rfl, rfl, hn⟩
      rw [List.take_length] at hn
      exact ⟨_, rfl, raise_end fun d H2 s2 e2 => qE hn d H2 s2 e2⟩
end
end Fw
set_option maxHeartbeats 2000000
namespace Fw
open PySem PySem.Spec PyProof.Rows L2
/-! moves of any value into any value -/
/-- is it a room's number -/
def isRm (n : Int) : PyData → Bool
  | .int r => decide (0 ≤ r ∧ r < n)
  | _ => false
def isNum : PyData → Bool
  | .int _ => true
  | _ => false
theorem isNum_eq (d : PyData) : (isD "int" d && !isD "bool" d) = isNum d := by
  cases d <;> (simp only [isD, kindD, isNum]; decide)
theorem isNum_int {K : PySem.W.Frag} {av : List Addr} {H : Hp} {v : V} {d : PyData} (h : Dx K av H v d) (e : isNum d = true) : ∃ r : Int, d = .int r ∧ v = .int r := by
  cases h <;> first | (cases e; done) | exact ⟨_, rfl, rfl⟩
theorem isRm_no {n : Int} {d : PyData} (e : isNum d = false) : isRm n d = false := by
  cases d <;> first | (cases e; done) | rfl
/-- what becomes of a move: 0 done, 1 unknown, 2 no room, 3 not adjacent, 4 empty -/
def MRes (n : Int) (D : List (Int × Int)) (P : List (Str × Int)) (v : V) (d : PyData) (w : V) (e : PyData) : Nat → Prop
  | 0 => ∃ nm c r, v = .str nm ∧ (nm, c) ∈ P ∧ w = .int r ∧ (0 ≤ r ∧ r < n) ∧ r ∈ nb n D c ∧ r ∈ P.map (·.2)
  | 1 => ∀ x ∈ P, strIs x.1 d = false
  | 2 => ∃ nm c, v = .str nm ∧ (nm, c) ∈ P ∧ isRm n e = false
  | 3 => ∃ nm c r, v = .str nm ∧ (nm, c) ∈ P ∧ w = .int r ∧ (0 ≤ r ∧ r < n) ∧ r ∉ nb n D c
  | 4 => ∃ nm c r, v = .str nm ∧ (nm, c) ∈ P ∧ w = .int r ∧ (0 ≤ r ∧ r < n) ∧ r ∈ nb n D c ∧ r ∉ P.map (·.2)
  | _ => False
section
variable {P : Program} {w : World} {K : PySem.W.Frag} {mg : Str → Option Value} {base : Heap}
def spIsNum (K : PySem.W.Frag) : Sp := fun vs H Q _ => ∃ (v : V) (d : PyData), vs = [v] ∧ Dx K [] H v d ∧ Q (.bl (isNum d)) H
theorem ok_isnum {f : Addr} {fd : FuncData} {k : Nat} (F : Fun K "is_integer" "is_integer" sIsInt f fd) (T : Nm mg) : FnOk P w K mg base CX0 (k + 1) f fd pIsInt (spIsNum K) := by
  refine F.ok scIsInt (fun vs H Q E h => ?_) (fun cdv A outer s H vs Q E hr h => ?_)
  · obtain ⟨v, d, rfl, _⟩ := h
    rfl
  · obtain ⟨v, d, rfl, hd, q⟩ := h
    refine ⟨_, (pss_one (ps_ret (pe_and (pe_callB (call_isD (av := [])) (by rfl) T.isinstance (by decide +kernel) (pa_cons (pv 0) (pa_cons (pe_bltn (v := .ty "int") (by rfl) T.int (by decide +kernel) rfl) pa_nil))) (pe_one (pe_not (pe_callB (call_isD (av := [])) (by rfl) T.isinstance (by decide +kernel) (pa_cons (pv 0) (pa_cons (pe_bltn (v := .ty "bool") (by rfl) T.bool (by decide +kernel) rfl) pa_nil)))))))), ?_⟩
    refine ⟨_, rfl, v, "int", d, rfl, by decide, hd, _, rfl, ?_⟩
    rw [← isNum_eq] at q
    cases e : isD "int" d with
    | false => rw [e] at q; exact iteF q
    | true => rw [e] at q; exact iteT ⟨_, rfl, v, "bool", d, rfl, by decide, hd, _, rfl, q⟩
def spIsRoomA (K : PySem.W.Frag) : Sp := fun vs H Q _ => ∃ (h : Addr) (n : Int) (D : List (Int × Int)) (v : V) (d : PyData), vs = [.ref h, v] ∧ HouseAt H h n D ∧ Dx K [] H v d ∧ Q (.bl (isRm n d)) H
theorem ok_isrooma {f : Addr} {fd : FuncData} {k : Nat} (F : Fun K "is_room" "is_room" sIsRoom f fd) (T : Nm mg) (Cis_integer : Cal P w K mg base (k + 1) "is_integer" pIsInt (spIsNum K)) : FnOk P w K mg base CX0 (k + 2) f fd pIsRoom (spIsRoomA K) := by
  refine F.ok scIsRoom (fun vs H Q E h => ?_) (fun cdv A outer s H vs Q E hr h => ?_)
  · obtain ⟨h, n, D, v, d, rfl, _⟩ := h
    rfl
  · obtain ⟨h, n, D, v, d, rfl, hH, hd, q⟩ := h
    refine ⟨_, (pss_one (ps_ret (pe_and (pe_cal Cis_integer hr (by rfl) (pa_cons (pv 1) pa_nil)) (pe_one (pe_chain op_le op_lt pe_int (pv 1) (pe_ix (ix_tupK K rfl) (pv 0) pe_int (fun _ _ => rfl))))))), ?_⟩
    obtain ⟨qd, eh⟩ := hH.room0
    refine ⟨_, rfl, v, d, rfl, hd, _, rfl, ?_⟩
    refine ite2 (fun c => ?_) (fun c => ?_)
    · obtain ⟨i, rfl, rfl⟩ := isNum_int hd c
      refine ⟨_, rfl, _, _, rfl, rfl, _, rfl, ?_⟩
      have q : Q (.bl (decide (0 ≤ i ∧ i < n))) H := q
      refine ite2 (fun c => ?_) (fun c => ?_)
      · refine ⟨_, rfl, h, _, _, _, rfl, rfl, SqT.of eh, atI0, _, _, rfl, rfl, ?_⟩
        have c : 0 ≤ i := of_decide_eq_true c
        rw [show decide (0 ≤ i ∧ i < n) = decide (i < n) by simp [c]] at q
        exact q
      · have c : ¬ 0 ≤ i := fun e => c (decide_eq_true e)
        rw [show decide (0 ≤ i ∧ i < n) = false by simp [c]] at q
        exact q
    · have c := Bool.eq_false_iff.mpr c
      rw [isRm_no c] at q
      exact q
end
end Fw
set_option maxHeartbeats 2000000
namespace Fw
open PySem PySem.Spec PyProof.Rows L2
theorem MRes.uniq {n : Int} {D : List (Int × Int)} {P : List (Str × Int)} {K : PySem.W.Frag} {H : Hp} {v w : V} {d e : PyData} (pl : Pl n P) (hv : Dx K [] H v d) (hw : Dx K [] H w e) : ∀ {i j : Nat}, MRes n D P v d w e i → MRes n D P v d w e j → i = j := by
  have no1 : ∀ {nm c}, v = .str nm → (nm, c) ∈ P → (∀ x ∈ P, strIs x.1 d = false) → False := fun {nm c} e1 m no => by
    subst e1
    cases hv
    have := no _ m
    rw [show strIs nm (.str nm) = true from BEq.rfl] at this
    cases this
  have no2 : ∀ {r : Int}, w = .int r → 0 ≤ r ∧ r < n → isRm n e = false → False := fun {r} e1 rr no => by
    subst e1
    cases hw
    have : decide (0 ≤ r ∧ r < n) = false := no
    exact of_decide_eq_false this rr
  have one : ∀ {nm c nm' c'}, v = .str nm → (nm, c) ∈ P → v = .str nm' → (nm', c') ∈ P → c = c' := fun {nm c nm' c'} e1 m1 e2 m2 => by
    have : nm' = nm := V.str.inj (e2.symm.trans e1)
    subst this
    have := key_uniq pl.nodup m1 m2 rfl
    cases this
    rfl
  have two : ∀ {r r' : Int}, w = .int r → w = .int r' → r = r' := fun e1 e2 => V.int.inj (e1.symm.trans e2)
  intro i j
  match i, j with
  | 0, 0 => exact fun _ _ => rfl
  | 1, 1 => exact fun _ _ => rfl
  | 2, 2 => exact fun _ _ => rfl
  | 3, 3 => exact fun _ _ => rfl
  | 4, 4 => exact fun _ _ => rfl
  | 1, 0 => exact fun x ⟨_, _, _, e1, m, _⟩ => (no1 e1 m x).elim
  | 1, 2 => exact fun x ⟨_, _, e1, m, _⟩ => (no1 e1 m x).elim
  | 1, 3 => exact fun x ⟨_, _, _, e1, m, _⟩ => (no1 e1 m x).elim
  | 1, 4 => exact fun x ⟨_, _, _, e1, m, _⟩ => (no1 e1 m x).elim
  | 0, 1 => exact fun ⟨_, _, _, e1, m, _⟩ x => (no1 e1 m x).elim
  | 2, 1 => exact fun ⟨_, _, e1, m, _⟩ x => (no1 e1 m x).elim
  | 3, 1 => exact fun ⟨_, _, _, e1, m, _⟩ x => (no1 e1 m x).elim
  | 4, 1 => exact fun ⟨_, _, _, e1, m, _⟩ x => (no1 e1 m x).elim
  | 2, 0 => exact fun ⟨_, _, _, _, x⟩ ⟨_, _, _, _, _, e1, rr, _⟩ => (no2 e1 rr x).elim
  | 2, 3 => exact fun ⟨_, _, _, _, x⟩ ⟨_, _, _, _, _, e1, rr, _⟩ => (no2 e1 rr x).elim
  | 2, 4 => exact fun ⟨_, _, _, _, x⟩ ⟨_, _, _, _, _, e1, rr, _⟩ => (no2 e1 rr x).elim
  | 0, 2 => exact fun ⟨_, _, _, _, _, e1, rr, _⟩ ⟨_, _, _, _, x⟩ => (no2 e1 rr x).elim
  | 3, 2 => exact fun ⟨_, _, _, _, _, e1, rr, _⟩ ⟨_, _, _, _, x⟩ => (no2 e1 rr x).elim
  | 4, 2 => exact fun ⟨_, _, _, _, _, e1, rr, _⟩ ⟨_, _, _, _, x⟩ => (no2 e1 rr x).elim
  | 0, 3 => exact fun ⟨_, _, _, a1, a2, a3, _, a4, _⟩ ⟨_, _, _, b1, b2, b3, _, b4⟩ => by rw [one a1 a2 b1 b2, two a3 b3] at a4; exact absurd a4 b4
  | 4, 3 => exact fun ⟨_, _, _, a1, a2, a3, _, a4, _⟩ ⟨_, _, _, b1, b2, b3, _, b4⟩ => by rw [one a1 a2 b1 b2, two a3 b3] at a4; exact absurd a4 b4
  | 3, 0 => exact fun ⟨_, _, _, b1, b2, b3, _, b4⟩ ⟨_, _, _, a1, a2, a3, _, a4, _⟩ => by rw [one a1 a2 b1 b2, two a3 b3] at a4; exact absurd a4 b4
  | 3, 4 => exact fun ⟨_, _, _, b1, b2, b3, _, b4⟩ ⟨_, _, _, a1, a2, a3, _, a4, _⟩ => by rw [one a1 a2 b1 b2, two a3 b3] at a4; exact absurd a4 b4
  | 0, 4 => exact fun ⟨_, _, _, _, _, a3, _, _, a5⟩ ⟨_, _, _, _, _, b3, _, _, b5⟩ => by rw [two a3 b3] at a5; exact absurd a5 b5
  | 4, 0 => exact fun ⟨_, _, _, _, _, b3, _, _, b5⟩ ⟨_, _, _, _, _, a3, _, _, a5⟩ => by rw [two a3 b3] at a5; exact absurd a5 b5
  | _ + 5, _ => exact fun x => x.elim
  | 0, _ + 5 => exact fun _ x => x.elim
  | 1, _ + 5 => exact fun _ x => x.elim
  | 2, _ + 5 => exact fun _ x => x.elim
  | 3, _ + 5 => exact fun _ x => x.elim
  | 4, _ + 5 => exact fun _ x => x.elim
/-- low <= it <= high -/
def inR (lo hi : Int) : PyData → Bool
  | .int r => decide (lo ≤ r ∧ r ≤ hi)
  | _ => false
theorem inR_rm (n : Int) (d : PyData) : inR 0 (n - 1) d = isRm n d := by
  cases d with
  | int r =>
    show decide (0 ≤ r ∧ r ≤ n - 1) = decide (0 ≤ r ∧ r < n)
    rw [decide_eq_decide]
    constructor <;> intro h <;> omega
  | _ => rfl
theorem inR_no {lo hi : Int} {d : PyData} (e : isNum d = false) : inR lo hi d = false := by
  cases d <;> first | (cases e; done) | rfl
section
variable {P : Program} {w : World} {K : PySem.W.Frag} {mg : Str → Option Value} {base : Heap}
def spLIntA (K : PySem.W.Frag) : Sp := fun vs H Q _ => ∃ (v : V) (d : PyData) (lo hi : Int), vs = [v, .int lo, .int hi] ∧ Dx K [] H v d ∧ Q (.bl (inR lo hi d)) H
abbrev nLInt : List Str := ["_law_value", "_law_low", "_law_high"]
theorem scLInt : FnScope nLInt ["_law_value", "_law_low", "_law_high"] (defScope sLInt) := ⟨rfl, rfl, rfl, by decide +kernel, rfl, by decide +kernel, by decide +kernel⟩
theorem ok_linta {f : Addr} {fd : FuncData} {k : Nat} (F : Fun K "_law_is_integer" "_law_is_integer" sLInt f fd) (T : Nm mg) : FnOk P w K mg base CX0 (k + 1) f fd ["_law_value", "_law_low", "_law_high"] (spLIntA K) := by
  refine F.ok scLInt (fun vs H Q E h => ?_) (fun cdv A outer s H vs Q E hr h => ?_)
  · obtain ⟨v, d, lo, hi, rfl, _⟩ := h
    rfl
  · obtain ⟨v, d, lo, hi, rfl, hd, q⟩ := h
    refine ⟨_, (pss_one (ps_ret (pe_and (pe_callB (call_isD (av := [])) (by rfl) T.isinstance (by decide +kernel) (pa_cons (pv 0) (pa_cons (pe_bltn (v := .ty "int") (by rfl) T.int (by decide +kernel) rfl) pa_nil))) (pe_and (pe_not (pe_callB (call_isD (av := [])) (by rfl) T.isinstance (by decide +kernel) (pa_cons (pv 0) (pa_cons (pe_bltn (v := .ty "bool") (by rfl) T.bool (by decide +kernel) rfl) pa_nil)))) (pe_one (pe_chain op_le op_le (pv 1) (pv 0) (pv 2))))))), ?_⟩
    refine ⟨_, rfl, v, "int", d, rfl, by decide, hd, _, rfl, ?_⟩
    have ie := isNum_eq d
    cases e : isD "int" d with
    | false =>
      rw [e] at ie
      have : isNum d = false := ie.symm
      rw [inR_no this] at q
      exact iteF q
    | true =>
      rw [e] at ie
      refine iteT ⟨_, rfl, v, "bool", d, rfl, by decide, hd, _, rfl, ?_⟩
      cases b : isD "bool" d with
      | true =>
        rw [b] at ie
        have : isNum d = false := ie.symm
        rw [inR_no this] at q
        exact ⟨_, rfl, iteF q⟩
      | false =>
        rw [b] at ie
        obtain ⟨r, rfl, rfl⟩ := isNum_int hd ie.symm
        have q : Q (.bl (decide (lo ≤ r ∧ r ≤ hi))) H := q
        refine ⟨_, rfl, iteT ⟨_, rfl, _, rfl, _, _, rfl, rfl, _, rfl, ?_⟩⟩
        refine ite2 (fun c => ?_) (fun c => ?_)
        · refine ⟨_, rfl, _, _, rfl, rfl, ?_⟩
          have c : lo ≤ r := of_decide_eq_true c
          rw [show decide (lo ≤ r ∧ r ≤ hi) = decide (r ≤ hi) by simp [c]] at q
          exact q
        · have c : ¬ lo ≤ r := fun e => c (decide_eq_true e)
          rw [show decide (lo ≤ r ∧ r ≤ hi) = false by simp [c]] at q
          exact q
end
end Fw
set_option maxHeartbeats 2000000
namespace Fw
open PySem PySem.Spec PyProof.Rows L2
/-! placements of any value -/
open RZ
def letr (z : Str) : Bool := z.cps.toList.all fun c => decide (97 ≤ c ∧ c ≤ 122)
def nmOk (z : Str) : Bool := decide (1 ≤ z.length ∧ z.length ≤ 8) && letr z
def nmD : PyData → Bool
  | .str z => nmOk z
  | _ => false
theorem range_snocB (f : Nat → Bool) (i : Nat) : ((List.range (i + 1)).map f).map V.bl = ((List.range i).map f).map V.bl ++ [V.bl (f i)] := by
  rw [List.range_succ, List.map_append, List.map_append]
  rfl
theorem a_le (c : Nat) : (!decide ((⟨#[c]⟩ : Str).cps.toList < (Str.ofString "a").cps.toList)) = decide (97 ≤ c) := by
  by_cases h : 97 ≤ c
  · rw [one_le h, decide_eq_true h]; rfl
  · rw [decide_eq_false h, show (Str.ofString "a").cps.toList = [97] by decide +kernel, decide_eq_true]
    · rfl
    · show [c] < [97]
      rw [List.cons_lt_cons_iff]
      exact .inl (by omega)
theorem z_ge (c : Nat) : (!decide ((Str.ofString "z").cps.toList < (⟨#[c]⟩ : Str).cps.toList)) = decide (c ≤ 122) := by
  by_cases h : c ≤ 122
  · rw [one_ge h, decide_eq_true h]; rfl
  · rw [decide_eq_false h, show (Str.ofString "z").cps.toList = [122] by decide +kernel, decide_eq_true]
    · rfl
    · show [122] < [c]
      rw [List.cons_lt_cons_iff]
      exact .inl (by omega)
theorem gd_str {b k n : Nat} {z : Str} (h : Gd b k n (.str z)) : z.length ≤ n := by
  have := h.w
  simp only [PyData.bulk] at this
  exact this
theorem letr_all (z : Str) : ((List.range z.cps.size).map fun i => decide (97 ≤ z.cps.toList.getD i 0 ∧ z.cps.toList.getD i 0 ≤ 122)).all id = letr z := by
  unfold letr
  rw [Bool.eq_iff_iff, List.all_eq_true, List.all_eq_true]
  have lz : z.cps.toList.length = z.cps.size := Array.length_toList
  constructor
  · intro h c hc
    obtain ⟨i, hi, rfl⟩ := List.getElem_of_mem hc
    have := h _ (List.mem_map.mpr ⟨i, List.mem_range.mpr (by omega), rfl⟩)
    rw [List.getD_eq_getElem?_getD, List.getElem?_eq_getElem hi] at this
    exact this
  · intro h x hx
    obtain ⟨i, hi, rfl⟩ := List.mem_map.mp hx
    have hi := List.mem_range.mp hi
    have hi' : i < z.cps.toList.length := by omega
    rw [List.getD_eq_getElem?_getD, List.getElem?_eq_getElem hi']
    exact h _ (List.getElem_mem hi')
section
variable {P : Program} {w : World} {K : PySem.W.Frag} {mg : Str → Option Value} {base : Heap}
def spIsNameA (K : PySem.W.Frag) : Sp := fun vs H Q _ => ∃ (v : V) (d : PyData) (b k n : Nat), vs = [v] ∧ Dx K [] H v d ∧ Gd b k n d ∧ n ≤ 100000 ∧ ∀ H', Same H H' → Q (.bl (nmD d)) H'
theorem ok_isnamea {f : Addr} {fd : FuncData} {k : Nat} (F : Fun K "is_name" "is_name" sIsName f fd) (T : Nm mg) {tk : Tok} (M : mg "LONGEST_NAME" = some (.int 8 tk)) : FnOk P w K mg base CX0 (k + 1) f fd pIsInt (spIsNameA K) := by
  refine F.ok scIsName (fun vs H Q E h => ?_) (fun cdv A outer s H vs Q E hr h => ?_)
  · obtain ⟨v, d, b, k, n, rfl, _⟩ := h
    rfl
  · obtain ⟨v, d, b, k, n, rfl, hd, gd, hn, q⟩ := h
    refine ⟨_, (pss_cons (ps_if (PW.pt (pw_or (pt_not (pt_val (pe_callB (call_isD (av := [])) (by rfl) T.isinstance (by decide +kernel) (pa_cons (pv 0) (pa_cons (pe_bltn (v := .ty "str") (by rfl) T.str (by decide +kernel) rfl) pa_nil))))) (pw_or1 (pt_not (pt_chain op_le op_le pe_int (pe_callB call_len_str (by rfl) T.len (by decide +kernel) (pa_cons (pv 0) pa_nil)) (pe_glob (v := .int 8) (by rfl) M ⟨_, rfl⟩))))))
      (pss_one (ps_ret pe_bl))
      pss_nil)
      (pss_one (ps_ret (pe_callB (cr_all rfl) (by rfl) T.all (by decide +kernel) (pa_cons (pe_lc (own := [("letter", 1)]) (g := gName 1) (by rfl) scIsName.nd (pi_str (pv 0))
 (blkOk_by (own := [("letter", 1)]) (N := nIsName) (sc := defScope sIsName) (by decide +kernel))
 (fun _ _ _ _ _ => (pg_name (i := 1) scIsName.nd rfl (.inl rfl))) (fun _ _ _ _ _ => pts_nil) (fun _ _ _ _ _ => (pe_chain op_le_str op_le_str pe_str (pv 1) pe_str))) pa_nil))))), ?_⟩
    refine ⟨_, rfl, v, "str", d, rfl, by decide, hd, _, rfl, ?_⟩
    refine ite2 (fun z => ?_) (fun z => ?_)
    · refine iteT ?_
      have : nmD d = false := by cases d <;> first | rfl | (cases z; done)
      rw [this] at q
      exact q _ (Same.refl _)
    have it : isD "str" d = true := by cases e : isD "str" d with | true => rfl | false => rw [e] at z; exact absurd rfl z
    have ex : ∃ z, d = .str z := by
      cases d <;> first | (cases it; done) | exact ⟨_, rfl⟩
    obtain ⟨nm, rfl⟩ := ex
    obtain rfl := dx_str hd
    have lz := gd_str gd
    have q : ∀ H', Same H H' → Q (.bl (nmOk nm)) H' := q
    have no : ¬ (1 ≤ nm.length ∧ nm.length ≤ 8) → nmOk nm = false := fun h => by unfold nmOk; rw [decide_eq_false h]; rfl
    refine ⟨_, rfl, _, rfl, by rw [sizeLine_eq]; omega, _, _, rfl, rfl, _, rfl, ?_⟩
    by_cases l1 : (1 : Int) ≤ (nm.length : Nat)
    · rw [decide_eq_true l1]
      refine iteT ⟨_, _, rfl, rfl, _, rfl, ?_⟩
      by_cases l2 : ((nm.length : Nat) : Int) ≤ 8
      · rw [decide_eq_true l2]
        refine iteF ⟨_, rfl, nm, rfl, fun L hL => lc_it walk_str (fun i H1 => Same H H1 ∧ H1 L = some (.lst (((List.range i).map fun i => decide (97 ≤ nm.cps.toList.getD i 0 ∧ nm.cps.toList.getD i 0 ≤ 122)).map V.bl))) ⟨same_upd hL, upd_same⟩ (fun _ _ _ _ => trivial) ?_ ?_⟩
        · rintro i x H1 H2 hi ⟨s1, e1⟩ ⟨rfl, c, hc, rfl⟩
          have ec : nm.cps.toList.getD i 0 = c := by
            rw [List.getD_eq_getElem?_getD, Array.getElem?_toList, hc]
            rfl
          refine ⟨rfl, ?_⟩
          unfold tYes
          have end' : ∀ b : Bool, b = decide (97 ≤ c ∧ c ≤ 122) → ∃ acc, H2 L = some (.lst acc) ∧ acc.length < sizeLine ∧ Same H (upd H2 L (.lst (acc ++ [V.bl b]))) ∧ (upd H2 L (.lst (acc ++ [V.bl b]))) L = some (.lst (((List.range (i + 1)).map fun i => decide (97 ≤ nm.cps.toList.getD i 0 ∧ nm.cps.toList.getD i 0 ≤ 122)).map V.bl)) := fun b eb => by
            refine ⟨_, e1, ?_, same_put s1 hL, ?_⟩
            · rw [List.length_map, List.length_map, List.length_range]
              have : nm.cps.size = nm.length := rfl
              exact small1000 (by omega)
            · rw [upd_same, range_snocB, ec, eb]
          refine iteT ⟨_, rfl, _, _, rfl, rfl, _, rfl, ?_⟩
          rw [a_le]
          by_cases h1 : 97 ≤ c
          · rw [decide_eq_true h1]
            refine iteT ⟨_, _, rfl, rfl, ?_⟩
            rw [z_ge]
            exact end' _ (by rw [Bool.eq_iff_iff]; simp; omega)
          · rw [decide_eq_false h1]
            exact iteF (end' false (by symm; rw [decide_eq_false_iff_not]; omega))
        · rintro H1 ⟨s1, e1⟩
          refine ⟨L, _, rfl, SqL.of e1, ?_⟩
          rw [letr_all]
          have : nmOk nm = letr nm := by
            unfold nmOk
            rw [decide_eq_true (by omega)]
            rfl
          rw [← this]
          exact q _ s1
      · rw [decide_eq_false l2]
        rw [no (by omega)] at q
        exact iteT (q _ (Same.refl _))
    · rw [decide_eq_false l1]
      rw [no (by omega)] at q
      exact iteF ⟨_, rfl, iteT (q _ (Same.refl _))⟩
end
end Fw
set_option maxHeartbeats 2000000
set_option maxHeartbeats 2000000
namespace Fw
open PySem PySem.Spec PyProof.Rows L2
section
variable {X : Cx} {a b c d : Expr} {ta tb tc td : TE} {pos : Pos}
/-- a op b op' c op'' d -/
def tChain3 (p q r : R2) (ta tb tc td : TE) : TE := fun σ H Q => ta σ H fun x H1 => tb σ H1 fun y H2 => p x y H2 fun z H3 => ∃ k, z = .bl k ∧
  (if k = true then tc σ H3 fun y' H4 => q y y' H4 fun z' H5 => ∃ k', z' = .bl k' ∧ (if k' = true then td σ H5 fun w H6 => r y' w H6 Q else Q (.bl false) H5) else Q (.bl false) H3)
theorem pe_chain3 {o1 o2 o3 : CmpOp} {p q r : R2} (h1 : OpR X (compareOp o1) p) (h2 : OpR X (compareOp o2) q) (h3 : OpR X (compareOp o3) r) (ha : PE X a ta) (hb : PE X b tb) (hc : PE X c tc) (hd : PE X d td)
    (hm : lastMarks [o1, o2, o3] [b, c, d] = false := by with_unfolding_all rfl) : PE X (.Compare a [o1, o2, o3] [b, c, d] pos) (tChain3 p q r ta tb tc td) := by
  constructor
  intro pn sh σ H Q J hq
  refine Compare_chain (thn (ha.run pn sh σ H _ J hq) fun va s1 ⟨x, H1, J1, ra, q1⟩ => chain_link (thn (hb.run pn s1 σ H1 _ J1 q1) fun vb s2 ⟨y, H2, J2, rb, q2⟩ =>
    thn (h1 pn s2 σ H2 x y va vb _ J2 ra rb q2) fun t1 s3 ⟨z, H3, J3, rz, k, ek, q3⟩ => ?_)) hm
  subst ek
  cases rz
  refine wpAny_truthy_bool ?_
  cases k with
  | false => exact ite_ff ⟨.bl false, H3, J3, rfl, q3⟩
  | true =>
    refine ite_tt (chain_link (thn (hc.run pn s3 σ H3 _ J3 q3) fun vc s4 ⟨y', H4, J4, rc, q4⟩ => thn (h2 pn s4 σ H4 y y' vb vc _ J4 rb rc q4) fun t2 s5 ⟨z', H5, J5, rz', k', ek', q5⟩ => ?_))
    subst ek'
    cases rz'
    refine wpAny_truthy_bool ?_
    cases k' with
    | false => exact ite_ff ⟨.bl false, H5, J5, rfl, q5⟩
    | true => exact ite_tt (chain_last (thn (hd.run pn s5 σ H5 _ J5 q5) fun vd s6 ⟨w, H6, J6, rd, q6⟩ => h3 pn s6 σ H6 y' w vc vd Q J6 rc rd q6))
end
end Fw
set_option maxHeartbeats 2000000
namespace Fw
open PySem PySem.Spec PyProof.Rows L2
/-! enumerate(t) of a tuple t -/
/-- the enumerate at e with its iterator at it, i items of the tuple at t gone through -/
structure EnT (h : Heap) (e it t : Addr) (i : Nat) : Prop where
  en : ∃ old, IsEnum h e it ((i : Nat) : Int) old
  ir : h.IsTupleIter it t i
  ne : e ≠ it
theorem EnT.move {h h' : Heap} {e it t : Addr} {i : Nat} (x : EnT h e it t i) (k : ∀ b, b = e ∨ b = it → ∀ o, h.get? b = some o → h'.get? b = some o) : EnT h' e it t i := by
  obtain ⟨⟨old, a⟩, b, c⟩ := x
  exact ⟨⟨old, k e (.inl rfl) _ a⟩, b.at fun o => k it (.inr rfl) o, c⟩
theorem EnT.off {h : Heap} {e it t : Addr} {i : Nat} {items : Array Value} (x : EnT h e it t i) (y : h.IsTuple t items) : e ≠ t ∧ t ≠ it := by
  obtain ⟨⟨old, a⟩, ⟨o2, b1, b2, _⟩, _⟩ := x
  obtain ⟨o, y1, y2, _⟩ := y
  constructor
  · intro z
    rw [z] at a
    have := a.symm.trans y1
    cases this
    exact absurd (show Value.type "enumerate" = Value.type "tuple" from y2) (by decide)
  · intro z
    rw [← z, y1] at b1
    cases b1
    rw [y2] at b2
    exact absurd b2 (by decide)
def newEnum (a : Addr) : Obj := { cls := .type "enumerate", data := .fields #[.none, .bool false, .ref a, rawInt 0, .none, .none] }
def newIt (t : Addr) : Obj := { cls := .type "tuple_iterator", data := .fields #[.ref t, .int 0 0] }
theorem enumT_new (t : Addr) (items : Array Value) : Meets (Builtin.«enumerate.__new__» ⟨[.type "enumerate", .ref t], []⟩) (fun _ R s => s.heap.IsTuple t items ∧ R (.ok (.ret (.ref (s.heap.push (newIt t)).objs.size))) { s with heap := (s.heap.push (newIt t)).push (newEnum s.heap.objs.size) }) :=
  .of_wp fun prog w A R s hh => by
    obtain ⟨ht, fin⟩ := hh
    have st := sub_enumerate
    obtain ⟨hp, gs, ds, ts, oo⟩ := s
    have starts {A' : Around} {E' : Value → Shared → Prop} {Q' : Value → Shared → Prop} (q : Q' (.ref hp.objs.size) ⟨hp.push (newIt t), gs, ds, ts, oo⟩) : wpAny (model prog w) A' (pyIter (.ref t)) Q' E' ⟨hp, gs, ds, ts, oo⟩ := (begins_tuple t items).iter prog w A' E' _ _ ht q
    wp_walk using starts
    refine wpAny_stack_any fun _ => wpAny_pure ?_
    split
    · next c _ _ _ _ _ =>
      cases (c == Value.type "enumerate") <;> (wp_walk using starts; exact ⟨_, rfl, fin⟩)
    · wp_walk using starts
      exact ⟨_, rfl, fin⟩
section
variable {prog : Program} {w : World} {A : Around} {E : Value → Shared → Prop} {s : Shared}
theorem enumT_call {t : Addr} {items : Array Value} {Q : Value → Shared → Prop} (ht : s.heap.IsTuple t items)
    (fin : ∀ h', EnT h' (s.heap.objs.size + 1) s.heap.objs.size t 0 → (∀ b o, s.heap.get? b = some o → h'.get? b = some o) → Q (.ref (s.heap.objs.size + 1)) { s with heap := h' }) :
    wpAny (model prog w) A (call (.type "enumerate") [.ref t]) Q E s := by
  have e1 : (s.heap.push (newIt t)).objs.size = s.heap.objs.size + 1 := Heap.size_push ..
  have e2 := Heap.get?_push_size (s.heap.push (newIt t)) (o := newEnum s.heap.objs.size) rfl
  have e3 : ((s.heap.push (newIt t)).push (newEnum s.heap.objs.size)).get? s.heap.objs.size = some (newIt t) := Heap.get?_push_of_some _ (Heap.get?_push_size _ rfl)
  refine callType_new F.called_enumerate (by decide) (F.typeCall_enumerate_1 _) (F.newCall_enumerate_1 _) (fun _ => F.args_object_init_2 _ _) F.entry_enumerate_new (enumT_new t items) ⟨ht, ⟨_, e2, rfl⟩, ?_⟩
  rw [e1] at e2 ⊢
  exact fin _ ⟨⟨.none, e2⟩, ⟨_, e3, rfl, rfl⟩, Nat.succ_ne_self _⟩ fun b o z => Heap.get?_push_of_some _ (Heap.get?_push_of_some _ z)
/-- a turn: the pair is new, e and it go on, all else stays -/
theorem enumT_turn {elts : List Expr} {kk : Nat} {tpos : Pos} {e it t : Addr} {i : Nat} {items : Array Value} {x : Value} {Q : Value → Shared → Prop} (calm : A.handled = none) (n : EnT s.heap e it t i) (ht : s.heap.IsTuple t items) (hx : items[i]? = some x)
    (fin : ∀ h' tk tk', h'.get? s.heap.objs.size = some { cls := .type "tuple", data := .seq #[.int i tk, x] } → EnT h' e it t (i + 1) → (∀ b o, b ≠ e → b ≠ it → s.heap.get? b = some o → h'.get? b = some o) → Q (.ref s.heap.objs.size) { s with heap := h', toks := tk' }) :
    wpAny (model prog w) A (pyNext (.ref e)) (fun r s1 => ∃ u, r = some u ∧ wpAny (model prog w) A (letOwnedTupleGo (.Tuple elts kk tpos) (.ref e) u) (fun _ s2 => Q u s2) E s1) E s := by
  obtain ⟨o1, o2⟩ := n.off ht
  obtain ⟨⟨old, a⟩, b, ne⟩ := n
  have lt : i < items.size := by
    rcases Nat.lt_or_ge i items.size with h | h
    · exact h
    · rw [Array.getElem?_eq_none h] at hx; cases hx
  have le : e < s.heap.objs.size := Heap.lt_size a
  refine wpAny_pyNext_enum_itemD (Draws.tuple (A := A.in1) calm it t o2 items) a ⟨b, ht⟩ lt ne (by simp [ne, o1]) fun y h1 tk hy out st1 new sz keep => ⟨_, rfl, ?_⟩
  have hy : items[i]? = some y := hy
  rw [hx] at hy
  cases hy
  refine wpAny_letOwnedTupleGo_enum (s := { s with heap := h1, toks := tk + 1 }) out fun h2 en2 but => ?_
  refine fin h2 tk (tk + 1) ((but.2 _ (Nat.ne_of_gt le)).trans new) ⟨⟨x, ?_⟩, st1.1.at fun o z => (but.2 it ne.symm).trans z, ne⟩ fun c o ce ci z => (but.2 c ce).trans (keep c o ce ci z)
  · have : ((i + 1 : Nat) : Int) = (i : Int) + 1 := by omega
    rw [this]
    exact en2
theorem enumT_end {e it t : Addr} {i : Nat} {items : Array Value} {Q : Option Value → Shared → Prop} (calm : A.handled = none) (n : EnT s.heap e it t i) (ht : s.heap.IsTuple t items) (hi : i = items.size)
    (fin : ∀ h', Heap.ExtBut it s.heap h' → Q none { s with heap := h' }) : wpAny (model prog w) A (pyNext (.ref e)) Q E s := by
  obtain ⟨o1, o2⟩ := n.off ht
  obtain ⟨⟨old, a⟩, b, ne⟩ := n
  subst hi
  exact wpAny_pyNext_enum_endD (Draws.tuple (A := A.in1) calm it t o2 items) a ⟨b, ht⟩ fin
end
/-- the tuple at a; its items in new pairs with their numbers -/
def IteT (K : PySem.W.Frag) (a : Addr) : It where
  go i H := ∃ (xs : List V), SqT K H a xs ∧ i < xs.length
  yld i H v H' := ∃ T x, v = .ref T ∧ H T = none ∧ H' = upd H T (.tup [.int (i : Nat), x]) ∧ ∀ xs, SqT K H a xs → xs[i]? = some x
  stop i H := ∃ (xs : List V), SqT K H a xs ∧ xs.length = i
theorem turn_enumT {P : Program} {w : World} {K : PySem.W.Frag} {elts : List Expr} {kk : Nat} {tpos : Pos} (a e it : Addr) : Turn P w K (.Tuple elts kk tpos) (IteT K a) [e, it] e (fun i h => EnT h e it a i) where
  mem := List.mem_cons_self
  obj i h st b hb := by
    obtain ⟨⟨old, x⟩, ⟨o, y1, _, y3⟩, _⟩ := st
    rcases List.mem_cons.mp hb with rfl | hb
    · exact ⟨_, x, fun v z => nomatch z⟩
    · rw [List.mem_singleton.mp hb]
      exact ⟨o, y1, fun v z => by rw [y3] at z; cases z⟩
  keep i h h' st k := st.move fun b hb o z => k b (by rcases hb with rfl | rfl <;> simp) o z
  item := by
    rintro X rfl rfl rfl calm i pins s σ H E I free st ⟨xs, hq, lt⟩
    obtain ⟨us, rel, tp, _⟩ := I.tuple hq
    have hx : xs[i]? = some xs[i] := List.getElem?_eq_getElem lt
    obtain ⟨u, hu, ru⟩ := rel.get hx
    have small : ∀ b ∈ [e, it], b < s.heap.objs.size := fun b hb => by
      obtain ⟨⟨old, x⟩, ⟨o, y, _⟩, _⟩ := st
      rcases List.mem_cons.mp hb with rfl | hb
      · exact Heap.lt_size x
      · rw [List.mem_singleton.mp hb]
        exact Heap.lt_size y
    refine enumT_turn (I.ok.hd calm) st tp (x := u) (by simpa using hu) fun h' tk tk' new st' keep => ?_
    have J : Inv X pins σ (upd H s.heap.objs.size (.tup [.int (i : Nat), xs[i]])) { s with heap := h', toks := tk' } :=
      I.turnedNew (ch := [e, it]) (fun b o nb z => keep b o (fun y => nb (by simp [y])) (fun y => nb (by simp [y])) z) free (Nat.le_refl _)
        (show ObjOk X.prog X.w _ h' _ (.tup [.int (i : Nat), xs[i]]) from ⟨by show 2 ≤ sizeLine; decide, _, .cons ⟨_, rfl⟩ (.cons ru .nil), ⟨_, new, rfl, _, rfl⟩⟩)
    refine ⟨.ref s.heap.objs.size, _, J, rfl, ⟨_, xs[i], rfl, I.hok.fresh (Nat.le_refl _), rfl, fun ys hy => ?_⟩, st', fun b hb => ?_⟩
    · rw [I.tuple_inj hy hq]
      exact hx
    · rw [upd_ne (Nat.ne_of_lt (small b hb))]
      exact (free b hb).1
  done := by
    rintro X rfl rfl rfl calm i pins s σ H E I free st ⟨xs, hq, le⟩
    obtain ⟨us, rel, tp, _⟩ := I.tuple hq
    obtain ⟨f0, f1, f2, f3, f4, f5⟩ := free it (by simp)
    have l := rel.length
    refine enumT_end (I.ok.hd calm) st tp (by simp only [List.size_toArray]; omega) fun h' eb => ⟨rfl, ?_⟩
    exact I.turned (t' := s.toks) (fun b o nb z => eb b o nb z) f0 f1 f3 f4 f5
  self A i s Q E st h := let ⟨⟨_, x⟩, _, _⟩ := st; wpAny_pyIter_enum x h
def iEnumT (K : PySem.W.Frag) (ta : TA) : TI := fun σ H R => ta σ H fun vs H1 => ∃ a xs, vs = [.ref a] ∧ SqT K H1 a xs ∧ R (IteT K a) H1
theorem pi_enumT {X : Cx} {x : Expr} {ta : TA} {p pos tpos : Pos} {elts : List Expr} {kk : Nat} (gl : Gl X "enumerate") (no : X.mg "enumerate" = none) (ha : PA X [x] ta) (hs : starEach [x] X.env = [(false, eval x X.env)] := by rfl) : PI X (.Tuple elts kk tpos) (.Call (.Name "enumerate" p) [x] [] pos) (iEnumT X.K ta) where
  run pins s σ H R I rd := by
    refine Call_ (ld_blt I gl no boot_enumerate (PyProof.Rows.callWith_type1 (thn (ha.run pos pins s σ H _ I rd) ?_) hs rfl))
    rintro us s1 ⟨_, H1, J, rr, a, xs, rfl, hq, fin⟩
    obtain ⟨u, rfl, ru⟩ := vals1 rr
    cases (show u = Value.ref a from ru)
    obtain ⟨_, _, tp, _⟩ := J.tuple hq
    refine enumT_call tp fun h' n keep => wpAny_pyIter_enum n.en.choose_spec ⟨_, [_, _], _, _, H1, rfl, J.kept (t' := s1.toks) keep, turn_enumT a _ _, n, fun b hb => ?_, fin⟩
    have big : s1.heap.objs.size ≤ b := by
      rcases List.mem_cons.mp hb with rfl | hb
      · exact Nat.le_succ _
      · rw [List.mem_singleton.mp hb]
        exact Nat.le_refl _
    exact J.fpOk big (J.hok.fresh big)
theorem walk_enumT {K : PySem.W.Frag} {a : Addr} {xs : List V} : Walk (IteT K a) xs.length (fun H => SqT K H a xs) (YPair (fun i => some (.int (i : Nat))) (fun i => xs[i]?)) where
  goes i H lt q := ⟨xs, q, lt⟩
  stops H q := ⟨xs, q, rfl⟩
  yields i H v H' lt q y := by
    obtain ⟨T, x, rfl, fr, rfl, h⟩ := y
    exact ⟨T, _, x, rfl, fr, rfl, rfl, h xs q⟩
end Fw
set_option maxHeartbeats 2000000
namespace Fw
open PySem PySem.Spec PyProof.Rows L2
/-! houses of any value -/
section
variable {X : Cx} (K : PySem.W.Frag) (h : X.K = K)
include h
theorem op_ltTK (hu : X.A.units + 64 < cLine) : OpR X (compareOp .Lt) (rLtT K) := by subst h; exact op_ltT (by omega)
end
def pr2 : PyData → Bool
  | .tuple ds => decide (ds.length = 2)
  | _ => false
def drd (x : Int × Int) : PyData := .tuple [.int x.1, .int x.2]
def drD (n : Int) : PyData → Bool
  | .tuple [.int a, .int b] => decide (0 ≤ a ∧ a < b ∧ b < n)
  | _ => false
theorem drD_no {n : Int} {d : PyData} (h : pr2 d = false) : drD n d = false := by
  unfold drD
  split
  · cases h
  · rfl
theorem drD_num {n : Int} {a b : PyData} (h : (isNum a && isNum b) = false) : drD n (.tuple [a, b]) = false := by
  unfold drD
  split
  · rename_i e
    cases e
    cases h
  · rfl
theorem drD_some {n : Int} {d : PyData} (h : drD n d = true) : ∃ x : Int × Int, d = drd x ∧ 0 ≤ x.1 ∧ x.1 < x.2 ∧ x.2 < n := by
  unfold drD at h
  split at h
  · rename_i a b
    exact ⟨(a, b), rfl, of_decide_eq_true h⟩
  · cases h
theorem drD_drd {n : Int} {x : Int × Int} (h : 0 ≤ x.1 ∧ x.1 < x.2 ∧ x.2 < n) : drD n (drd x) = true := decide_eq_true h
theorem drd_inj {x y : Int × Int} (h : drd x = drd y) : x = y := by
  unfold drd at h
  injection h with h
  injection h with h1 h2
  injection h2 with h2 _
  injection h1 with h1
  injection h2 with h2
  exact Prod.ext h1 h2
theorem drds_inj : ∀ {D E : List (Int × Int)}, D.map drd = E.map drd → D = E
  | [], [], _ => rfl
  | [], _ :: _, h => by cases h
  | _ :: _, [], h => by cases h
  | x :: D, y :: E, h => by
    rw [List.map_cons, List.map_cons] at h
    injection h with h1 h2
    rw [drd_inj h1, drds_inj h2]
theorem drD_all {n : Int} : ∀ {ds : List PyData}, ds.all (drD n) = true → ∃ D : List (Int × Int), ds = D.map drd ∧ ∀ x ∈ D, 0 ≤ x.1 ∧ x.1 < x.2 ∧ x.2 < n
  | [], _ => ⟨[], rfl, fun x hx => by cases hx⟩
  | d :: ds, h => by
    rw [List.all_cons, Bool.and_eq_true] at h
    obtain ⟨x, rfl, hx⟩ := drD_some h.1
    obtain ⟨D, rfl, hD⟩ := drD_all h.2
    refine ⟨x :: D, rfl, fun y hy => ?_⟩
    rcases List.mem_cons.mp hy with rfl | hy
    · exact hx
    · exact hD y hy
theorem all_drD {n : Int} {D : List (Int × Int)} (h : ∀ x ∈ D, 0 ≤ x.1 ∧ x.1 < x.2 ∧ x.2 < n) : (D.map drd).all (drD n) = true := by
  rw [List.all_eq_true]
  intro d hd
  obtain ⟨x, hx, rfl⟩ := List.mem_map.mp hd
  exact drD_drd (h x hx)
/-- doors as they stand in memory -/
theorem dx_doors {K : PySem.W.Frag} {av : List Addr} {H : Hp} : ∀ {D : List (Int × Int)} {xs : List V}, DxAll K av H xs (D.map drd) → ∃ ps : List (Addr × Int × Int), xs = (ps.map fun p => V.ref p.1) ∧ D = ps.map (·.2) ∧ ∀ p ∈ ps, SqT K H p.1 [.int p.2.1, .int p.2.2]
  | [], _, h => by
    cases h
    exact ⟨[], rfl, rfl, fun p hp => by cases hp⟩
  | x :: D, _, h => by
    rw [List.map_cons] at h
    cases h with
    | @cons v _ _ _ h t =>
      obtain ⟨ps, rfl, e2, e3⟩ := dx_doors t
      have : ∃ u, v = .ref u ∧ SqT K H u [.int x.1, .int x.2] := by
        unfold drd at h
        cases h with
        | @tup u ys _ sq da =>
          cases da with
          | @cons y0 _ _ _ d0 da =>
            cases da with
            | @cons y1 _ _ _ d1 da =>
              cases da
              cases d0
              cases d1
              exact ⟨u, rfl, sq⟩
      obtain ⟨u, rfl, hu⟩ := this
      refine ⟨(u, x) :: ps, rfl, by rw [List.map_cons, e2], fun p hp => ?_⟩
      rcases List.mem_cons.mp hp with rfl | hp
      · exact hu
      · exact e3 p hp
/-- each door ahead of the next -/
def stepD (D : List (Int × Int)) (j : Nat) : Bool := HT.lexLt [(D.getD j (0, 0)).1, (D.getD j (0, 0)).2] [(D.getD (j + 1) (0, 0)).1, (D.getD (j + 1) (0, 0)).2]
theorem lex2 (a b : Int × Int) : HT.lexLt [a.1, a.2] [b.1, b.2] = true ↔ Dlt a b := by
  unfold Dlt
  rw [HT.lexLt_cons, HT.lexLt_cons, HT.lexLt_nil_nil]
  by_cases h : a.1 = b.1
  · rw [if_pos h]
    by_cases k : a.2 = b.2
    · rw [if_pos k]
      constructor
      · intro z; cases z
      · omega
    · rw [if_neg k, decide_eq_true_eq]
      omega
  · rw [if_neg h, decide_eq_true_eq]
    omega
open Classical in
noncomputable def ascD (D : List (Int × Int)) : Bool := @decide (D.Pairwise Dlt) (Classical.propDecidable _)
theorem ascD_iff {D : List (Int × Int)} : ascD D = true ↔ D.Pairwise Dlt := by unfold ascD; exact @decide_eq_true_iff _ (Classical.propDecidable _)
theorem up_stepsD {D : List (Int × Int)} : D.Pairwise Dlt ↔ ∀ j, j + 1 < D.length → stepD D j = true := by
  have at' : ∀ j (h : j < D.length), D.getD j (0, 0) = D[j] := fun j h => by rw [List.getD_eq_getElem?_getD, List.getElem?_eq_getElem h]; rfl
  constructor
  · intro h j hj
    have := (List.pairwise_iff_getElem.mp h) j (j + 1) (by omega) hj (by omega)
    unfold stepD
    rw [at' j (by omega), at' (j + 1) hj]
    exact (lex2 _ _).mpr this
  · intro h
    rw [List.pairwise_iff_getElem]
    intro i j hi hj lt
    obtain ⟨m, rfl⟩ : ∃ m, j = i + 1 + m := ⟨j - (i + 1), by omega⟩
    have one : ∀ a (ha : a + 1 < D.length), Dlt (D[a]'(by omega)) (D[a + 1]'ha) := fun a ha => by
      have := h a ha
      unfold stepD at this
      rw [at' a (by omega), at' (a + 1) ha] at this
      exact (lex2 _ _).mp this
    clear lt
    induction m with
    | zero => exact one i hj
    | succ m ih => exact Dlt.trans' (ih (by omega) one) (one (i + 1 + m) hj)
theorem up_allD (D : List (Int × Int)) : ((List.range (D.length - 1)).map (stepD D)).all id = ascD D := by
  rw [Bool.eq_iff_iff, ascD_iff, up_stepsD, List.all_eq_true]
  constructor
  · intro h j hj
    exact h _ (List.mem_map.mpr ⟨j, List.mem_range.mpr (by omega), rfl⟩)
  · intro h x hx
    obtain ⟨j, hj, rfl⟩ := List.mem_map.mp hx
    exact h j (by have := List.mem_range.mp hj; omega)
theorem range_snocD (f : Nat → Bool) (i : Nat) : ((List.range (i + 1)).map f).map V.bl = ((List.range i).map f).map V.bl ++ [V.bl (f i)] := by
  rw [List.range_succ, List.map_append, List.map_append]
  rfl
theorem cut_at {xs : List V} {i : Nat} (h : i ≤ xs.length) : cutV xs none (some (i : Int)) = xs.take i := by
  unfold cutV
  rw [HT.sIx_none, HT.sIx_nat, List.drop_zero, Nat.min_eq_left h]
  rfl
open Classical in
noncomputable def forB (n : Int) (D : List (Int × Int)) : Bool := @decide (Forest n D) (Classical.propDecidable _)
theorem forB_iff {n : Int} {D : List (Int × Int)} : forB n D = true ↔ Forest n D := by unfold forB; exact @decide_eq_true_iff _ (Classical.propDecidable _)
def hsd (n : Int) (D : List (Int × Int)) : PyData := .tuple [.int n, .tuple (D.map drd)]
/-- it is a house -/
def HsP (d : PyData) : Prop := ∃ n D, d = hsd n D ∧ 1 ≤ n ∧ n ≤ 8 ∧ Forest n D
open Classical in
noncomputable def hsB (d : PyData) : Bool := @decide (HsP d) (Classical.propDecidable _)
theorem hsB_iff {d : PyData} : hsB d = true ↔ HsP d := by unfold hsB; exact @decide_eq_true_iff _ (Classical.propDecidable _)
theorem hsB_no {d : PyData} (h : ¬ HsP d) : hsB d = false := by rw [Bool.eq_false_iff]; exact fun e => h (hsB_iff.mp e)
theorem hsd_inj {n m : Int} {D E : List (Int × Int)} (h : hsd n D = hsd m E) : n = m ∧ D = E := by
  unfold hsd at h
  injection h with h
  injection h with h1 h2
  injection h1 with h1
  injection h2 with h2 _
  injection h2 with h2
  exact ⟨h1, drds_inj h2⟩
theorem hsd_inj2 {n m : Int} {ds : List PyData} {E : List (Int × Int)} (h : PyData.tuple [.int n, .tuple ds] = hsd m E) : n = m ∧ ds = E.map drd := by
  unfold hsd at h
  injection h with h
  injection h with h1 h2
  injection h1 with h1
  injection h2 with h2 _
  injection h2 with h2
  exact ⟨h1, h2⟩
section
variable {P : Program} {w : World} {K : PySem.W.Frag} {mg : Str → Option Value} {base : Heap}
def spPair2 (K : PySem.W.Frag) : Sp := fun vs H Q _ => ∃ (v : V) (d : PyData), vs = [v] ∧ Dx K [] H v d ∧ Q (.bl (pr2 d)) H
theorem ok_pair2 {f : Addr} {fd : FuncData} {k : Nat} (F : Fun K "is_pair" "is_pair" sIsPair f fd) (T : Nm mg) : FnOk P w K mg base CX0 (k + 1) f fd pIsInt (spPair2 K) := by
  refine F.ok scIsPair (fun vs H Q E h => ?_) (fun cdv A outer s H vs Q E hr h => ?_)
  · obtain ⟨v, d, rfl, _⟩ := h
    rfl
  · obtain ⟨v, d, rfl, hd, q⟩ := h
    refine ⟨_, (pss_one (ps_ret (pe_and (pe_callB (call_isD (av := [])) (by rfl) T.isinstance (by decide +kernel) (pa_cons (pv 0) (pa_cons (pe_bltn (v := .ty "tuple") (by rfl) T.tuple (by decide +kernel) rfl) pa_nil))) (pe_one (pe_cmpR op_eq (pe_callB (call_lenK K rfl) (by rfl) T.len (by decide +kernel) (pa_cons (pv 0) pa_nil)) pe_int (nomark _)))))), ?_⟩
    refine ⟨_, rfl, v, "tuple", d, rfl, by decide, hd, _, rfl, ?_⟩
    cases e : isD "tuple" d with
    | false =>
      have : pr2 d = false := by cases d <;> first | rfl | (cases e; done)
      rw [this] at q
      exact iteF q
    | true =>
      cases hd with
      | @tup a xs ds sq da =>
        refine iteT ⟨_, rfl, a, xs, rfl, .inr sq, rfl, ?_⟩
        have : decide (V.int ((xs.length : Nat) : Int) = V.int 2) = pr2 (.tuple ds) := by
          rw [da.len]
          show _ = decide (ds.length = 2)
          rw [decide_eq_decide]
          constructor
          · intro h
            have := V.int.inj h
            omega
          · intro h
            rw [h]
            rfl
        rw [this]
        exact q
      | _ => exact absurd e (by simp [isD, kindD])
def spDoor (K : PySem.W.Frag) : Sp := fun vs H Q _ => ∃ (n : Int) (v : V) (d : PyData), vs = [.int n, v] ∧ Dx K [] H v d ∧ Q (.bl (drD n d)) H
abbrev nIsDoor : List Str := ["rooms", "value", "a", "b"]
theorem scIsDoor : FnScope nIsDoor ["rooms", "value"] (defScope sIsDoor) := ⟨rfl, rfl, rfl, by decide +kernel, rfl, by decide +kernel, by decide +kernel⟩
theorem ok_door {f : Addr} {fd : FuncData} {k : Nat} (F : Fun K "is_door" "is_door" sIsDoor f fd) (Cis_pair : Cal P w K mg base k "is_pair" pIsInt (spPair2 K)) (Cis_integer : Cal P w K mg base k "is_integer" pIsInt (spIsNum K)) : FnOk P w K mg base CX0 (k + 1) f fd ["rooms", "value"] (spDoor K) := by
  refine F.ok scIsDoor (fun vs H Q E h => ?_) (fun cdv A outer s H vs Q E hr h => ?_)
  · obtain ⟨n, v, d, rfl, _⟩ := h
    rfl
  · obtain ⟨n, v, d, rfl, hd, q⟩ := h
    refine ⟨_, (pss_cons (ps_if (pt_not (pt_val (pe_cal Cis_pair hr (by rfl) (pa_cons (pv 1) pa_nil))))
      (pss_one (ps_ret pe_bl))
      pss_nil)
      (pss_cons (ps_asg (pv 1) (pg_tup (by rfl) (pgs_cons (pg_name (i := 2) scIsDoor.nd rfl (.inl rfl)) (pgs_cons (pg_name (i := 3) scIsDoor.nd rfl (.inl rfl)) pgs_nil))))
      (pss_one (ps_ret (pe_and (pe_cal Cis_integer hr (by rfl) (pa_cons (pv 2) pa_nil)) (pe_and (pe_cal Cis_integer hr (by rfl) (pa_cons (pv 3) pa_nil)) (pe_one (pe_chain3 op_le op_lt op_lt pe_int (pv 2) (pv 3) (pv 0))))))))), ?_⟩
    refine ⟨_, rfl, v, d, rfl, hd, _, rfl, ?_⟩
    cases e : pr2 d with
    | false =>
      rw [drD_no e] at q
      exact iteT q
    | true =>
      refine iteF ?_
      cases hd with
      | @tup a xs ds sq da =>
        have l2 : ds.length = 2 := of_decide_eq_true e
        match ds, l2, da with
        | [d0, d1], _, da =>
          cases da with
          | @cons x0 _ _ _ h0 da =>
          cases da with
          | @cons x1 _ _ _ h1 da =>
          cases da
          refine ⟨_, rfl, a, _, rfl, sq, rfl, _, _, rfl, _, _, rfl, rfl, ?_⟩
          refine ⟨_, rfl, x0, d0, rfl, h0, _, rfl, ?_⟩
          cases e0 : isNum d0 with
          | false =>
            rw [drD_num (by rw [e0]; rfl)] at q
            exact iteF q
          | true =>
            refine iteT ⟨_, rfl, x1, d1, rfl, h1, _, rfl, ?_⟩
            cases e1 : isNum d1 with
            | false =>
              rw [drD_num (by rw [e0, e1]; rfl)] at q
              exact iteF q
            | true =>
              obtain ⟨i, rfl, rfl⟩ := isNum_int h0 e0
              obtain ⟨j, rfl, rfl⟩ := isNum_int h1 e1
              have q : Q (.bl (decide (0 ≤ i ∧ i < j ∧ j < n))) H := q
              refine iteT ⟨_, rfl, _, _, rfl, rfl, _, rfl, ?_⟩
              refine ite2 (fun c => ?_) (fun c => ?_)
              · have c := of_decide_eq_true c
                refine ⟨_, rfl, _, _, rfl, rfl, _, rfl, ?_⟩
                refine ite2 (fun c2 => ?_) (fun c2 => ?_)
                · have c2 := of_decide_eq_true c2
                  refine ⟨_, rfl, _, _, rfl, rfl, ?_⟩
                  rw [show decide (0 ≤ i ∧ i < j ∧ j < n) = decide (j < n) by simp [c, c2]] at q
                  exact q
                · have c2 : ¬ i < j := fun z => c2 (decide_eq_true z)
                  rw [show decide (0 ≤ i ∧ i < j ∧ j < n) = false by simp [c2]] at q
                  exact q
              · have c : ¬ 0 ≤ i := fun z => c (decide_eq_true z)
                rw [show decide (0 ≤ i ∧ i < j ∧ j < n) = false by simp [c]] at q
                exact q
      | _ => exact absurd e (by simp [pr2])
def spAscD (K : PySem.W.Frag) : Sp := fun vs H Q _ => ∃ (t : Addr) (ps : List (Addr × Int × Int)), vs = [.ref t] ∧ SqT K H t (ps.map fun p => V.ref p.1) ∧ (∀ p ∈ ps, SqT K H p.1 [.int p.2.1, .int p.2.2]) ∧ ps.length ≤ 100000 ∧ ∀ H', Same H H' → Q (.bl (ascD (ps.map (·.2)))) H'
theorem ok_ascd {f : Addr} {fd : FuncData} {k : Nat} (F : Fun K "is_ascending" "is_ascending" sIsAsc f fd) (T : Nm mg) : FnOk P w K mg base CX0 (k + 1) f fd pIsAsc (spAscD K) := by
  refine F.ok scIsAsc (fun vs H Q E h => ?_) (fun cdv A outer s H vs Q E hr h => ?_)
  · obtain ⟨t, ps, rfl, _⟩ := h
    rfl
  · obtain ⟨t, ps, rfl, et, hp, lps, q⟩ := h
    refine ⟨_, (pss_one (ps_ret (pe_callB (cr_all rfl) (by rfl) T.all (by decide +kernel) (pa_cons (pe_lc (own := [("one", 1), ("other", 2)]) (g := gTup K 2 (gCons (gName 1) (gCons (gName 2) gNil))) (by rfl) scIsAsc.nd (RZ.pi_zipA (by rfl) T.zip (pa_cons (pv 0) (pa_cons (pe_slice sl_tupS (pv 0) (po_some pe_int) po_none) pa_nil)))
 (blkOk_by (own := [("one", 1), ("other", 2)]) (N := nIsAsc) (sc := defScope sIsAsc) (by decide +kernel))
 (fun _ _ _ _ _ => (pg_tup (by rfl) (pgs_cons (pg_name (i := 1) scIsAsc.nd rfl (.inl rfl)) (pgs_cons (pg_name (i := 2) scIsAsc.nd rfl (.inl rfl)) pgs_nil)))) (fun _ _ _ _ _ => pts_nil) (fun _ _ _ _ _ => (pe_cmpR (op_ltTK K rfl hr.units) (pv 1) (pv 2) (nomark _)))) pa_nil)))), ?_⟩
    refine ⟨_, rfl, _, rfl, _, rfl, t, _, rfl, et, fun H1 u s1 eu => ?_⟩
    rw [cut1] at eu
    have sz := sizeLine_eq
    refine ⟨t, u, _, _, rfl, .inr ⟨sqT_sm s1 et, eu, fun L hL => lc_zipS (K := K) (a := t) (b := u) (xs := ps.map fun p : Addr × Int × Int => V.ref p.1) (ys := (ps.map fun p : Addr × Int × Int => V.ref p.1).drop 1) (by rw [List.length_drop]; omega) (fun i H2 => Same H1 H2 ∧ H2 L = some (.lst (((List.range i).map (stepD (ps.map (·.2)))).map V.bl)))
      ⟨same_upd hL, upd_same⟩ (fun i H2 hh => ⟨sqT_sm hh.1 (sqT_sm s1 et), sqT_sm hh.1 eu⟩) ?_ ?_⟩⟩
    · rintro i x y T' H2 hx hy ⟨s2, e2⟩ hT
      obtain ⟨a, ha, rfl⟩ := get_ref hx
      rw [List.getElem?_drop] at hy
      obtain ⟨b, hb, rfl⟩ := get_ref hy
      have li := lt_of_get ha
      have es : stepD (ps.map (·.2)) i = HT.lexLt [a.2.1, a.2.2] [b.2.1, b.2.2] := by
        unfold stepD
        rw [List.getD_eq_getElem?_getD, List.getD_eq_getElem?_getD, List.getElem?_map, List.getElem?_map, ha, show i + 1 = 1 + i by omega, hb]
        rfl
      have s3 := s2.trans (same_upd (o := .tup [.ref a.1, .ref b.1]) hT)
      refine ⟨T', _, rfl, SqT.of upd_same, rfl, _, _, rfl, _, _, rfl, rfl, rfl, ?_⟩
      unfold tYes
      refine iteT ⟨_, rfl, _, rfl, a.1, b.1, [a.2.1, a.2.2], [b.2.1, b.2.2], rfl, rfl, sqT_sm (s1.trans s3) (hp a (List.mem_of_getElem? ha)), sqT_sm (s1.trans s3) (hp b (List.mem_of_getElem? hb)), ?_⟩
      refine ⟨_, same_upd hT _ _ e2, ?_, same_put s3 hL, ?_⟩
      · rw [List.length_map, List.length_map, List.length_range]
        omega
      · rw [upd_same, range_snocD, es]
    · rintro H2 ⟨s2, e2⟩
      refine ⟨L, _, rfl, SqL.of e2, ?_⟩
      rw [List.length_drop, List.length_map, show ps.length = (ps.map (·.2)).length by rw [List.length_map], up_allD]
      exact q _ (s1.trans s2)
def spHasC (K : PySem.W.Frag) : Sp := fun vs H Q _ => ∃ (n : Int) (t : Addr) (ps : List (Addr × Int × Int)), vs = [.int n, .ref t] ∧ 1 ≤ n ∧ n ≤ 8 ∧ SqT K H t (ps.map fun p => V.ref p.1) ∧ (∀ p ∈ ps, SqT K H p.1 [.int p.2.1, .int p.2.2]) ∧ (∀ p ∈ ps, 0 ≤ p.2.1 ∧ p.2.1 < p.2.2 ∧ p.2.2 < n) ∧ (ps.map (·.2)).Pairwise Dlt ∧
  ∀ H', Same H H' → Q (.bl (!forB n (ps.map (·.2)))) H'
abbrev nHasCyc : List Str := ["rooms", "doors", "at", "a", "b"]
theorem scHasCyc : FnScope nHasCyc ["rooms", "doors"] (defScope sHasCyc) := ⟨rfl, rfl, rfl, by decide +kernel, rfl, by decide +kernel, by decide +kernel⟩
theorem ok_hasc {f : Addr} {fd : FuncData} {k : Nat} (F : Fun K "has_cycle" "has_cycle" sHasCyc f fd) (Tenum : mg "enumerate" = none) (Cpath_between : Cal P w K mg base k "path_between" ["house", "a", "b"] (spPathQ K)) : FnOk P w K mg base CX0 (k + 1) f fd ["rooms", "doors"] (spHasC K) := by
  refine F.ok scHasCyc (fun vs H Q E h => ?_) (fun cdv A outer s H vs Q E hr h => ?_)
  · obtain ⟨n, t, ps, rfl, _⟩ := h
    rfl
  · obtain ⟨n, t, ps, rfl, n1, n8, et, hp, rg', up, q⟩ := h
    refine ⟨_, (pss_cons (ps_for PassesOwn.never rfl (pi_enumT (by rfl) Tenum (pa_cons (pv 1) pa_nil)) (pg_tup (by rfl) (pgs_cons (pg_name (i := 2) scHasCyc.nd rfl (.inl rfl)) (pgs_cons (pg_tup (by rfl) (pgs_cons (pg_name (i := 3) scHasCyc.nd rfl (.inl rfl)) (pgs_cons (pg_name (i := 4) scHasCyc.nd rfl (.inl rfl)) pgs_nil))) pgs_nil)))
      (pss_one (ps_if (pt_cmp (pc_notN (pe_cal Cpath_between hr (by rfl) (pa_cons (pe_tup (pa_cons (pv 0) (pa_cons (pe_slice sl_tupS (pv 1) po_none (po_some (pv 2))) pa_nil))) (pa_cons (pv 3) (pa_cons (pv 4) pa_nil))))))
       (pss_one (ps_ret pe_bl))
       pss_nil)))
      (pss_one (ps_ret pe_bl))), ?_⟩
    have lps : ps.length = (ps.map (·.2)).length := by rw [List.length_map]
    refine ⟨_, rfl, t, _, rfl, et, for_it (walk_enumT (K := K) (a := t) (xs := ps.map fun p => V.ref p.1)) (fun i σ' H' => ∃ y2 y3 y4, σ' = [some (.int n), some (.ref t), y2, y3, y4] ∧ Same H H' ∧ Forest n ((ps.map (·.2)).take i))
      ⟨_, _, _, rfl, Same.refl _, forest_nil n8⟩ (fun i σ' H' _ hh => ?_) ?_ ?_⟩
    · obtain ⟨_, _, _, _, s', _⟩ := hh
      exact sqT_sm s' et
    · rintro i _ σ' H1 _ li ⟨y2, y3, y4, rfl, s1, f1⟩ ⟨T', x, y, rfl, hT, rfl, ex, ey⟩
      cases ex
      obtain ⟨p, hpi, rfl⟩ := get_ref ey
      have pm := List.mem_of_getElem? hpi
      have hk : (ps.map (·.2))[i]? = some (p.2.1, p.2.2) := by rw [List.getElem?_map, hpi]; rfl
      have r := rg' p pm
      have s2 := s1.trans (same_upd (o := .tup [V.int (i : Nat), V.ref p.1]) hT)
      have eT : (upd H1 T' (.tup [V.int (i : Nat), V.ref p.1])) T' = some (.tup [V.int (i : Nat), V.ref p.1]) := upd_same
      generalize upd H1 T' (.tup [V.int (i : Nat), V.ref p.1]) = H2 at *
      refine ⟨T', _, rfl, SqT.of eT, rfl, _, _, rfl, _, _, rfl, p.1, _, rfl, sqT_sm s2 (hp p pm), rfl, _, _, rfl, _, _, rfl, rfl, rfl, ?_⟩
      refine ⟨_, rfl, _, rfl, _, rfl, _, rfl, t, _, rfl, sqT_sm s2 et, fun H3 u s3 eu => ⟨by show 2 ≤ sizeLine; decide, fun hh hhh => ?_⟩⟩
      rw [cut_at (Nat.le_of_lt (lt_of_get ey)), ← List.map_take] at eu
      have s4 := same_upd (o := .tup [V.int n, V.ref u]) hhh
      have eh : (upd H3 hh (.tup [V.int n, V.ref u])) hh = some (.tup [V.int n, V.ref u]) := upd_same
      generalize upd H3 hh (.tup [V.int n, V.ref u]) = H4 at *
      have hQ : HouseQ K H4 hh n ((ps.map (·.2)).take i) := ⟨u, ps.take i, SqT.of eh, sqT_sm s4 eu, by rw [List.map_take], fun z hz => sqT_sm (s2.trans (s3.trans s4)) (hp z (List.mem_of_mem_take hz))⟩
      refine ⟨_, rfl, _, rfl, hh, n, _, p.2.1, p.2.2, rfl, hQ, f1, n8, r.1, by omega, by omega, r.2.2, fun H5 s5 no => ⟨_, rfl, iteF ?_⟩, fun H5 v w s5 sp _ _ => ⟨_, rfl, iteT ?_⟩⟩
      · exact ⟨_, _, _, rfl, s2.trans (s3.trans (s4.trans s5)), forest_step up hk f1 r.1 r.2.1 r.2.2 no⟩
      · have := q _ (s2.trans (s3.trans (s4.trans s5)))
        rw [show forB n (ps.map (·.2)) = false by rw [Bool.eq_false_iff]; exact fun e => forest_way hk sp (forB_iff.mp e)] at this
        exact this
    · rintro σ' H1 ⟨y2, y3, y4, rfl, s1, f1⟩
      rw [List.length_map, lps, List.take_length] at f1
      have := q _ s1
      rw [forB_iff.mpr f1] at this
      exact this
def spHouseA (K : PySem.W.Frag) : Sp := fun vs H Q _ => ∃ (v : V) (d : PyData) (b k m : Nat), vs = [v] ∧ Dx K [] H v d ∧ Gd b k m d ∧ m ≤ 100000 ∧ ∀ H', Same H H' → Q (.bl (hsB d)) H'
abbrev nIsHouse : List Str := ["value", "rooms", "doors", "door"]
theorem scIsHouse : FnScope nIsHouse ["value"] (defScope sIsHouse) := ⟨rfl, rfl, rfl, by decide +kernel, rfl, by decide +kernel, by decide +kernel⟩
theorem ok_housea {f : Addr} {fd : FuncData} {k : Nat} (F : Fun K "is_house" "is_house" sIsHouse f fd) (T : Nm mg) {tk : Tok} (M : mg "MAX_ROOMS" = some (.int 8 tk)) (Cis_pair : Cal P w K mg base k "is_pair" pIsInt (spPair2 K)) (Cis_integer : Cal P w K mg base k "is_integer" pIsInt (spIsNum K)) (Cis_door : Cal P w K mg base k "is_door" ["rooms", "value"] (spDoor K)) (Cis_ascending : Cal P w K mg base k "is_ascending" pIsAsc (spAscD K)) (Chas_cycle : Cal P w K mg base k "has_cycle" ["rooms", "doors"] (spHasC K)) : FnOk P w K mg base CX0 (k + 1) f fd ["value"] (spHouseA K) := by
  refine F.ok scIsHouse (fun vs H Q E h => ?_) (fun cdv A outer s H vs Q E hr h => ?_)
  · obtain ⟨v, d, b, k, m, rfl, _⟩ := h
    rfl
  · obtain ⟨v, d, b, kk, m, rfl, hd, gd, hm, q⟩ := h
    refine ⟨_, (pss_cons (ps_if (pt_not (pt_val (pe_cal Cis_pair hr (by rfl) (pa_cons (pv 0) pa_nil))))
      (pss_one (ps_ret pe_bl))
      pss_nil)
      (pss_cons (ps_asg (pv 0) (pg_tup (by rfl) (pgs_cons (pg_name (i := 1) scIsHouse.nd rfl (.inr rfl)) (pgs_cons (pg_name (i := 2) scIsHouse.nd rfl (.inl rfl)) pgs_nil))))
      (pss_cons (ps_if (PW.pt (pw_or (pt_not (pt_val (pe_cal Cis_integer hr (by rfl) (pa_cons (pv 1) pa_nil)))) (pw_or (pt_not (pt_chain op_le op_le pe_int (pv 1) (pe_glob (v := .int 8) (by rfl) M ⟨_, rfl⟩))) (pw_or1 (pt_not (pt_val (pe_callB (call_isD (av := [])) (by rfl) T.isinstance (by decide +kernel) (pa_cons (pv 2) (pa_cons (pe_bltn (v := .ty "tuple") (by rfl) T.tuple (by decide +kernel) rfl) pa_nil)))))))))
      (pss_one (ps_ret pe_bl))
      pss_nil)
      (pss_cons (ps_if (pt_not (pt_val (pe_callB (cr_all rfl) (by rfl) T.all (by decide +kernel) (pa_cons (pe_lc (own := [("door", 3)]) (g := gName 3) (by rfl) scIsHouse.nd (pi_tupK K rfl (pv 2))
 (blkOk_by (own := [("door", 3)]) (N := nIsHouse) (sc := defScope sIsHouse) (by decide +kernel))
 (fun _ _ _ _ _ => (pg_name (i := 3) scIsHouse.nd rfl (.inl rfl))) (fun _ _ _ _ _ => pts_nil) (fun _ _ _ _ _ => (pe_cal Cis_door hr (by rfl) (pa_cons (pv 1) (pa_cons (pv 3) pa_nil))))) pa_nil))))
      (pss_one (ps_ret pe_bl))
      pss_nil)
      (pss_one (ps_ret (pe_and (pe_cal Cis_ascending hr (by rfl) (pa_cons (pv 2) pa_nil)) (pe_one (pe_not (pe_cal Chas_cycle hr (by rfl) (pa_cons (pv 1) (pa_cons (pv 2) pa_nil)))))))))))), ?_⟩
    have no : ¬ HsP d → ∀ H', Same H H' → Q (.bl false) H' := fun h H' s' => by
      have := q H' s'
      rw [hsB_no h] at this
      exact this
    refine ⟨_, rfl, v, d, rfl, hd, _, rfl, ?_⟩
    cases e : pr2 d with
    | false =>
      refine iteT (no (fun ⟨n, D, e', _⟩ => ?_) _ (Same.refl _))
      rw [e'] at e
      cases e
    | true =>
      refine iteF ?_
      cases hd with
      | @tup a xs ds sq da =>
        have l2 : ds.length = 2 := of_decide_eq_true e
        match ds, l2, da with
        | [d0, d1], _, da =>
          have gA : GdA b (kk - 1) m [d0, d1] := by
            cases kk with
            | zero => exact gd.flat.elim
            | succ k => exact gd.un
          cases da with
          | @cons x0 _ _ _ h0 da =>
          cases da with
          | @cons x1 _ _ _ h1 da =>
          cases da
          refine ⟨_, rfl, a, _, rfl, sq, rfl, _, _, rfl, _, _, rfl, rfl, ?_⟩
          refine ⟨_, rfl, x0, d0, rfl, h0, _, rfl, ?_⟩
          cases e0 : isNum d0 with
          | false =>
            refine iteT (iteT (no (fun ⟨n, D, e', _⟩ => ?_) _ (Same.refl _)))
            injection e' with e'
            injection e' with e1 _
            rw [e1] at e0
            cases e0
          | true =>
            obtain ⟨n, rfl, rfl⟩ := isNum_int h0 e0
            refine iteF ?_
            refine ⟨_, rfl, _, _, rfl, rfl, _, rfl, ?_⟩
            have bad : ¬ (1 ≤ n ∧ n ≤ 8) → ∀ H', Same H H' → Q (.bl false) H' := fun z => no fun ⟨n', D, e', a1, a2, _⟩ => z (by
              injection e' with e'
              injection e' with e1 _
              injection e1 with e1
              rw [e1]
              exact ⟨a1, a2⟩)
            by_cases c1 : 1 ≤ n
            rotate_left
            · rw [decide_eq_false c1]
              exact iteF ⟨_, rfl, iteT (iteT (bad (fun z => c1 z.1) _ (Same.refl _)))⟩
            rw [decide_eq_true c1]
            refine iteT ⟨_, _, rfl, rfl, _, rfl, ?_⟩
            by_cases c2 : n ≤ 8
            rotate_left
            · rw [decide_eq_false c2]
              exact iteT (iteT (bad (fun z => c2 z.2) _ (Same.refl _)))
            rw [decide_eq_true c2]
            refine iteF ?_
            refine ⟨_, rfl, x1, "tuple", d1, rfl, by decide, h1, _, rfl, ?_⟩
            cases it : isD "tuple" d1 with
            | false =>
              refine iteT (no (fun ⟨n', D, e', _⟩ => ?_) _ (Same.refl _))
              injection e' with e'
              injection e' with _ e2
              injection e2 with e2 _
              rw [e2] at it
              cases it
            | true =>
              refine iteF ?_
              cases h1 with
              | @tup t xs es sq2 db =>
                have lx : xs.length = es.length := db.len
                have ld : es.length ≤ 100000 := by
                  have g1 := gA.get (d := .tuple es) (by simp)
                  have : es.length ≤ m := by
                    cases hk : kk - 1 with
                    | zero => rw [hk] at g1; exact g1.flat.elim
                    | succ j => rw [hk] at g1; exact g1.un.len
                  omega
                have sz := sizeLine_eq
                refine ⟨_, rfl, t, rfl, ⟨_, sq2⟩, fun L hL => lc_tup (K := K) (a := t) (xs := xs) (fun i H1 => Same H H1 ∧ H1 L = some (.lst (((es.take i).map (drD n)).map V.bl))) ⟨same_upd hL, upd_same⟩ (fun i H1 _ hh => sqT_sm hh.1 sq2) ?_ ?_⟩
                · rintro i x H1 hx ⟨s1, e1⟩
                  obtain ⟨dx, edx, hdx⟩ := db.at hx
                  have hi := lt_of_get hx
                  refine ⟨rfl, ?_⟩
                  unfold tYes
                  refine iteT ⟨_, rfl, _, rfl, n, x, dx, rfl, dx_sm s1 hdx, ⟨_, e1, ?_, same_put s1 hL, ?_⟩⟩
                  · rw [List.length_map, List.length_map, List.length_take]
                    omega
                  · rw [upd_same, take_snoc edx, List.map_append, List.map_append]
                    rfl
                · rintro H1 ⟨s1, e1⟩
                  rw [lx, List.take_length] at e1
                  refine ⟨L, _, rfl, SqL.of e1, _, rfl, ?_⟩
                  have ea : (es.map (drD n)).all id = es.all (drD n) := by rw [List.all_map]; rfl
                  rw [ea]
                  cases eb : es.all (drD n) with
                  | false =>
                    refine iteT (no (fun ⟨n', D, e', _, _, f⟩ => ?_) _ s1)
                    have := hsd_inj2 e'
                    rw [this.2, this.1] at eb
                    rw [all_drD fun x hx => f.ends (show (x.1, x.2) ∈ D from hx)] at eb
                    cases eb
                  | true =>
                    obtain ⟨D, rfl, hD⟩ := drD_all eb
                    obtain ⟨ps, rfl, eD, hps⟩ := dx_doors db
                    rw [List.length_map] at ld
                    have lD : D.length = ps.length := by rw [eD, List.length_map]
                    have key : hsB (.tuple [.int n, .tuple (D.map drd)]) = (ascD D && forB n D) := by
                      rw [Bool.eq_iff_iff, hsB_iff, Bool.and_eq_true, ascD_iff, forB_iff]
                      constructor
                      · rintro ⟨n', D', e', _, _, f⟩
                        obtain ⟨rfl, rfl⟩ := hsd_inj e'
                        exact ⟨f.up, f⟩
                      · rintro ⟨_, f⟩
                        exact ⟨n, D, rfl, c1, c2, f⟩
                    rw [key] at q
                    refine iteF ⟨_, rfl, t, ps, rfl, sqT_sm s1 sq2, fun p hp => sqT_sm s1 (hps p hp), by omega, fun H2 s2 => ⟨_, rfl, ?_⟩⟩
                    rw [← eD]
                    cases ua : ascD D with
                    | false =>
                      rw [ua] at q
                      exact iteF (q _ (s1.trans s2))
                    | true =>
                      have s12 := s1.trans s2
                      refine iteT ⟨_, rfl, _, rfl, n, t, ps, rfl, c1, c2, sqT_sm s12 sq2, fun p hp => sqT_sm s12 (hps p hp), fun p hp => hD p.2 (by rw [eD]; exact List.mem_map_of_mem (f := (·.2)) hp), by rw [← eD]; exact ascD_iff.mp ua, fun H3 s3 => ⟨_, rfl, ?_⟩⟩
                      rw [← eD, Bool.not_not]
                      rw [ua, Bool.true_and] at q
                      exact q _ (s12.trans s3)
              | _ => exact absurd it (by simp [isD, kindD])
      | _ => exact absurd e (by simp [pr2])
end
end Fw
namespace Fw
open PySem PySem.Spec PyProof.Rows L2
/-! lists of texts as data, for laws without is_target -/
theorem strs_layd {ns : List Str} (h : ∀ x ∈ ns, PyData.strOk x = true) : PyData.canLayAll0 (ns.map PyData.str) = true ∧ PyData.depthAll (ns.map PyData.str) = 0 := by
  induction ns with
  | nil => simp [PyData.canLayAll0, PyData.depthAll]
  | cons x ns ih =>
    obtain ⟨i1, i2⟩ := ih fun y hy => h y (List.mem_cons_of_mem _ hy)
    rw [List.map_cons]
    simp only [PyData.canLayAll0, PyData.depthAll, PyData.canLay0, PyData.depth, i1, i2, h x List.mem_cons_self, Bool.and_self, Nat.max_self, and_self]
theorem strsL_shaped {ns : List Str} (h : ∀ x ∈ ns, PyData.strOk x = true) : SeqAt.shaped (.list (ns.map PyData.str)) = true := by
  obtain ⟨l1, l2⟩ := strs_layd h
  unfold SeqAt.shaped
  rw [PyData.canLay0, l1, PyData.depth, l2]
  simp
theorem dp_strsT {K : PySem.W.Frag} {H : Hp} : ∀ ns : List Str, DpAll K H (ns.map V.str) (ns.map PyData.str)
  | [] => .nil
  | x :: ns => .cons (.str x) (dp_strsT ns)
end Fw
set_option maxHeartbeats 2000000
namespace Fw
open PySem PySem.Spec PyProof.Rows L2
open RZ
theorem abc_cps : (Str.ofString "abcdefghijklmnopqrstuvwxyz").cps.toList = (List.range 26).map (97 + ·) := by decide +kernel
theorem in_abc (c : Nat) : (c ∈ (Str.ofString "abcdefghijklmnopqrstuvwxyz").cps.toList) ↔ 97 ≤ c ∧ c ≤ 122 := by
  rw [abc_cps, List.mem_map]
  constructor
  · rintro ⟨i, hi, rfl⟩
    have := List.mem_range.mp hi
    omega
  · intro h
    exact ⟨c - 97, List.mem_range.mpr (by omega), by omega⟩
theorem eqv_nilS (ns : List Str) : PyData.eqv (.list (ns.map PyData.str)) (.list []) = ns.isEmpty := by
  rw [PyData.eqv]
  cases ns with
  | nil => rw [List.map_nil, PyData.eqvAll]; rfl
  | cons n ns => rw [List.map_cons, PyData.eqvAll]; rfl
/-- the signs that are no letters, one by one -/
def offs (l : List Nat) : List Str := (l.filter fun c => !decide (97 ≤ c ∧ c ≤ 122)).map fun c => (⟨#[c]⟩ : Str)
theorem offs_empty (z : Str) : (offs z.cps.toList).isEmpty = letr z := by
  unfold offs letr
  rw [Bool.eq_iff_iff, List.isEmpty_iff, List.map_eq_nil_iff, List.filter_eq_nil_iff, List.all_eq_true]
  constructor
  · intro h c hc
    have := h c hc
    simpa using this
  · intro h c hc
    have := h c hc
    simpa using this
theorem offs_ok {l : List Nat} (h : ∀ c ∈ l, c < 1114112) : ∀ x ∈ offs l, PyData.strOk x = true := fun x hx => by
  obtain ⟨c, hc, rfl⟩ := List.mem_map.mp hx
  have := h c (List.mem_filter.mp hc).1
  unfold PyData.strOk
  simpa using this
theorem offs_len (l : List Nat) : (offs l).length ≤ l.length := by
  unfold offs
  rw [List.length_map]
  exact List.length_filter_le _ _
section
variable {P : Program} {w : World} {K : PySem.W.Frag} {mg : Str → Option Value} {base : Heap}
abbrev nLIsName : List Str := ["_law_value", "_law_sign"]
theorem scLIsName : FnScope nLIsName ["_law_value"] (defScope sLIsName) := ⟨rfl, rfl, rfl, by decide +kernel, rfl, by decide +kernel, by decide +kernel⟩
theorem ok_lisnamea {f : Addr} {fd : FuncData} {k : Nat} (F : Fun K "_law_is_name" "_law_is_name" sLIsName f fd) (T : Nm mg) : FnOk P w K mg base CX0 (k + 1) f fd ["_law_value"] (spIsNameA K) := by
  refine F.ok scLIsName (fun vs H Q E h => ?_) (fun cdv A outer s H vs Q E hr h => ?_)
  · obtain ⟨v, d, b, k, n, rfl, _⟩ := h
    rfl
  · obtain ⟨v, d, b, k, n, rfl, hd, gd, hn, q⟩ := h
    refine ⟨_, (pss_cons (ps_if (PW.pt (pw_or (pt_not (pt_val (pe_callB (call_isD (av := [])) (by rfl) T.isinstance (by decide +kernel) (pa_cons (pv 0) (pa_cons (pe_bltn (v := .ty "str") (by rfl) T.str (by decide +kernel) rfl) pa_nil))))) (pw_or1 (pt_not (pt_chain op_le op_le pe_int (pe_callB call_len_str (by rfl) T.len (by decide +kernel) (pa_cons (pv 0) pa_nil)) pe_int)))))
      (pss_one (ps_ret pe_bl))
      pss_nil)
      (pss_one (ps_ret (pe_cmpR (op_eqDK K rfl hr.units) (pe_lc (own := [("_law_sign", 1)]) (g := gName 1) (by rfl) scLIsName.nd (pi_str (pv 0))
 (blkOk_by (own := [("_law_sign", 1)]) (N := nLIsName) (sc := defScope sLIsName) (by decide +kernel))
 (fun _ _ _ _ _ => (pg_name (i := 1) scLIsName.nd rfl (.inl rfl))) (fun _ _ _ _ _ => pts_one (pt_cmpR op_notIn_sign (pv 1) pe_str (by rfl))) (fun _ _ _ _ _ => (pv 1))) (pe_lst pa_nil) (nomark _))))), ?_⟩
    refine ⟨_, rfl, v, "str", d, rfl, by decide, hd, _, rfl, ?_⟩
    refine ite2 (fun z => ?_) (fun z => ?_)
    · refine iteT ?_
      have : nmD d = false := by cases d <;> first | rfl | (cases z; done)
      rw [this] at q
      exact q _ (Same.refl _)
    have it : isD "str" d = true := by cases e : isD "str" d with | true => rfl | false => rw [e] at z; exact absurd rfl z
    have ex : ∃ z, d = .str z := by
      cases d <;> first | (cases it; done) | exact ⟨_, rfl⟩
    obtain ⟨nm, rfl⟩ := ex
    obtain rfl := dx_str hd
    have lz := gd_str gd
    have cz : ∀ c ∈ nm.cps.toList, c < 1114112 := fun c hc => of_decide_eq_true (List.all_eq_true.mp (show (nm.cps.toList.all fun c => decide (c < 1114112)) = true from gd.i) c hc)
    have q : ∀ H', Same H H' → Q (.bl (nmOk nm)) H' := q
    have no : ¬ (1 ≤ nm.length ∧ nm.length ≤ 8) → nmOk nm = false := fun h => by unfold nmOk; rw [decide_eq_false h]; rfl
    refine ⟨_, rfl, _, rfl, by rw [sizeLine_eq]; omega, _, _, rfl, rfl, _, rfl, ?_⟩
    by_cases l1 : (1 : Int) ≤ (nm.length : Nat)
    · rw [decide_eq_true l1]
      refine iteT ⟨_, _, rfl, rfl, _, rfl, ?_⟩
      by_cases l2 : ((nm.length : Nat) : Int) ≤ 8
      · rw [decide_eq_true l2]
        refine iteF ⟨_, rfl, nm, rfl, fun L hL => lc_it walk_str (fun i H1 => Same H H1 ∧ H1 L = some (.lst ((offs (nm.cps.toList.take i)).map V.str))) ⟨same_upd hL, upd_same⟩ (fun _ _ _ _ => trivial) ?_ ?_⟩
        · rintro i x H1 H2 hi ⟨s1, e1⟩ ⟨rfl, c, hc, rfl⟩
          have hc' : nm.cps.toList[i]? = some c := by rw [Array.getElem?_toList]; exact hc
          have es : offs (nm.cps.toList.take (i + 1)) = offs (nm.cps.toList.take i) ++ if 97 ≤ c ∧ c ≤ 122 then [] else [(⟨#[c]⟩ : Str)] := by
            unfold offs
            rw [take_snoc hc', filter_snoc, List.map_append]
            congr 1
            by_cases h : 97 ≤ c ∧ c ≤ 122
            · rw [if_pos h, if_neg (by simp [h])]; rfl
            · rw [if_neg h, if_pos (by simp only [decide_eq_false h, Bool.not_false])]; rfl
          refine ⟨rfl, _, rfl, c, _, rfl, rfl, _, rfl, ?_⟩
          rw [es]
          by_cases h : 97 ≤ c ∧ c ≤ 122
          · rw [if_pos h, List.append_nil, decide_eq_true ((in_abc c).mpr h)]
            exact iteF ⟨s1, e1⟩
          · rw [if_neg h, decide_eq_false fun z => h ((in_abc c).mp z)]
            refine iteT ⟨_, rfl, _, e1, ?_, same_put s1 hL, ?_⟩
            · rw [List.length_map]
              have := offs_len (nm.cps.toList.take i)
              rw [List.length_take] at this
              have : nm.cps.toList.length = nm.length := Array.length_toList
              exact small1000 (by omega)
            · rw [upd_same, vs_app]
              rfl
        · rintro H1 ⟨s1, e1⟩
          rw [show nm.cps.toList.take nm.cps.size = nm.cps.toList from List.take_of_length_le (by rw [Array.length_toList]; exact Nat.le_refl _)] at e1
          refine ⟨Nat.zero_le _, fun e he => ⟨.list ((offs nm.cps.toList).map PyData.str), .list [], .lst (SqL.of (same_upd he _ _ e1)) (dp_strsT _), .lst (SqL.of upd_same) .nil, strsL_shaped (offs_ok cz), strsL_shaped (ns := []) (fun x hx => by cases hx), ?_⟩⟩
          rw [eqv_nilS, offs_empty]
          have : nmOk nm = letr nm := by
            unfold nmOk
            rw [decide_eq_true (by omega)]
            rfl
          rw [← this]
          exact q _ (s1.trans (same_upd he))
      · rw [decide_eq_false l2]
        rw [no (by omega)] at q
        exact iteT (q _ (Same.refl _))
    · rw [decide_eq_false l1]
      rw [no (by omega)] at q
      exact iteF ⟨_, rfl, iteT (q _ (Same.refl _))⟩
end
end Fw
set_option maxHeartbeats 2000000
namespace Fw
open PySem PySem.Spec PyProof.Rows L2
/-! a def that is given the error which is being handled -/
/-- a promise by the error's address, its class, its dict -/
abbrev SpE := Addr → Value → Option Addr → Sp
structure FnE (P : Program) (w : World) (K : PySem.W.Frag) (mg : Str → Option Value) (base : Heap) (k : Nat) (f : Addr) (fd : FuncData) (ps : List Str) (sp : SpE) : Prop where
  len : ∀ a c d vs H Q, sp a c d vs H Q E0 → vs.length = ps.length
  run : ∀ (A : Around) (outer : List Env) (s : Shared) (H : Hp) (args : Args) (us : List Value) (vs : List V) (Q : VK) (p : Addr × Obj) (c : Value) (d : Option Addr), L2H.RoomH k A → Zc c d p.2 → (∃ l, p.2.data = .fields l) → L2H.PinOk outer H s p → Env0 P w K mg base A outer s H →
    BindsTo s fd args (ps.zip us) → Vals vs us → sp p.1 c d vs H Q E0 → codeAny (model P w) A (.call (.ref f) args) (CR CX0 outer P w H s Q E0) s
section
variable {P : Program} {w : World} {K : PySem.W.Frag} {mg : Str → Option Value} {base : Heap}
theorem Fun.okE {x qual : Str} {st : Stmt} {f : Addr} {fd : FuncData} {N ps : List Str} {k : Nat} {sp : SpE} (F : Fun K x qual st f fd) (S : FnScope N ps (defScope st)) (len : ∀ a c d vs H Q, sp a c d vs H Q E0 → vs.length = ps.length)
    (body : ∀ (cdv : Value) (A : Around) (outer : List Env) (s : Shared) (H : Hp) (vs : List V) (Q : VK) (p : Addr × Obj) (c : Value) (d : Option Addr), Zc c d p.2 → (∃ l, p.2.data = .fields l) → L2H.RoomH k (A.deeper (envOfC qual (defScope st) s.heap.objs.size f cdv)) → sp p.1 c d vs H Q E0 →
      ∃ t, PSs (L2H.cxH CX0 P w K mg base N qual (defScope st) f cdv A outer s H E0 p) (defBody st) t ∧ t { nx := fun _ H' => Q .non H', rt := Q } (L2.start N vs) H) : FnE P w K mg base (k + 1) f fd ps sp := by
  obtain ⟨oc, od, kV, doc, pm, an, cdv, ct, osl, rfl, lk, code⟩ := F.ex
  constructor
  · exact len
  intro A outer z H args us vs Q p c d room hz hf pin env bnd rel want
  have stay : ∀ b o, base.get? b = some o → z.heap.get? b = some o := fun b o e => (env.bs b o e).1
  have here : K.In z.heap := env.mod.kin.keeps stay
  obtain ⟨t, walk, wish⟩ := body cdv A outer z H vs Q p c d hz hf (room.deeper _) want
  refine codeAny_call_function room.depth (here _ _ lk) rfl S.co S.gen rfl (PySem.W.codeRec_of here code) (bnd _ _ _ _ (wpAny_newFunctionEnv_cells S.kind ?par ?go))
  case par =>
    rintro ⟨y, v⟩ hy
    cases S.par y (List.of_mem_zip hy).1 with
    | inl l => exact .inl l
    | inr l => exact .inr ⟨l, PySem.W.cellsFrom_some _ _ _ (.inl l)⟩
  case go =>
    rintro env' rfl z1 inside
    refine ⟨(env.mod.nolimit.keeps stay).keeps inside.toInCall.keep, codeAny_func (wpAny_mono (walk.run [] z1 _ H _ (L2H.inv_startH (CX := CX0) (E := E0) S pin env (len _ _ _ _ _ _ want) rel inside) wish) ?_ fun _ _ no => no)⟩
    intro fl z2 out
    match fl, out with
    | .ret u, ⟨v, σ', H', J, rv, q⟩ => exact ⟨v, H', J.os, J.bare, J.base, J.hok, rv, q⟩
    | .next, ⟨σ', H', J, q⟩ => exact ⟨V.non, H', J.os, J.bare, J.base, J.hok, rfl, q⟩
    | .brk, ⟨_, _, _, no⟩ => exact no.elim
    | .cont, ⟨_, _, _, no⟩ => exact no.elim
/-- such a def, by its name -/
def CalE (P : Program) (w : World) (K : PySem.W.Frag) (mg : Str → Option Value) (base : Heap) (k : Nat) (x : Str) (ps : List Str) (sp : SpE) : Prop :=
  ∃ f fd, mg x = some (.ref f) ∧ PySem.W.keepIn K (.ref f) = true ∧ Binds K fd ps [] ∧ FnE P w K mg base k f fd ps sp
theorem DefE.calE {x : Str} {st : Stmt} {ps : List Str} {k : Nat} {sp : SpE} (D : DefE K mg x st ps) (h : ∀ f fd, Def K mg x st f fd ps → FnE P w K mg base k f fd ps sp) : CalE P w K mg base k x ps sp := by
  obtain ⟨f, fd, d⟩ := D
  exact ⟨f, fd, d.g, d.F.kp, d.b, h f fd d⟩
end
section
variable {X : Cx} {a : Addr} {oe : Obj} {pn : List (Addr × Obj)} {cls : Value} {d : Option Addr}
/-- the call of such a def in an except suite -/
def tCalE (sp : SpE) (a : Addr) (cls : Value) (d : Option Addr) (t : TA) : TE := fun σ H Q => t σ H fun vs H1 => sp a cls d vs H1 Q E0
theorem pe_calE {k : Nat} {x : Str} {ps : List Str} {sp : SpE} {e : Expr} {es : List Expr} {t : TA} {q pos : Pos} (hz : Zc cls d oe) (hf : ∃ l, oe.data = .fields l) (C : CalE X.prog X.w X.K X.mg X.base k x ps sp) (hr : Room k X.A) (hg : Gl X x)
    (ha : PA (X.suite a ((a, oe) :: pn)) (e :: es) t) (hdb : (x == ("__debug__" : Str)) = false := by decide) (h1 : starEach (e :: es) X.env = (false, eval e X.env) :: starEach es X.env := by rfl) (h2 : (backTo pos (starEach es X.env)).any (·.1) = false := by rfl) :
    PE (X.suite a ((a, oe) :: pn)) (.Call (.Name x q) (e :: es) [] pos) (tCalE sp a cls d t) := by
  obtain ⟨f, fd, g, kp, bd, F⟩ := C
  constructor
  intro pins z σ H Q I h
  refine wpAny_Call_Name_kw (ld_glob I hg g (PySem.W.callWith_K (h₀ := X.base) I.ok.mod.kin kp (thn (ha.run pos pins z σ H _ I h) ?_) h1 h2) hdb)
  rintro us z1 ⟨vs, H1, J, rel, want⟩
  refine ⟨J.kIn, ?_⟩
  have ln : us.length = ps.length := by rw [← rel.length]; exact F.len _ _ _ _ _ _ want
  have b := bd z1 us J.kIn (by rw [List.append_nil]; exact ln)
  rw [List.append_nil] at b
  obtain ⟨g1, g2, g3, g4, g5⟩ := J.pin (a, oe) (List.mem_append_left _ List.mem_cons_self)
  have pin : L2H.PinOk (X.suite a ((a, oe) :: pn)).stack H1 z1 (a, oe) := ⟨g1, g2, fun m => (List.mem_cons.mp (J.stkSub a m)).elim g3 g4, g5⟩
  refine wpAny_call (codeAny_mono (F.run _ _ z1 H1 ⟨us, []⟩ us vs Q (a, oe) cls d ⟨hr.dp, hr.un⟩ hz hf pin J.env0 b rel want) ?_)
  intro r z2 out
  match r, out with
  | .error _, no => exact no.elim
  | .ok .next, no => exact no.elim
  | .ok .brk, no => exact no.elim
  | .ok .cont, no => exact no.elim
  | .ok (.ret u), got => exact J.after got
end
/-! isinstance of an error that the context holds -/
section
variable {X : Cx} {a : Addr} {oe : Obj} {cls : Value} {d : Option Addr}
theorem pin_inst {pins : List (Addr × Obj)} {σ : L2.St} {H : Hp} {s : Shared} {D : Addr} (m : (a, oe) ∈ X.pn) (I : Inv X pins σ H s) (hz : Zc cls d oe) (hf : ∃ l, oe.data = .fields l) (h : HeldX X.K cls d D H) : ∃ od, PySem.W.InstAt s.heap a oe D od := by
  obtain ⟨here, _⟩ := I.pin (a, oe) (List.mem_append_left _ m)
  obtain ⟨l, hl⟩ := hf
  have nc : PySem.W.notCls oe := by unfold PySem.W.notCls; rw [hl]
  cases d with
  | none => exact ⟨none, here, hz.1.trans h.c, nc, by rw [hz.2]; trivial⟩
  | some dx =>
    obtain ⟨fs, e⟩ := h.x dx rfl
    obtain ⟨mA, ns, _⟩ := (show ObjOk X.prog X.w H s.heap dx (.xd fs) from I.hok dx _ e)
    obtain ⟨od, ho, _⟩ := lookIn_ns ns
    exact ⟨some od, here, hz.1.trans h.c, nc, by rw [hz.2]; exact ho⟩
theorem call_isCp (K : PySem.W.Frag) (hK : X.K = K) (m : (a, oe) ∈ X.pn) (hz : Zc cls d oe) (hf : ∃ l, oe.data = .fields l) : CallR X (.builtin "isinstance") (rIsC K a cls d) := by
  subst hK
  rintro pins s σ H _ us Q I r ⟨D, c, cv, b, rfl, h, k, e, q⟩
  obtain ⟨ua, ub, rfl, ra, rb⟩ := vals2 r
  cases k.eq rb
  cases (show ua = Value.ref a from ra)
  obtain ⟨od, M⟩ := pin_inst m I hz hf h
  exact PySem.W.kia_one (PySem.W.kitx_exc h.e.cl h.e.x.ga h.e.x.gg h.e.x.exC h.e.ofc h.e.sp h.e.tk h.e.mo) I.kIn M e (fun z => nomatch z) fun tk => ⟨.bl b, H, I.tok tk, rfl, q⟩
theorem call_isTp (K : PySem.W.Frag) (hK : X.K = K) (m : (a, oe) ∈ X.pn) (hz : Zc cls d oe) (hf : ∃ l, oe.data = .fields l) : CallR X (.builtin "isinstance") (rIsT K a cls d) := by
  subst hK
  rintro pins s σ H _ us Q I r ⟨D, t, cs, cvs, b, rfl, h, ht, all, e, q⟩
  obtain ⟨ua, ub, rfl, ra, rb⟩ := vals2 r
  cases (show ua = Value.ref a from ra)
  cases (show ub = Value.ref t from rb)
  obtain ⟨od, M⟩ := pin_inst m I hz hf h
  obtain ⟨its, rv, ⟨⟨tc, dd, da, ss⟩, at0, c0, n, d0⟩, _⟩ := I.tuple ht
  cases c0
  cases d0
  cases all its rv
  exact PySem.W.kia_tup (PySem.W.kitx_exc h.e.cl h.e.x.ga h.e.x.gg h.e.x.exC h.e.ofc h.e.sp h.e.tk h.e.mo) I.kIn M at0 e (fun z => nomatch z) fun tk => ⟨.bl b, H, I.tok tk, rfl, q⟩
end
end Fw
set_option maxHeartbeats 4000000
namespace Fw
open PySem PySem.Spec PyProof.Rows L2
/-! the class of the handled error, told by a def -/
structure Er (K : PySem.W.Frag) (mg : Str → Option Value) (x q : Str) (E C : Addr) : Prop where
  c : ∃ st ps f fd, CF K mg x q st ps E C f fd
theorem Er.g {K : PySem.W.Frag} {mg : Str → Option Value} {x q : Str} {E C : Addr} (r : Er K mg x q E C) : mg x = some (.ref C) := by
  obtain ⟨_, _, _, _, c⟩ := r.c
  exact c.g
theorem Er.e {K : PySem.W.Frag} {mg : Str → Option Value} {x q : Str} {E C : Addr} (r : Er K mg x q E C) : EC K C := by
  obtain ⟨_, _, _, _, c⟩ := r.c
  exact c.e
theorem Er.mro {K : PySem.W.Frag} {mg : Str → Option Value} {x q : Str} {E C : Addr} (r : Er K mg x q E C) : Mro K E C := by
  obtain ⟨_, _, _, _, c⟩ := r.c
  exact c.mro
theorem Er.is {K : PySem.W.Frag} {mg : Str → Option Value} {x q : Str} {E C : Addr} (r : Er K mg x q E C) : PySem.W.kitOne K (.ref C) (.ref C) = some true := by
  rw [kitR r.mro r.e.cl r.e.o.tyC, decide_eq_true (.inl rfl)]
theorem Er.isnt {K : PySem.W.Frag} {mg : Str → Option Value} {x y q1 q2 : Str} {E C1 C2 : Addr} (a : Er K mg x q1 E C1) (b : Er K mg y q2 E C2) (h : HE K mg E) (n : q1 ≠ q2) : PySem.W.kitOne K (.ref C1) (.ref C2) = some false := by
  rw [kitR a.mro b.e.cl b.e.o.tyC, decide_eq_false]
  rintro (e | e)
  · obtain ⟨_, _, _, _, ca⟩ := a.c
    obtain ⟨_, _, _, _, cb⟩ := b.c
    exact ca.ne cb n e.symm
  · exact h.ne b.mro e
theorem Er1.er {P : Program} {w : World} {K : PySem.W.Frag} {mg : Str → Option Value} {base : Heap} {x q fld : Str} {E C : Addr} (r : Er1 P w K mg base x q fld E C) : Er K mg x q E C := by
  obtain ⟨st, f, fd, c⟩ := r.c
  exact ⟨st, _, f, fd, c⟩
/-- a class without fields -/
def CE0 (K : PySem.W.Frag) (mg : Str → Option Value) (E : Addr) (x q : Str) (st : Stmt) : Prop := ∃ C f fd, CF K mg x q st ["self"] E C f fd
theorem CE0.er {K : PySem.W.Frag} {mg : Str → Option Value} {E : Addr} {x q : Str} {st : Stmt} (c : CE0 K mg E x q st) : ∃ C, Er K mg x q E C := by
  obtain ⟨C, f, fd, c⟩ := c
  exact ⟨C, st, _, f, fd, c⟩
section
variable {X : Cx}
theorem tellK {K : PySem.W.Frag} {x : Expr} {T : String} {r : V → List V → Hp → VK → Prop} {to : TE} {t : TA} (hK : X.K = K) (h : PE X x (tBM X.K T r to t)) : PE X x (tBM K T r to t) := by
  subst hK
  exact h
theorem mt_countK (K : PySem.W.Frag) (h : X.K = K) : MtR X "list.count" (rCntB K) := by subst h; exact mt_countB
theorem mt_indexK (K : PySem.W.Frag) (h : X.K = K) : MtR X "list.index" (rIndex K) := by subst h; exact mt_index
end
theorem le_szE {n : Nat} (h : n ≤ 100) : n ≤ sizeLine := Nat.le_trans h (by decide)
section
variable {P : Program} {w : World} {K : PySem.W.Frag} {mg : Str → Option Value} {base : Heap}
/-- what it tells of an error of the class at D -/
def spLEC (D : Addr) (z : Str) : SpE := fun a c d vs H Q _ => vs = [.ref a] ∧ c = .ref D ∧ (∀ dx, d = some dx → ∃ fs, H dx = some (.xd fs)) ∧ ∀ H', Same H H' → Q (.str z) H'
end
end Fw
set_option maxHeartbeats 4000000
namespace Fw
open PySem PySem.Spec PyProof.Rows L2
/-! rules for sessions: len(x), str(x) of own instances; a local name that holds a def, called with *args; t += u; x, *y = t -/
section
variable {X : Cx} {CX : CXT} {pn : List (Addr × Obj)} {σ : L2.St} {H : Hp} {z : Shared} {n : Nat} {C a dx g : Addr} {fs : List (Str × V)} {sp : Sp} {E : XK}
/-- an instance that is told of stands in memory -/
theorem inst_at (J : Inv X pn σ H z) (e : H a = some (.ins C dx fs)) : ∃ d, PySem.W.InstAt z.heap a (PySem.W.instObj C dx) C (some d) :=
  let ⟨_, m, _⟩ := ins_get J.hok e
  let ⟨d, there, _⟩ := m.look
  ⟨d, there⟩
/-- its own def, run by a builtin that stands above -/
theorem own_run {A : Around} {q : VK} {R : Value → Shared → Prop} (F : FnR X.prog X.w X.K X.mg X.base CX n g sp) (room : Room n A) (env : Env0 X.prog X.w X.K X.mg X.base A X.stack z H) (up : Passes CX X E) (J : Inv X pn σ H z) (want : sp [.ref a] H q E)
    (then_ : ∀ u v G z', Inv X pn σ G z' → RelV v u → q v G → R u z') : wpAny (model X.prog X.w) A (call (.ref g) [.ref a]) R X.xe z := by
  have body := SlX.run_at (us := [Value.ref a]) F room env up J (.cons (show RelV (V.ref a) (Value.ref a) from rfl) .nil) want
  exact wpAny_mono (wpAny_call body) (fun u z' ⟨v, G, J', rel, got⟩ => then_ u v G z' J' rel got) fun _ _ no => no
/-- len(x) of an instance, by its class's own def -/
def rLenOwn (C : Addr) (sp : Sp) (E : XK) : List V → Hp → VK → Prop := fun xs H Q => ∃ a dx fs, xs = [V.ref a] ∧ H a = some (.ins C dx fs) ∧ sp [.ref a] H (fun v H' => ∃ i, v = .int i ∧ 0 ≤ i ∧ i < 2 ^ 63 ∧ Q v H') E
theorem call_lenOwn (there : PySem.W.findIn X.K (.ref C) "__len__" = some (some (.ref g))) (fn : PySem.W.isFn X.K (.ref g) = true) (F : FnR X.prog X.w X.K X.mg X.base CX n g sp) (room : Room (n + 1) X.A) (up : Passes CX X E) : CallR X (.builtin "len") (rLenOwn C sp E) := by
  rintro pn z σ H _ us Q J rel ⟨a, dx, fs, rfl, e, want⟩
  rw [Vals.ref1 rel]
  obtain ⟨d, inst⟩ := inst_at J e
  have ⟨m, frame⟩ := J.fr
  refine PySem.W.len_K frame J.ok.mod.kin inst there fn (own_run F (Room.in1 room) J.env0.in1 up J want ?_)
  rintro u _ G z' J' ru ⟨i, rfl, low, high, got⟩
  obtain ⟨t, rfl⟩ : ∃ t, u = Value.int i t := ru
  exact ⟨⟨low, high⟩, V.int i, G, J'.tok _, ⟨_, rfl⟩, got⟩
/-- str(x) of an instance -/
def rStrOwn (C : Addr) (sp : Sp) (E : XK) : List V → Hp → VK → Prop := fun xs H Q => ∃ a dx fs, xs = [V.ref a] ∧ H a = some (.ins C dx fs) ∧ sp [.ref a] H (fun v H' => ∃ y, v = .str y ∧ Q v H') E
theorem call_strOwn (there : PySem.W.findIn X.K (.ref C) "__str__" = some (some (.ref g))) (fn : PySem.W.isFn X.K (.ref g) = true) (F : FnR X.prog X.w X.K X.mg X.base CX n g sp) (room : Room (n + 2) X.A) (up : Passes CX X E) : CallR X (.type "str") (rStrOwn C sp E) := by
  rintro pn z σ H _ us Q J rel ⟨a, dx, fs, rfl, e, want⟩
  rw [Vals.ref1 rel]
  obtain ⟨d, inst⟩ := inst_at J e
  have room1 : Room (n + 1) X.A.in1 := Room.in1 room
  refine PySem.W.kso_call (Nat.lt_of_le_of_lt (Nat.le_add_right _ (16 * n + 200)) (by have := room1.in1.un; omega)) J.kIn inst there fn (own_run F room1.in1 J.env0.in1.in1 up J want ?_)
  rintro u _ G z' J' ru ⟨y, rfl, got⟩
  obtain ⟨t, rfl⟩ : ∃ t, u = Value.str y t := ru
  exact ⟨V.str y, G, J', ⟨_, rfl⟩, got⟩
end
section
variable {X : Cx} {CX : CXT} {k i : Nat} {E : L2.St → XK} {x : Str} {p pos : Pos} {e : Expr} {es : List Expr} {t : TA}
/-- a def whose promise is known, by its address -/
def KnX (P : Program) (w : World) (K : PySem.W.Frag) (mg : Str → Option Value) (base : Heap) (CX : CXT) (k : Nat) (f : Addr) (sp : Sp) : Prop := ∃ fd ps, FnOk P w K mg base CX k f fd ps sp ∧ PySem.W.keepIn K (.ref f) = true ∧ Binds K fd ps []
/-- the slot holds any such def; it may raise -/
def tCallAX (P : Program) (w : World) (K : PySem.W.Frag) (mg : Str → Option Value) (base : Heap) (CX : CXT) (k i : Nat) (E : L2.St → XK) (t : TA) : TE := fun σ H Q => ∃ f sp, σ[i]? = some (some (.ref f)) ∧ KnX P w K mg base CX k f sp ∧ t σ H fun vs H1 => sp vs H1 Q (E σ)
/-- x(e, .., *y), x a local name -/
theorem pe_callA2 (room : Room k X.A) (hN : X.N[i]? = some x) (hv : Vis X.env.scope x) (up : ∀ σ, PassesAt CX X σ (E σ)) (args : PA X (e :: es) t)
    (d1 : (x == ("__debug__" : Str)) = false := by decide) (d2 : (x == ("__classdict__" : Str)) = false := by decide)
    (first : starEach (e :: es) X.env = (false, eval e X.env) :: starEach es X.env := by rfl) (star : (backTo pos (starEach es X.env)).any (·.1) = true := by rfl) : PE X (.Call (.Name x p) (e :: es) [] pos) (tCallAX X.prog X.w X.K X.mg X.base CX k i E t) := by
  constructor
  rintro pn z σ H Q J ⟨f, sp, slot, ⟨fd, ps, F, kp, bd⟩, rest⟩
  have name := (pe_var (pos := p) hN hv d1 d2).run pn z σ H (fun v G => v = V.ref f ∧ G = H) J ⟨V.ref f, slot, rfl, rfl⟩
  refine wpAny_Call_Name_kw (thn name ?_)
  rintro u z1 ⟨_, _, J1, ru, rfl, rfl⟩
  obtain rfl : u = Value.ref f := ru
  have given := args.run pos pn z1 σ _ _ J1 rest
  refine PySem.W.callWith_S2 (h₀ := X.base) J.ok.mod.kin kp (thn given ?_) first star
  rintro us z2 ⟨vs, G, J2, rel, want⟩
  exact ⟨J2.kIn, run_fnS F room bd (up σ) J2 rel want⟩
/-- d[text] of a dict of the module -/
theorem ix_kd {d : Addr} {en : Array DictEntry} {n : Nat} (D : KDict X.K X.w d en n) : IxR X (fun x y H Q => ∃ (z : Str) (u0 : Value) (v0 : V), x = .ref d ∧ y = .str z ∧ PySem.W.nsIn X.K d z = some (some u0) ∧ RelV v0 u0 ∧ Q v0 H) := by
  intro o sl pn z σ H x y v u Q J rx ry want plain
  have item := op_item_kd D pn z σ H x y v u Q J rx ry want
  rcases want with ⟨_, _, _, rfl, _⟩
  obtain rfl : v = Value.ref d := rx
  exact tail_any (kd_type D J) PySem.F.slot_dict_getitem.lookup item plain
end
theorem noI_tuple : typeLookup (.type "tuple") (dunderI "add") = pure none := by rw [typeLookup_type, builtinLookup_eq_fast]; kernel_rfl
section
variable {P : Program} {w : World} {A : Around} {E : Value → Shared → Prop} {z : Shared}
/-- what tuple.__add__ does, in its three cases -/
theorem tuple_add {t b : Addr} {vs ws : List Value} {Q : Value → Shared → Prop} (ht : IsTup z.heap t vs.toArray) (hb : IsTup z.heap b ws.toArray) (few : vs.length + ws.length ≤ sizeLine)
    (q : (vs = [] ∧ Q (.ref b) z) ∨ (vs ≠ [] ∧ ws = [] ∧ Q (.ref t) z) ∨ (vs ≠ [] ∧ ws ≠ [] ∧ Q (.ref z.heap.objs.size) { z with heap := z.heap.push { cls := .type "tuple", data := .seq (vs ++ ws).toArray } })) :
    wpAny (model P w) A (call (.builtin "tuple.__add__") [.ref t, .ref b]) Q E z := by
  rcases ht with ⟨⟨c1, dd1, da1, sl1⟩, at1, k1, n1, r1⟩
  rcases hb with ⟨⟨c2, dd2, da2, sl2⟩, at2, k2, n2, r2⟩
  cases k1
  cases k2
  cases r1
  cases r2
  have isT : z.TypeIs (.ref t) "tuple" := ⟨_, at1, rfl⟩
  have args := PySem.F.args_tuple_add_2 (.ref t) (.ref b)
  rcases q with ⟨v0, q⟩ | ⟨v0, w0, q⟩ | ⟨v0, w0, q⟩
  · exact call_meets PySem.F.slot_tuple_add isT PySem.F.entry_tuple_add args (PyProof.Rows.tuple_addW0 t b _ _ n1 n2 dd1 dd2 sl1 sl2 (by rw [v0]; rfl)) ⟨at1, at2, q⟩
  · exact call_meets PySem.F.slot_tuple_add isT PySem.F.entry_tuple_add args (PyProof.Rows.tuple_addW1 t b _ _ n1 n2 dd1 dd2 sl1 sl2 (by simpa using v0) (by rw [w0]; rfl)) ⟨at1, at2, q⟩
  · refine call_meets PySem.F.slot_tuple_add isT PySem.F.entry_tuple_add args (PyProof.Rows.tuple_addW2 t b _ _ n1 n2 dd1 dd2 sl1 sl2 (by simpa using v0) (by simpa using w0) (by simpa using few)) ⟨at1, at2, ?_⟩
    rw [List.append_toArray]
    exact q
end
/-- t += u of tuples -/
theorem in_catA {X : Cx} : InOp X .Add (rCatA X.K) := by
  rintro pn z σ H _ _ u v Q J ru rv ⟨a, b, xs, ys, rfl, rfl, ta, tb, few, q0, q1, q2⟩
  obtain rfl : u = Value.ref a := ru
  obtain rfl : v = Value.ref b := rv
  obtain ⟨us, rx, ia, _⟩ := J.tuple ta
  obtain ⟨ws, ry, ib, _⟩ := J.tuple tb
  have isT : ∀ {c : Addr} {l : List Value}, IsTup z.heap c l.toArray → z.TypeIs (.ref c) "tuple" := fun h => h.typeIs
  refine wpAny_inplaceOp_concat (T := "tuple") (isT ia) (isT ib) noI_tuple noFill_tuple_add seq_tuple_add (tuple_add ia ib (by rw [← rx.length, ← ry.length]; exact few) ?_)
  by_cases e1 : xs = []
  · exact .inl ⟨rx.nil_iff.mpr e1, .ref b, H, J, rfl, q0 e1⟩
  by_cases e2 : ys = []
  · exact .inr (.inl ⟨fun e => e1 (rx.nil_iff.mp e), ry.nil_iff.mpr e2, .ref a, H, J, rfl, q1 e1 e2⟩)
  have both : Vals (xs ++ ys) (us ++ ws) := rx.append ry
  have new := J.laid (t' := z.toks) (a := z.heap.objs.size) (o := .tup (xs ++ ys)) (h' := z.heap.push { cls := .type "tuple", data := .seq (us ++ ws).toArray }) (fun _ _ old => Heap.get?_push_of_some _ old) (Nat.le_refl _) ⟨by simpa using few, us ++ ws, both, IsTup.new _ _⟩
  exact .inr (.inr ⟨fun e => e1 (rx.nil_iff.mp e), fun e => e2 (ry.nil_iff.mp e), .ref z.heap.objs.size, _, new, rfl, q2 e1 e2 _ (J.hok.fresh (Nat.le_refl _))⟩)
section
variable {P : Program} {w : World} {A : Around} {E : Value → Shared → Prop} {z : Shared}
/-- the walk over a tuple from a place on -/
theorem walksTup (calm : A.handled = none) {it t : Addr} (apart : t ≠ it) (items : Array Value) (from_ : Nat) (le : from_ ≤ items.size) :
    Walks P w A it [it, t] [it] (items.size - from_) (fun j v => items[j + from_]? = some v) (fun j h => IsTupIter h it t (j + from_) ∧ IsTup h t items) where
  sub b m := List.mem_cons.mpr (.inl (List.mem_singleton.mp m))
  frame j h h' st stay := ⟨st.1.imp fun _ r => ⟨stay it (List.mem_cons_self ..) _ r.1, r.2⟩, st.2.imp fun _ r => ⟨stay t (List.mem_cons_of_mem _ (List.mem_cons_self ..)) _ r.1, r.2⟩⟩
  item j z Q E lt st q := by
    have inside : j + from_ < items.size := Nat.add_lt_of_lt_sub lt
    have here : items[j + from_]? = some items[j + from_] := Array.getElem?_eq_getElem inside
    refine PyProof.Rows.next_tuple_item st.1 st.2 here fun h' moved but => q _ h' z.toks here ⟨?_, st.2.extBut but.extBut apart⟩ fun b o no old => but.extBut b o (fun e => no (e ▸ List.mem_singleton_self _)) old
    rwa [Nat.add_right_comm j 1 from_]
  done z Q E st q := PyProof.Rows.next_tuple_end calm st.1 st.2 (Array.getElem?_eq_none (by omega)) fun h' but => q h' z.toks fun b o no old => but b o (fun e => no (e ▸ List.mem_singleton_self _)) old
  self j z Q E st q := wpAny_pyIter_tupleiter (i := j + from_) st.1 q
/-- x, *y = a tuple that is not empty: the items to be stored -/
theorem items_star {t : Addr} {x : Value} {rest : List Value} {Q : List Value → Shared → Prop} (calm : A.handled = none) (it : IsTup z.heap t (x :: rest).toArray) (few : rest.length + 1 ≤ sizeLine)
    (q : ∀ (h' : Heap) (tk : Nat), (∀ b o, z.heap.get? b = some o → h'.get? b = some o) → Q [x, .ref h'.objs.size] { z with heap := h'.push { cls := .type "list", data := .seq rest.toArray }, toks := tk }) :
    wpAny (model P w) A (unpackItems (.ref t) 2 (some 1)) Q E z := by
  have old : ∀ {c o}, z.heap.get? c = some o → c ≠ z.heap.objs.size := fun e => Nat.ne_of_lt (Heap.lt_size e)
  have apart : t ≠ z.heap.objs.size := it.elim fun _ r => old r.1
  have isT := it.typeIs
  have can : wpAny (model P w) A (notIterableAtAll (.ref t)) (fun b z' => b = false ∧ z' = z) E z := by
    unfold notIterableAtAll
    exact wpAny_bind (wpAny_specialOf isT PyProof.Rows.slot_tuple_iter.lookup (wpAny_pure ⟨rfl, rfl⟩))
  unfold unpackItems
  refine wpAny_bind (wpAny_mono can ?_ fun _ _ e => e)
  rintro b z' ⟨eb, ez⟩
  rw [eb, ez]
  show wpAny (model P w) A (if false = true then _ else _) Q E _
  rw [if_neg Bool.false_ne_true]
  refine wpAny_bind (wpAny_holding (PyProof.Rows.iter_tuple it ?_))
  have it0 : IsTup (z.heap.push { cls := .type "tuple_iterator", data := .fields #[.ref t, .int 0 0] }) t (x :: rest).toArray := it.push _
  refine wpAny_bind (wpAny_holding (PyProof.Rows.draw_tuple apart 1 0 _ _ ⟨_, Heap.get?_push_size _ rfl, rfl, rfl⟩ it0 (by simp) ?_))
  intro h1 at1 but1
  rw [show List.take 1 (List.drop 0 (x :: rest).toArray.toList) = [x] by simp]
  show wpAny (model P w) A (if 1 < 1 then _ else _) Q E _
  rw [if_neg (Nat.lt_irrefl 1)]
  have it1 := it0.extBut but1.extBut apart
  have keep1 : ∀ b o, z.heap.get? b = some o → h1.get? b = some o := fun b o e => but1.extBut b o (old e) (Heap.get?_push_of_some _ e)
  have walk := (walksTup (P := P) (w := w) (A := A.in1) calm apart (x :: rest).toArray 1 (by simp)).toS
  have count : (x :: rest).toArray.size - 1 = rest.length := by simp
  have below : ∀ b ∈ [z.heap.objs.size, t], b < h1.objs.size := fun b m => by
    simp only [List.mem_cons, List.not_mem_nil, or_false] at m
    rcases m with rfl | rfl
    · exact at1.elim fun _ r => Heap.lt_size r.1
    · exact it1.elim fun _ r => Heap.lt_size r.1
  have done : ∀ (z' : Shared) (acc : Array Value), Moved [z.heap.objs.size] (fun a b => b = a) { z with heap := h1 } z' → ItemsOf (fun j v => (x :: rest).toArray[j + 1]? = some v) acc ((x :: rest).toArray.size - 1) → acc.toList = rest ∧ ∃ h2 tk, z' = { z with heap := h2, toks := tk } ∧ ∀ b o, z.heap.get? b = some o → h2.get? b = some o := by
    rintro ⟨h2, g2, d2, t2, o2⟩ acc ⟨m1, m2, m3, m4, _⟩ ⟨sz, each⟩
    have m2 : g2 = z.gens := m2
    have m3 : d2 = z.drawn := m3
    have m4 : o2 = z.os := m4
    refine ⟨List.ext_getElem? fun j => ?_, h2, t2, by rw [m2, m3, m4], fun b o e => m1 b o (fun m => old e (List.mem_singleton.mp m)) (keep1 b o e)⟩
    rw [Array.getElem?_toList]
    cases e : acc[j]? with
    | some v => exact (by simpa using each j v e : rest[j]? = some v).symm
    | none =>
      have := Array.getElem?_eq_none_iff.mp e
      exact (List.getElem?_eq_none (by omega)).symm
  refine wpAny_bind (wpAny_holding (wpAny_collect_iter (s := { z with heap := h1 }) (.inr (.inr (.inr rfl))) walk (fun j z' st => st.1.typeIs) ⟨at1, it1⟩ below (List.mem_cons_self ..) (fun z' acc mv got => ?_) (by rw [count]; omega)))
  obtain ⟨ea, h2, tk, rfl, keep2⟩ := done z' acc mv got
  rw [ea]
  show wpAny (model P w) A (if rest.length < 0 then _ else _) Q E _
  rw [if_neg (Nat.not_lt_zero _)]
  show wpAny (model P w) A (newList (rest.take (rest.length - 0)) >>= fun l => pure ([x] ++ [l] ++ rest.drop (rest.length - 0))) Q E _
  rw [Nat.sub_zero, List.take_length, List.drop_length]
  exact wpAny_bind (wpAny_newList (wpAny_pure (q h2 tk keep2)) (by omega))
end
section
variable {X : Cx} {pos p2 : Pos} {e1 e2 : Expr} {k : Nat} {t1 t2 : TG}
/-- x, *y = a tuple: y a new list -/
def gStar1 (K : PySem.W.Frag) (t1 t2 : TG) : TG := fun v σ H Q => ∃ a x xs, v = .ref a ∧ SqT K H a (x :: xs) ∧ ∀ l, H l = none → t1 x σ (upd H l (.lst xs)) fun σ' H' => t2 (.ref l) σ' H' Q
theorem pg_star1 (calm : X.calm = true) (g1 : PG X e1 t1) (g2 : PG X e2 t2) (both : assignEach [e1, .Starred e2 p2] X.env = [(false, assign e1 X.env), (true, assign e2 X.env)] := by rfl) : PG X (.Tuple [e1, .Starred e2 p2] k pos) (gStar1 X.K t1 t2) := by
  constructor
  rintro pn z σ H _ u Q J rel ⟨a, x, xs, rfl, tup, want⟩
  obtain rfl : u = Value.ref a := rel
  obtain ⟨_, vals, here, few⟩ := J.tuple tup
  cases vals with
  | @cons _ y _ ys r1 rs =>
    have few : xs.length + 1 ≤ sizeLine := few
    rw [PyProof.Rows.assign_Tuple, unpack, both]
    refine wpAny_bind (wpAny_standAt (wpAny_bind (wpAny_holding (items_star (J.ok.hd calm) here (by rw [← rs.length]; exact few) ?_))))
    intro h' tk keep
    have J1 : Inv X pn σ H { z with heap := h', toks := tk } := J.kept keep
    have J2 := J1.laid (t' := tk) (o := .lst xs) (h' := h'.push { cls := .type "list", data := .seq ys.toArray }) (fun _ _ e => Heap.get?_push_of_some _ e) (Nat.le_refl _) ⟨Nat.le_of_succ_le few, ys, 0, rs, Heap.get?_push_size _ rfl⟩
    have free : H h'.objs.size = none := J1.hok.fresh (Nat.le_refl _)
    refine assignInOrder_cons (thn (g1.run pn _ σ _ _ _ _ J2 r1 (want _ free)) ?_)
    rintro _ z1 ⟨σ1, G1, J3, q1⟩
    exact assignInOrder_cons (thn (g2.run pn z1 σ1 G1 (V.ref h'.objs.size) _ Q J3 rfl q1) fun _ _ got => assignInOrder_nil got)
end
end Fw
set_option maxHeartbeats 8000000
namespace Fw
open PySem PySem.Spec PyProof.Rows L2
/-! the name of the handled error's class, told by a def: 16 classes -/
theorem Er.flag {K : PySem.W.Frag} {mg : Str → Option Value} {x y q r : Str} {E C C' : Addr} (a : Er K mg x q E C) (b : Er K mg y r E C') (h : HE K mg E) (xy : q = r → x = y) : PySem.W.kitOne K (.ref C) (.ref C') = some (decide (q = r)) := by
  by_cases e : q = r
  · have ex := xy e
    subst ex
    have ec : Value.ref C = Value.ref C' := Option.some.inj (a.g.symm.trans b.g)
    cases ec
    rw [a.is, decide_eq_true e]
  · rw [a.isnt b h e, decide_eq_false e]
theorem kit_any3 {K : PySem.W.Frag} {t c : Value} {r : List Value} {b b' : Bool} (h : PySem.W.kitOne K t c = some b) (h' : PySem.W.kitAny K t r = some b') : PySem.W.kitAny K t (c :: r) = some (b || b') := by
  unfold PySem.W.kitAny
  rw [h]
  cases b
  · exact h'
  · rfl
theorem kit_nil {K : PySem.W.Frag} {t : Value} : PySem.W.kitAny K t [] = some false := rfl
theorem pe_nev {X : Cx} {e : Expr} : PE X e (fun _ _ _ => False) := ⟨fun _ _ _ _ _ _ no => no.elim⟩
/-- e.f of an error that the context holds -/
theorem pe_xfp {X : Cx} {a C : Addr} {oe : Obj} {cls : Value} {d : Option Addr} {e : Expr} {te : TE} {pos : Pos} {n : Str} (K : PySem.W.Frag) (hK : X.K = K) (T : XfC K C) (free : PySem.W.findIn K (.ref C) n = some none) (m : (a, oe) ∈ X.pn)
    (hz : Zc cls d oe) (hf : ∃ vs, oe.data = .fields vs) (he : PE X e te) (plain : attributeBase e n X.env (eval e X.env) = eval e X.env := by rfl) : PE X (.Attribute e n pos) (tXf a cls d C n te) := by
  subst hK
  constructor
  intro pn z σ H Q J want
  refine attr_of plain (thn (he.run pn z σ H _ J want) ?_)
  rintro u z1 ⟨_, H1, J1, rel, rfl, rfl, dd, fs, v, rfl, at1, look, got⟩
  obtain rfl : u = Value.ref a := rel
  have ⟨here, _⟩ := J1.pin (a, oe) (List.mem_append_left _ m)
  have ⟨vs, fields⟩ := hf
  have ⟨mA, ns, each⟩ := (show ObjOk X.prog X.w H1 z1.heap dd (.xd fs) from J1.hok dd _ at1)
  have ⟨od, there, names⟩ := lookIn_ns ns
  obtain ⟨y, is, ry⟩ := RelO.some_of (v := v) (o := mA n) (look ▸ each n)
  have no : PySem.W.notCls oe := by unfold PySem.W.notCls; rw [fields]
  have inst : PySem.W.InstAt z1.heap a oe C (some od) := ⟨here, hz.1, no, by rw [hz.2]; exact there⟩
  exact HandSPX.exc_get J1.kIn inst T.ga T.gg T.exC (PySem.W.findObj_own T.hdC free rfl ((names n).trans (congrArg some is))) (handed_of ry) ⟨v, H1, J1.tok _, ry, got⟩
/-- what the field is -/
def spLEF (D : Addr) (f : Str) : SpE := fun a c d vs H Q _ => vs = [.ref a] ∧ c = .ref D ∧ ∃ dx fs v, d = some dx ∧ H dx = some (.xd fs) ∧ fs.lookup f = some v ∧ ∀ H', Same H H' → Q v H'
def L16 : List (Str × Str) := [("UnknownPerson", "UnknownPerson.__init__"), ("InvalidRoom", "InvalidRoom.__init__"), ("NotAdjacent", "NotAdjacent.__init__"), ("EmptyRoom", "EmptyRoom.__init__"), ("InvalidName", "InvalidName.__init__"), ("DuplicateName", "DuplicateName.__init__"), ("LimitReached", "LimitReached.__init__"), ("AlreadyAdjacent", "AlreadyAdjacent.__init__"), ("WouldFormCycle", "WouldFormCycle.__init__"), ("NothingToUndo", "NothingToUndo.__init__"), ("HistoryFull", "HistoryFull.__init__"), ("SessionBusy", "SessionBusy.__init__"), ("InvalidActions", "InvalidActions.__init__"), ("BatchFailed", "BatchFailed.__init__"), ("InvalidMoment", "InvalidMoment.__init__"), ("Blocked", "Blocked.__init__")]
theorem quals_nodup : (L16.map (·.2)).Nodup := by decide +kernel
theorem same16 : ∀ a ∈ L16, ∀ b ∈ L16, a.2 = b.2 → a.1 = b.1 := fun a ha b hb e => by
  obtain ⟨i, hi, rfl⟩ := List.mem_iff_getElem.mp ha
  obtain ⟨j, hj, rfl⟩ := List.mem_iff_getElem.mp hb
  have h : (L16.map (·.2))[i]'(by rw [List.length_map]; exact hi) = (L16.map (·.2))[j]'(by rw [List.length_map]; exact hj) := by
    rw [List.getElem_map, List.getElem_map]
    exact e
  cases (List.getElem_inj quals_nodup).mp h
  rfl
structure E16 (K : PySem.W.Frag) (mg : Str → Option Value) (E : Addr) : Prop where
  UnknownPerson : ∃ C, Er K mg "UnknownPerson" "UnknownPerson.__init__" E C
  InvalidRoom : ∃ C, Er K mg "InvalidRoom" "InvalidRoom.__init__" E C
  NotAdjacent : ∃ C, Er K mg "NotAdjacent" "NotAdjacent.__init__" E C
  EmptyRoom : ∃ C, Er K mg "EmptyRoom" "EmptyRoom.__init__" E C
  InvalidName : ∃ C, Er K mg "InvalidName" "InvalidName.__init__" E C
  DuplicateName : ∃ C, Er K mg "DuplicateName" "DuplicateName.__init__" E C
  LimitReached : ∃ C, Er K mg "LimitReached" "LimitReached.__init__" E C
  AlreadyAdjacent : ∃ C, Er K mg "AlreadyAdjacent" "AlreadyAdjacent.__init__" E C
  WouldFormCycle : ∃ C, Er K mg "WouldFormCycle" "WouldFormCycle.__init__" E C
  NothingToUndo : ∃ C, Er K mg "NothingToUndo" "NothingToUndo.__init__" E C
  HistoryFull : ∃ C, Er K mg "HistoryFull" "HistoryFull.__init__" E C
  SessionBusy : ∃ C, Er K mg "SessionBusy" "SessionBusy.__init__" E C
  InvalidActions : ∃ C, Er K mg "InvalidActions" "InvalidActions.__init__" E C
  BatchFailed : ∃ C, Er K mg "BatchFailed" "BatchFailed.__init__" E C
  InvalidMoment : ∃ C, Er K mg "InvalidMoment" "InvalidMoment.__init__" E C
  Blocked : ∃ C, Er K mg "Blocked" "Blocked.__init__" E C
def words16 : Str := "UnknownPerson InvalidRoom NotAdjacent EmptyRoom InvalidName DuplicateName LimitReached AlreadyAdjacent WouldFormCycle NothingToUndo HistoryFull SessionBusy InvalidActions BatchFailed InvalidMoment Blocked"
theorem words_cps : words16 = ⟨#[85, 110, 107, 110, 111, 119, 110, 80, 101, 114, 115, 111, 110, 32, 73, 110, 118, 97, 108, 105, 100, 82, 111, 111, 109, 32, 78, 111, 116, 65, 100, 106, 97, 99, 101, 110, 116, 32, 69, 109, 112, 116, 121, 82, 111, 111, 109, 32, 73, 110, 118, 97, 108, 105, 100, 78, 97, 109, 101, 32, 68, 117, 112, 108, 105, 99, 97, 116, 101, 78, 97, 109, 101, 32, 76, 105, 109, 105, 116, 82, 101, 97, 99, 104, 101, 100, 32, 65, 108, 114, 101, 97, 100, 121, 65, 100, 106, 97, 99, 101, 110, 116, 32, 87, 111, 117, 108, 100, 70, 111, 114, 109, 67, 121, 99, 108, 101, 32, 78, 111, 116, 104, 105, 110, 103, 84, 111, 85, 110, 100, 111, 32, 72, 105, 115, 116, 111, 114, 121, 70, 117, 108, 108, 32, 83, 101, 115, 115, 105, 111, 110, 66, 117, 115, 121, 32, 73, 110, 118, 97, 108, 105, 100, 65, 99, 116, 105, 111, 110, 115, 32, 66, 97, 116, 99, 104, 70, 97, 105, 108, 101, 100, 32, 73, 110, 118, 97, 108, 105, 100, 77, 111, 109, 101, 110, 116, 32, 66, 108, 111, 99, 107, 101, 100]⟩ := by
  show Str.ofString _ = _
  rw [Str.ofString_eq_toList, show ("UnknownPerson InvalidRoom NotAdjacent EmptyRoom InvalidName DuplicateName LimitReached AlreadyAdjacent WouldFormCycle NothingToUndo HistoryFull SessionBusy InvalidActions BatchFailed InvalidMoment Blocked" : String) = String.ofList ['U', 'n', 'k', 'n', 'o', 'w', 'n', 'P', 'e', 'r', 's', 'o', 'n', ' ', 'I', 'n', 'v', 'a', 'l', 'i', 'd', 'R', 'o', 'o', 'm', ' ', 'N', 'o', 't', 'A', 'd', 'j', 'a', 'c', 'e', 'n', 't', ' ', 'E', 'm', 'p', 't', 'y', 'R', 'o', 'o', 'm', ' ', 'I', 'n', 'v', 'a', 'l', 'i', 'd', 'N', 'a', 'm', 'e', ' ', 'D', 'u', 'p', 'l', 'i', 'c', 'a', 't', 'e', 'N', 'a', 'm', 'e', ' ', 'L', 'i', 'm', 'i', 't', 'R', 'e', 'a', 'c', 'h', 'e', 'd', ' ', 'A', 'l', 'r', 'e', 'a', 'd', 'y', 'A', 'd', 'j', 'a', 'c', 'e', 'n', 't', ' ', 'W', 'o', 'u', 'l', 'd', 'F', 'o', 'r', 'm', 'C', 'y', 'c', 'l', 'e', ' ', 'N', 'o', 't', 'h', 'i', 'n', 'g', 'T', 'o', 'U', 'n', 'd', 'o', ' ', 'H', 'i', 's', 't', 'o', 'r', 'y', 'F', 'u', 'l', 'l', ' ', 'S', 'e', 's', 's', 'i', 'o', 'n', 'B', 'u', 's', 'y', ' ', 'I', 'n', 'v', 'a', 'l', 'i', 'd', 'A', 'c', 't', 'i', 'o', 'n', 's', ' ', 'B', 'a', 't', 'c', 'h', 'F', 'a', 'i', 'l', 'e', 'd', ' ', 'I', 'n', 'v', 'a', 'l', 'i', 'd', 'M', 'o', 'm', 'e', 'n', 't', ' ', 'B', 'l', 'o', 'c', 'k', 'e', 'd'] from rfl, String.toList_ofList]
  rfl
theorem words_are : Txt.split words16 " " = L16.map (·.1) := by
  have k0 : Str.ofString "UnknownPerson" = ⟨#[85, 110, 107, 110, 111, 119, 110, 80, 101, 114, 115, 111, 110]⟩ := by
    rw [Str.ofString_eq_toList, show ("UnknownPerson" : String) = String.ofList ['U', 'n', 'k', 'n', 'o', 'w', 'n', 'P', 'e', 'r', 's', 'o', 'n'] from rfl, String.toList_ofList]
    rfl
  have k1 : Str.ofString "InvalidRoom" = ⟨#[73, 110, 118, 97, 108, 105, 100, 82, 111, 111, 109]⟩ := by
    rw [Str.ofString_eq_toList, show ("InvalidRoom" : String) = String.ofList ['I', 'n', 'v', 'a', 'l', 'i', 'd', 'R', 'o', 'o', 'm'] from rfl, String.toList_ofList]
    rfl
  have k2 : Str.ofString "NotAdjacent" = ⟨#[78, 111, 116, 65, 100, 106, 97, 99, 101, 110, 116]⟩ := by
    rw [Str.ofString_eq_toList, show ("NotAdjacent" : String) = String.ofList ['N', 'o', 't', 'A', 'd', 'j', 'a', 'c', 'e', 'n', 't'] from rfl, String.toList_ofList]
    rfl
  have k3 : Str.ofString "EmptyRoom" = ⟨#[69, 109, 112, 116, 121, 82, 111, 111, 109]⟩ := by
    rw [Str.ofString_eq_toList, show ("EmptyRoom" : String) = String.ofList ['E', 'm', 'p', 't', 'y', 'R', 'o', 'o', 'm'] from rfl, String.toList_ofList]
    rfl
  have k4 : Str.ofString "InvalidName" = ⟨#[73, 110, 118, 97, 108, 105, 100, 78, 97, 109, 101]⟩ := by
    rw [Str.ofString_eq_toList, show ("InvalidName" : String) = String.ofList ['I', 'n', 'v', 'a', 'l', 'i', 'd', 'N', 'a', 'm', 'e'] from rfl, String.toList_ofList]
    rfl
  have k5 : Str.ofString "DuplicateName" = ⟨#[68, 117, 112, 108, 105, 99, 97, 116, 101, 78, 97, 109, 101]⟩ := by
    rw [Str.ofString_eq_toList, show ("DuplicateName" : String) = String.ofList ['D', 'u', 'p', 'l', 'i', 'c', 'a', 't', 'e', 'N', 'a', 'm', 'e'] from rfl, String.toList_ofList]
    rfl
  have k6 : Str.ofString "LimitReached" = ⟨#[76, 105, 109, 105, 116, 82, 101, 97, 99, 104, 101, 100]⟩ := by
    rw [Str.ofString_eq_toList, show ("LimitReached" : String) = String.ofList ['L', 'i', 'm', 'i', 't', 'R', 'e', 'a', 'c', 'h', 'e', 'd'] from rfl, String.toList_ofList]
    rfl
  have k7 : Str.ofString "AlreadyAdjacent" = ⟨#[65, 108, 114, 101, 97, 100, 121, 65, 100, 106, 97, 99, 101, 110, 116]⟩ := by
    rw [Str.ofString_eq_toList, show ("AlreadyAdjacent" : String) = String.ofList ['A', 'l', 'r', 'e', 'a', 'd', 'y', 'A', 'd', 'j', 'a', 'c', 'e', 'n', 't'] from rfl, String.toList_ofList]
    rfl
  have k8 : Str.ofString "WouldFormCycle" = ⟨#[87, 111, 117, 108, 100, 70, 111, 114, 109, 67, 121, 99, 108, 101]⟩ := by
    rw [Str.ofString_eq_toList, show ("WouldFormCycle" : String) = String.ofList ['W', 'o', 'u', 'l', 'd', 'F', 'o', 'r', 'm', 'C', 'y', 'c', 'l', 'e'] from rfl, String.toList_ofList]
    rfl
  have k9 : Str.ofString "NothingToUndo" = ⟨#[78, 111, 116, 104, 105, 110, 103, 84, 111, 85, 110, 100, 111]⟩ := by
    rw [Str.ofString_eq_toList, show ("NothingToUndo" : String) = String.ofList ['N', 'o', 't', 'h', 'i', 'n', 'g', 'T', 'o', 'U', 'n', 'd', 'o'] from rfl, String.toList_ofList]
    rfl
  have k10 : Str.ofString "HistoryFull" = ⟨#[72, 105, 115, 116, 111, 114, 121, 70, 117, 108, 108]⟩ := by
    rw [Str.ofString_eq_toList, show ("HistoryFull" : String) = String.ofList ['H', 'i', 's', 't', 'o', 'r', 'y', 'F', 'u', 'l', 'l'] from rfl, String.toList_ofList]
    rfl
  have k11 : Str.ofString "SessionBusy" = ⟨#[83, 101, 115, 115, 105, 111, 110, 66, 117, 115, 121]⟩ := by
    rw [Str.ofString_eq_toList, show ("SessionBusy" : String) = String.ofList ['S', 'e', 's', 's', 'i', 'o', 'n', 'B', 'u', 's', 'y'] from rfl, String.toList_ofList]
    rfl
  have k12 : Str.ofString "InvalidActions" = ⟨#[73, 110, 118, 97, 108, 105, 100, 65, 99, 116, 105, 111, 110, 115]⟩ := by
    rw [Str.ofString_eq_toList, show ("InvalidActions" : String) = String.ofList ['I', 'n', 'v', 'a', 'l', 'i', 'd', 'A', 'c', 't', 'i', 'o', 'n', 's'] from rfl, String.toList_ofList]
    rfl
  have k13 : Str.ofString "BatchFailed" = ⟨#[66, 97, 116, 99, 104, 70, 97, 105, 108, 101, 100]⟩ := by
    rw [Str.ofString_eq_toList, show ("BatchFailed" : String) = String.ofList ['B', 'a', 't', 'c', 'h', 'F', 'a', 'i', 'l', 'e', 'd'] from rfl, String.toList_ofList]
    rfl
  have k14 : Str.ofString "InvalidMoment" = ⟨#[73, 110, 118, 97, 108, 105, 100, 77, 111, 109, 101, 110, 116]⟩ := by
    rw [Str.ofString_eq_toList, show ("InvalidMoment" : String) = String.ofList ['I', 'n', 'v', 'a', 'l', 'i', 'd', 'M', 'o', 'm', 'e', 'n', 't'] from rfl, String.toList_ofList]
    rfl
  have k15 : Str.ofString "Blocked" = ⟨#[66, 108, 111, 99, 107, 101, 100]⟩ := by
    rw [Str.ofString_eq_toList, show ("Blocked" : String) = String.ofList ['B', 'l', 'o', 'c', 'k', 'e', 'd'] from rfl, String.toList_ofList]
    rfl
  have e : L16.map (·.1) = [⟨#[85, 110, 107, 110, 111, 119, 110, 80, 101, 114, 115, 111, 110]⟩, ⟨#[73, 110, 118, 97, 108, 105, 100, 82, 111, 111, 109]⟩, ⟨#[78, 111, 116, 65, 100, 106, 97, 99, 101, 110, 116]⟩, ⟨#[69, 109, 112, 116, 121, 82, 111, 111, 109]⟩, ⟨#[73, 110, 118, 97, 108, 105, 100, 78, 97, 109, 101]⟩, ⟨#[68, 117, 112, 108, 105, 99, 97, 116, 101, 78, 97, 109, 101]⟩, ⟨#[76, 105, 109, 105, 116, 82, 101, 97, 99, 104, 101, 100]⟩, ⟨#[65, 108, 114, 101, 97, 100, 121, 65, 100, 106, 97, 99, 101, 110, 116]⟩, ⟨#[87, 111, 117, 108, 100, 70, 111, 114, 109, 67, 121, 99, 108, 101]⟩, ⟨#[78, 111, 116, 104, 105, 110, 103, 84, 111, 85, 110, 100, 111]⟩, ⟨#[72, 105, 115, 116, 111, 114, 121, 70, 117, 108, 108]⟩, ⟨#[83, 101, 115, 115, 105, 111, 110, 66, 117, 115, 121]⟩, ⟨#[73, 110, 118, 97, 108, 105, 100, 65, 99, 116, 105, 111, 110, 115]⟩, ⟨#[66, 97, 116, 99, 104, 70, 97, 105, 108, 101, 100]⟩, ⟨#[73, 110, 118, 97, 108, 105, 100, 77, 111, 109, 101, 110, 116]⟩, ⟨#[66, 108, 111, 99, 107, 101, 100]⟩] := by
    show [Str.ofString "UnknownPerson", Str.ofString "InvalidRoom", Str.ofString "NotAdjacent", Str.ofString "EmptyRoom", Str.ofString "InvalidName", Str.ofString "DuplicateName", Str.ofString "LimitReached", Str.ofString "AlreadyAdjacent", Str.ofString "WouldFormCycle", Str.ofString "NothingToUndo", Str.ofString "HistoryFull", Str.ofString "SessionBusy", Str.ofString "InvalidActions", Str.ofString "BatchFailed", Str.ofString "InvalidMoment", Str.ofString "Blocked"] = _
    rw [k0, k1, k2, k3, k4, k5, k6, k7, k8, k9, k10, k11, k12, k13, k14, k15]
  have hj : Txt.join " " (L16.map (·.1)) = words16 := by
    refine TL.ext_tl ?_
    rw [TL.join_eq, TL.tl_join, e, words_cps, show TL.tl (" " : Str) = [32] by decide +kernel]
    rfl
  have h32 : ∀ p ∈ L16.map (·.1), 32 ∉ TL.tl p := by
    rw [e]
    decide
  have g := TL.split_join (y := " ") (s := 32) (S := []) (by decide +kernel) (by decide +kernel) (by rw [e]; simp) h32
  rw [hj] at g
  exact g
theorem words_a : ("UnknownPerson InvalidRoom NotAdjacent EmptyRoom InvalidName DuplicateName LimitReached" : Str) = ⟨#[85, 110, 107, 110, 111, 119, 110, 80, 101, 114, 115, 111, 110, 32, 73, 110, 118, 97, 108, 105, 100, 82, 111, 111, 109, 32, 78, 111, 116, 65, 100, 106, 97, 99, 101, 110, 116, 32, 69, 109, 112, 116, 121, 82, 111, 111, 109, 32, 73, 110, 118, 97, 108, 105, 100, 78, 97, 109, 101, 32, 68, 117, 112, 108, 105, 99, 97, 116, 101, 78, 97, 109, 101, 32, 76, 105, 109, 105, 116, 82, 101, 97, 99, 104, 101, 100]⟩ := by
  show Str.ofString _ = _
  rw [Str.ofString_eq_toList, show ("UnknownPerson InvalidRoom NotAdjacent EmptyRoom InvalidName DuplicateName LimitReached" : String) = String.ofList ['U', 'n', 'k', 'n', 'o', 'w', 'n', 'P', 'e', 'r', 's', 'o', 'n', ' ', 'I', 'n', 'v', 'a', 'l', 'i', 'd', 'R', 'o', 'o', 'm', ' ', 'N', 'o', 't', 'A', 'd', 'j', 'a', 'c', 'e', 'n', 't', ' ', 'E', 'm', 'p', 't', 'y', 'R', 'o', 'o', 'm', ' ', 'I', 'n', 'v', 'a', 'l', 'i', 'd', 'N', 'a', 'm', 'e', ' ', 'D', 'u', 'p', 'l', 'i', 'c', 'a', 't', 'e', 'N', 'a', 'm', 'e', ' ', 'L', 'i', 'm', 'i', 't', 'R', 'e', 'a', 'c', 'h', 'e', 'd'] from rfl, String.toList_ofList]
  rfl
theorem words_b : (" AlreadyAdjacent WouldFormCycle NothingToUndo HistoryFull SessionBusy" : Str) = ⟨#[32, 65, 108, 114, 101, 97, 100, 121, 65, 100, 106, 97, 99, 101, 110, 116, 32, 87, 111, 117, 108, 100, 70, 111, 114, 109, 67, 121, 99, 108, 101, 32, 78, 111, 116, 104, 105, 110, 103, 84, 111, 85, 110, 100, 111, 32, 72, 105, 115, 116, 111, 114, 121, 70, 117, 108, 108, 32, 83, 101, 115, 115, 105, 111, 110, 66, 117, 115, 121]⟩ := by
  show Str.ofString _ = _
  rw [Str.ofString_eq_toList, show (" AlreadyAdjacent WouldFormCycle NothingToUndo HistoryFull SessionBusy" : String) = String.ofList [' ', 'A', 'l', 'r', 'e', 'a', 'd', 'y', 'A', 'd', 'j', 'a', 'c', 'e', 'n', 't', ' ', 'W', 'o', 'u', 'l', 'd', 'F', 'o', 'r', 'm', 'C', 'y', 'c', 'l', 'e', ' ', 'N', 'o', 't', 'h', 'i', 'n', 'g', 'T', 'o', 'U', 'n', 'd', 'o', ' ', 'H', 'i', 's', 't', 'o', 'r', 'y', 'F', 'u', 'l', 'l', ' ', 'S', 'e', 's', 's', 'i', 'o', 'n', 'B', 'u', 's', 'y'] from rfl, String.toList_ofList]
  rfl
theorem words_c : (" InvalidActions BatchFailed InvalidMoment Blocked" : Str) = ⟨#[32, 73, 110, 118, 97, 108, 105, 100, 65, 99, 116, 105, 111, 110, 115, 32, 66, 97, 116, 99, 104, 70, 97, 105, 108, 101, 100, 32, 73, 110, 118, 97, 108, 105, 100, 77, 111, 109, 101, 110, 116, 32, 66, 108, 111, 99, 107, 101, 100]⟩ := by
  show Str.ofString _ = _
  rw [Str.ofString_eq_toList, show (" InvalidActions BatchFailed InvalidMoment Blocked" : String) = String.ofList [' ', 'I', 'n', 'v', 'a', 'l', 'i', 'd', 'A', 'c', 't', 'i', 'o', 'n', 's', ' ', 'B', 'a', 't', 'c', 'h', 'F', 'a', 'i', 'l', 'e', 'd', ' ', 'I', 'n', 'v', 'a', 'l', 'i', 'd', 'M', 'o', 'm', 'e', 'n', 't', ' ', 'B', 'l', 'o', 'c', 'k', 'e', 'd'] from rfl, String.toList_ofList]
  rfl
theorem words_cat : ((("UnknownPerson InvalidRoom NotAdjacent EmptyRoom InvalidName DuplicateName LimitReached" : Str) ++ " AlreadyAdjacent WouldFormCycle NothingToUndo HistoryFull SessionBusy") ++ " InvalidActions BatchFailed InvalidMoment Blocked") = words16 := by
  refine TL.ext_tl ?_
  rw [TL.tl_append, TL.tl_append, words_a, words_b, words_c, words_cps]
  rfl
theorem flags_none {q : Str} : ∀ {l : List Str}, q ∉ l → (l.map fun r => decide (q = r)).count true = 0
  | [], _ => rfl
  | r :: l, h => by
    rw [List.map_cons, decide_eq_false fun e : q = r => h (by rw [e]; exact List.mem_cons_self ..), List.count_cons_of_ne (by decide)]
    exact flags_none fun m => h (List.mem_cons_of_mem _ m)
theorem flags_one {q : Str} : ∀ {l : List Str}, l.Nodup → q ∈ l → (l.map fun r => decide (q = r)).count true = 1
  | r :: l, nd, m => by
    have ⟨n1, n2⟩ := List.nodup_cons.mp nd
    rw [List.map_cons]
    by_cases e : q = r
    · rw [decide_eq_true e, List.count_cons_self, flags_none (e ▸ n1)]
    · rw [decide_eq_false e, List.count_cons_of_ne (by decide)]
      exact flags_one n2 ((List.mem_cons.mp m).resolve_left e)
theorem flags_before {q : Str} {l : List Str} (nd : l.Nodup) {i j : Nat} (hi : l[i]? = some q) (lt : j < i) {b : Bool} (hb : (l.map fun r => decide (q = r))[j]? = some b) : b = false := by
  rw [List.getElem?_map] at hb
  cases e : l[j]? with
  | none => rw [e] at hb; cases hb
  | some r =>
    rw [e] at hb
    cases hb
    refine decide_eq_false fun z => ?_
    have hj : j < l.length := (List.getElem?_eq_some_iff.mp e).1
    have := (List.getElem?_inj hj nd).mp (e.trans (hi.trans (congrArg some z)).symm)
    omega
section
variable {P : Program} {w : World} {K : PySem.W.Frag} {mg : Str → Option Value} {base : Heap}
abbrev nLErrorName : List Str := ["_law_e", "_law_bits", "_law_words"]
theorem scLErrorName : FnScope nLErrorName ["_law_e"] (defScope sLErrorName) := ⟨rfl, rfl, rfl, by decide +kernel, rfl, by decide +kernel, by decide +kernel⟩
theorem ok_len16 {f : Addr} {fd : FuncData} {k : Nat} {E D : Addr} {xD qD : Str} (F : Fun K "_law_error_name" "_law_error_name" sLErrorName f fd) (T : Nm mg) (TValueError : mg "ValueError" = none) (hE : HE K mg E) (Es : E16 K mg E) (m : (xD, qD) ∈ L16) (RD : Er K mg xD qD E D) : FnE P w K mg base (k + 1) f fd ["_law_e"] (spLEC D xD) := by
  obtain ⟨CUnknownPerson, RUnknownPerson⟩ := Es.UnknownPerson
  obtain ⟨CInvalidRoom, RInvalidRoom⟩ := Es.InvalidRoom
  obtain ⟨CNotAdjacent, RNotAdjacent⟩ := Es.NotAdjacent
  obtain ⟨CEmptyRoom, REmptyRoom⟩ := Es.EmptyRoom
  obtain ⟨CInvalidName, RInvalidName⟩ := Es.InvalidName
  obtain ⟨CDuplicateName, RDuplicateName⟩ := Es.DuplicateName
  obtain ⟨CLimitReached, RLimitReached⟩ := Es.LimitReached
  obtain ⟨CAlreadyAdjacent, RAlreadyAdjacent⟩ := Es.AlreadyAdjacent
  obtain ⟨CWouldFormCycle, RWouldFormCycle⟩ := Es.WouldFormCycle
  obtain ⟨CNothingToUndo, RNothingToUndo⟩ := Es.NothingToUndo
  obtain ⟨CHistoryFull, RHistoryFull⟩ := Es.HistoryFull
  obtain ⟨CSessionBusy, RSessionBusy⟩ := Es.SessionBusy
  obtain ⟨CInvalidActions, RInvalidActions⟩ := Es.InvalidActions
  obtain ⟨CBatchFailed, RBatchFailed⟩ := Es.BatchFailed
  obtain ⟨CInvalidMoment, RInvalidMoment⟩ := Es.InvalidMoment
  obtain ⟨CBlocked, RBlocked⟩ := Es.Blocked
  refine Fun.okE F scLErrorName (fun a c d vs H Q h => ?_) (fun cdv A outer s H vs Q p c d hz hf hr h => ?_)
  · obtain ⟨rfl, _⟩ := h
    rfl
  · obtain ⟨rfl, rfl, hd, q⟩ := h
    obtain ⟨a, oe⟩ := p
    have hm : (a, oe) ∈ [(a, oe)] := List.mem_singleton_self _
    refine ⟨_, (pss_cons (ps_set (i := 1) scLErrorName.nd rfl (.inl rfl) (pe_lst (pa_cons (pe_callB (call_isCp K rfl hm hz hf) (by rfl) T.isinstance (by decide +kernel) (pa_cons (pv 0) (pa_cons (pe_glob (v := .ref CUnknownPerson) (by rfl) RUnknownPerson.g rfl) pa_nil))) (pa_cons (pe_callB (call_isCp K rfl hm hz hf) (by rfl) T.isinstance (by decide +kernel) (pa_cons (pv 0) (pa_cons (pe_glob (v := .ref CInvalidRoom) (by rfl) RInvalidRoom.g rfl) pa_nil))) (pa_cons (pe_callB (call_isCp K rfl hm hz hf) (by rfl) T.isinstance (by decide +kernel) (pa_cons (pv 0) (pa_cons (pe_glob (v := .ref CNotAdjacent) (by rfl) RNotAdjacent.g rfl) pa_nil))) (pa_cons (pe_callB (call_isCp K rfl hm hz hf) (by rfl) T.isinstance (by decide +kernel) (pa_cons (pv 0) (pa_cons (pe_glob (v := .ref CEmptyRoom) (by rfl) REmptyRoom.g rfl) pa_nil))) pa_nil))))))
      (pss_cons (ps_set (i := 1) scLErrorName.nd rfl (.inl rfl) (pe_op op_cat (pv 1) (pe_lst (pa_cons (pe_callB (call_isCp K rfl hm hz hf) (by rfl) T.isinstance (by decide +kernel) (pa_cons (pv 0) (pa_cons (pe_glob (v := .ref CInvalidName) (by rfl) RInvalidName.g rfl) pa_nil))) (pa_cons (pe_callB (call_isCp K rfl hm hz hf) (by rfl) T.isinstance (by decide +kernel) (pa_cons (pv 0) (pa_cons (pe_glob (v := .ref CDuplicateName) (by rfl) RDuplicateName.g rfl) pa_nil))) (pa_cons (pe_callB (call_isCp K rfl hm hz hf) (by rfl) T.isinstance (by decide +kernel) (pa_cons (pv 0) (pa_cons (pe_glob (v := .ref CLimitReached) (by rfl) RLimitReached.g rfl) pa_nil))) (pa_cons (pe_callB (call_isCp K rfl hm hz hf) (by rfl) T.isinstance (by decide +kernel) (pa_cons (pv 0) (pa_cons (pe_glob (v := .ref CAlreadyAdjacent) (by rfl) RAlreadyAdjacent.g rfl) pa_nil))) pa_nil)))))))
      (pss_cons (ps_set (i := 1) scLErrorName.nd rfl (.inl rfl) (pe_op op_cat (pv 1) (pe_lst (pa_cons (pe_callB (call_isCp K rfl hm hz hf) (by rfl) T.isinstance (by decide +kernel) (pa_cons (pv 0) (pa_cons (pe_glob (v := .ref CWouldFormCycle) (by rfl) RWouldFormCycle.g rfl) pa_nil))) (pa_cons (pe_callB (call_isCp K rfl hm hz hf) (by rfl) T.isinstance (by decide +kernel) (pa_cons (pv 0) (pa_cons (pe_glob (v := .ref CNothingToUndo) (by rfl) RNothingToUndo.g rfl) pa_nil))) (pa_cons (pe_callB (call_isCp K rfl hm hz hf) (by rfl) T.isinstance (by decide +kernel) (pa_cons (pv 0) (pa_cons (pe_glob (v := .ref CHistoryFull) (by rfl) RHistoryFull.g rfl) pa_nil))) (pa_cons (pe_callB (call_isCp K rfl hm hz hf) (by rfl) T.isinstance (by decide +kernel) (pa_cons (pv 0) (pa_cons (pe_glob (v := .ref CSessionBusy) (by rfl) RSessionBusy.g rfl) pa_nil))) pa_nil)))))))
      (pss_cons (ps_set (i := 1) scLErrorName.nd rfl (.inl rfl) (pe_op op_cat (pv 1) (pe_lst (pa_cons (pe_callB (call_isCp K rfl hm hz hf) (by rfl) T.isinstance (by decide +kernel) (pa_cons (pv 0) (pa_cons (pe_glob (v := .ref CInvalidActions) (by rfl) RInvalidActions.g rfl) pa_nil))) (pa_cons (pe_callB (call_isCp K rfl hm hz hf) (by rfl) T.isinstance (by decide +kernel) (pa_cons (pv 0) (pa_cons (pe_glob (v := .ref CBatchFailed) (by rfl) RBatchFailed.g rfl) pa_nil))) (pa_cons (pe_callB (call_isCp K rfl hm hz hf) (by rfl) T.isinstance (by decide +kernel) (pa_cons (pv 0) (pa_cons (pe_glob (v := .ref CInvalidMoment) (by rfl) RInvalidMoment.g rfl) pa_nil))) (pa_cons (pe_callB (call_isCp K rfl hm hz hf) (by rfl) T.isinstance (by decide +kernel) (pa_cons (pv 0) (pa_cons (pe_glob (v := .ref CBlocked) (by rfl) RBlocked.g rfl) pa_nil))) pa_nil)))))))
      (pss_cons (ps_set (i := 2) scLErrorName.nd rfl (.inl rfl) pe_str)
      (pss_cons (ps_set (i := 2) scLErrorName.nd rfl (.inl rfl) (pe_op op_add_str (pv 2) pe_str))
      (pss_cons (ps_set (i := 2) scLErrorName.nd rfl (.inl rfl) (pe_split (pe_op op_add_str (pv 2) pe_str) pe_str))
      (pss_cons (ps_if (PW.pt (pw_or (pt_cmpR op_ne (tellK (K := K) rfl <| pe_bm PySem.F.plainAttrs_list PySem.F.slot_list_count PySem.F.type_list_count (mt_countK K rfl) (pv 1) (pa_cons pe_bl pa_nil)) pe_int (nomark _)) (pw_or1 (pt_not (pt_val (pe_callB (call_isCp K rfl hm hz hf) (by rfl) T.isinstance (by decide +kernel) (pa_cons (pv 0) (pa_cons (pe_bltn (v := .ty "ValueError") (by rfl) TValueError (by decide +kernel) rfl) pa_nil))))))))
      (pss_one (ps_ret pe_str))
      pss_nil)
      (pss_one (ps_ret (pe_ix (ix_listK K rfl) (pv 2) (tellK (K := K) rfl <| pe_bm PySem.F.plainAttrs_list PySem.F.slot_list_index PySem.F.type_list_index (mt_indexK K rfl) (pv 1) (pa_cons pe_bl pa_nil)) (fun _ _ => rfl)))))))))))), ?_⟩
    have hx : ∀ {H' : Hp}, Same H H' → HeldX K (.ref D) d D H' := fun {H'} s' => ⟨rfl, RD.e, fun dx e => by
      obtain ⟨fs, e2⟩ := hd dx e
      exact ⟨fs, s' _ _ e2⟩⟩
    have kUnknownPerson : PySem.W.kitOne K (.ref D) (.ref CUnknownPerson) = some (decide (qD = "UnknownPerson.__init__")) := RD.flag RUnknownPerson hE (same16 (xD, qD) m ("UnknownPerson", "UnknownPerson.__init__") (by simp [L16]))
    have kInvalidRoom : PySem.W.kitOne K (.ref D) (.ref CInvalidRoom) = some (decide (qD = "InvalidRoom.__init__")) := RD.flag RInvalidRoom hE (same16 (xD, qD) m ("InvalidRoom", "InvalidRoom.__init__") (by simp [L16]))
    have kNotAdjacent : PySem.W.kitOne K (.ref D) (.ref CNotAdjacent) = some (decide (qD = "NotAdjacent.__init__")) := RD.flag RNotAdjacent hE (same16 (xD, qD) m ("NotAdjacent", "NotAdjacent.__init__") (by simp [L16]))
    have kEmptyRoom : PySem.W.kitOne K (.ref D) (.ref CEmptyRoom) = some (decide (qD = "EmptyRoom.__init__")) := RD.flag REmptyRoom hE (same16 (xD, qD) m ("EmptyRoom", "EmptyRoom.__init__") (by simp [L16]))
    have kInvalidName : PySem.W.kitOne K (.ref D) (.ref CInvalidName) = some (decide (qD = "InvalidName.__init__")) := RD.flag RInvalidName hE (same16 (xD, qD) m ("InvalidName", "InvalidName.__init__") (by simp [L16]))
    have kDuplicateName : PySem.W.kitOne K (.ref D) (.ref CDuplicateName) = some (decide (qD = "DuplicateName.__init__")) := RD.flag RDuplicateName hE (same16 (xD, qD) m ("DuplicateName", "DuplicateName.__init__") (by simp [L16]))
    have kLimitReached : PySem.W.kitOne K (.ref D) (.ref CLimitReached) = some (decide (qD = "LimitReached.__init__")) := RD.flag RLimitReached hE (same16 (xD, qD) m ("LimitReached", "LimitReached.__init__") (by simp [L16]))
    have kAlreadyAdjacent : PySem.W.kitOne K (.ref D) (.ref CAlreadyAdjacent) = some (decide (qD = "AlreadyAdjacent.__init__")) := RD.flag RAlreadyAdjacent hE (same16 (xD, qD) m ("AlreadyAdjacent", "AlreadyAdjacent.__init__") (by simp [L16]))
    have kWouldFormCycle : PySem.W.kitOne K (.ref D) (.ref CWouldFormCycle) = some (decide (qD = "WouldFormCycle.__init__")) := RD.flag RWouldFormCycle hE (same16 (xD, qD) m ("WouldFormCycle", "WouldFormCycle.__init__") (by simp [L16]))
    have kNothingToUndo : PySem.W.kitOne K (.ref D) (.ref CNothingToUndo) = some (decide (qD = "NothingToUndo.__init__")) := RD.flag RNothingToUndo hE (same16 (xD, qD) m ("NothingToUndo", "NothingToUndo.__init__") (by simp [L16]))
    have kHistoryFull : PySem.W.kitOne K (.ref D) (.ref CHistoryFull) = some (decide (qD = "HistoryFull.__init__")) := RD.flag RHistoryFull hE (same16 (xD, qD) m ("HistoryFull", "HistoryFull.__init__") (by simp [L16]))
    have kSessionBusy : PySem.W.kitOne K (.ref D) (.ref CSessionBusy) = some (decide (qD = "SessionBusy.__init__")) := RD.flag RSessionBusy hE (same16 (xD, qD) m ("SessionBusy", "SessionBusy.__init__") (by simp [L16]))
    have kInvalidActions : PySem.W.kitOne K (.ref D) (.ref CInvalidActions) = some (decide (qD = "InvalidActions.__init__")) := RD.flag RInvalidActions hE (same16 (xD, qD) m ("InvalidActions", "InvalidActions.__init__") (by simp [L16]))
    have kBatchFailed : PySem.W.kitOne K (.ref D) (.ref CBatchFailed) = some (decide (qD = "BatchFailed.__init__")) := RD.flag RBatchFailed hE (same16 (xD, qD) m ("BatchFailed", "BatchFailed.__init__") (by simp [L16]))
    have kInvalidMoment : PySem.W.kitOne K (.ref D) (.ref CInvalidMoment) = some (decide (qD = "InvalidMoment.__init__")) := RD.flag RInvalidMoment hE (same16 (xD, qD) m ("InvalidMoment", "InvalidMoment.__init__") (by simp [L16]))
    have kBlocked : PySem.W.kitOne K (.ref D) (.ref CBlocked) = some (decide (qD = "Blocked.__init__")) := RD.flag RBlocked hE (same16 (xD, qD) m ("Blocked", "Blocked.__init__") (by simp [L16]))
    refine ⟨_, rfl, D, _, _, decide (qD = "UnknownPerson.__init__"), rfl, hx (Same.refl _), .own _, kUnknownPerson, _, rfl, D, _, _, decide (qD = "InvalidRoom.__init__"), rfl, hx (Same.refl _), .own _, kInvalidRoom, _, rfl, D, _, _, decide (qD = "NotAdjacent.__init__"), rfl, hx (Same.refl _), .own _, kNotAdjacent, _, rfl, D, _, _, decide (qD = "EmptyRoom.__init__"), rfl, hx (Same.refl _), .own _, kEmptyRoom, by show 4 ≤ sizeLine; decide, fun l0 h0 => ?_⟩
    have u0 := same_upd (o := .lst [V.bl (decide (qD = "UnknownPerson.__init__")), V.bl (decide (qD = "InvalidRoom.__init__")), V.bl (decide (qD = "NotAdjacent.__init__")), V.bl (decide (qD = "EmptyRoom.__init__"))]) h0
    have e0 : (upd H l0 (.lst [V.bl (decide (qD = "UnknownPerson.__init__")), V.bl (decide (qD = "InvalidRoom.__init__")), V.bl (decide (qD = "NotAdjacent.__init__")), V.bl (decide (qD = "EmptyRoom.__init__"))])) l0 = some (.lst [V.bl (decide (qD = "UnknownPerson.__init__")), V.bl (decide (qD = "InvalidRoom.__init__")), V.bl (decide (qD = "NotAdjacent.__init__")), V.bl (decide (qD = "EmptyRoom.__init__"))]) := upd_same
    generalize upd H l0 (.lst [V.bl (decide (qD = "UnknownPerson.__init__")), V.bl (decide (qD = "InvalidRoom.__init__")), V.bl (decide (qD = "NotAdjacent.__init__")), V.bl (decide (qD = "EmptyRoom.__init__"))]) = J0 at *
    refine ⟨_, rfl, _, rfl, D, _, _, decide (qD = "InvalidName.__init__"), rfl, hx u0, .own _, kInvalidName, _, rfl, D, _, _, decide (qD = "DuplicateName.__init__"), rfl, hx u0, .own _, kDuplicateName, _, rfl, D, _, _, decide (qD = "LimitReached.__init__"), rfl, hx u0, .own _, kLimitReached, _, rfl, D, _, _, decide (qD = "AlreadyAdjacent.__init__"), rfl, hx u0, .own _, kAlreadyAdjacent, by show 4 ≤ sizeLine; decide, fun l h => ?_⟩
    have v := same_upd (o := .lst [V.bl (decide (qD = "InvalidName.__init__")), V.bl (decide (qD = "DuplicateName.__init__")), V.bl (decide (qD = "LimitReached.__init__")), V.bl (decide (qD = "AlreadyAdjacent.__init__"))]) h
    have e : (upd J0 l (.lst [V.bl (decide (qD = "InvalidName.__init__")), V.bl (decide (qD = "DuplicateName.__init__")), V.bl (decide (qD = "LimitReached.__init__")), V.bl (decide (qD = "AlreadyAdjacent.__init__"))])) l = some (.lst [V.bl (decide (qD = "InvalidName.__init__")), V.bl (decide (qD = "DuplicateName.__init__")), V.bl (decide (qD = "LimitReached.__init__")), V.bl (decide (qD = "AlreadyAdjacent.__init__"))]) := upd_same
    have w' := u0.trans v
    have e' := v _ _ e0
    generalize upd J0 l (.lst [V.bl (decide (qD = "InvalidName.__init__")), V.bl (decide (qD = "DuplicateName.__init__")), V.bl (decide (qD = "LimitReached.__init__")), V.bl (decide (qD = "AlreadyAdjacent.__init__"))]) = I0 at *
    refine ⟨l0, l, _, _, rfl, rfl, e', e, le_szE (by simp), fun l1 h1 => ?_⟩
    have u1 := w'.trans (same_upd (o := .lst ([V.bl (decide (qD = "UnknownPerson.__init__")), V.bl (decide (qD = "InvalidRoom.__init__")), V.bl (decide (qD = "NotAdjacent.__init__")), V.bl (decide (qD = "EmptyRoom.__init__"))] ++ [V.bl (decide (qD = "InvalidName.__init__")), V.bl (decide (qD = "DuplicateName.__init__")), V.bl (decide (qD = "LimitReached.__init__")), V.bl (decide (qD = "AlreadyAdjacent.__init__"))])) h1)
    have e1 : (upd I0 l1 (.lst ([V.bl (decide (qD = "UnknownPerson.__init__")), V.bl (decide (qD = "InvalidRoom.__init__")), V.bl (decide (qD = "NotAdjacent.__init__")), V.bl (decide (qD = "EmptyRoom.__init__"))] ++ [V.bl (decide (qD = "InvalidName.__init__")), V.bl (decide (qD = "DuplicateName.__init__")), V.bl (decide (qD = "LimitReached.__init__")), V.bl (decide (qD = "AlreadyAdjacent.__init__"))]))) l1 = some (.lst [V.bl (decide (qD = "UnknownPerson.__init__")), V.bl (decide (qD = "InvalidRoom.__init__")), V.bl (decide (qD = "NotAdjacent.__init__")), V.bl (decide (qD = "EmptyRoom.__init__")), V.bl (decide (qD = "InvalidName.__init__")), V.bl (decide (qD = "DuplicateName.__init__")), V.bl (decide (qD = "LimitReached.__init__")), V.bl (decide (qD = "AlreadyAdjacent.__init__"))]) := upd_same
    generalize upd I0 l1 (.lst ([V.bl (decide (qD = "UnknownPerson.__init__")), V.bl (decide (qD = "InvalidRoom.__init__")), V.bl (decide (qD = "NotAdjacent.__init__")), V.bl (decide (qD = "EmptyRoom.__init__"))] ++ [V.bl (decide (qD = "InvalidName.__init__")), V.bl (decide (qD = "DuplicateName.__init__")), V.bl (decide (qD = "LimitReached.__init__")), V.bl (decide (qD = "AlreadyAdjacent.__init__"))])) = J1 at *
    clear u0 e0 e' w' v e
    refine ⟨_, rfl, _, rfl, D, _, _, decide (qD = "WouldFormCycle.__init__"), rfl, hx u1, .own _, kWouldFormCycle, _, rfl, D, _, _, decide (qD = "NothingToUndo.__init__"), rfl, hx u1, .own _, kNothingToUndo, _, rfl, D, _, _, decide (qD = "HistoryFull.__init__"), rfl, hx u1, .own _, kHistoryFull, _, rfl, D, _, _, decide (qD = "SessionBusy.__init__"), rfl, hx u1, .own _, kSessionBusy, by show 4 ≤ sizeLine; decide, fun l h => ?_⟩
    have v := same_upd (o := .lst [V.bl (decide (qD = "WouldFormCycle.__init__")), V.bl (decide (qD = "NothingToUndo.__init__")), V.bl (decide (qD = "HistoryFull.__init__")), V.bl (decide (qD = "SessionBusy.__init__"))]) h
    have e : (upd J1 l (.lst [V.bl (decide (qD = "WouldFormCycle.__init__")), V.bl (decide (qD = "NothingToUndo.__init__")), V.bl (decide (qD = "HistoryFull.__init__")), V.bl (decide (qD = "SessionBusy.__init__"))])) l = some (.lst [V.bl (decide (qD = "WouldFormCycle.__init__")), V.bl (decide (qD = "NothingToUndo.__init__")), V.bl (decide (qD = "HistoryFull.__init__")), V.bl (decide (qD = "SessionBusy.__init__"))]) := upd_same
    have w' := u1.trans v
    have e' := v _ _ e1
    generalize upd J1 l (.lst [V.bl (decide (qD = "WouldFormCycle.__init__")), V.bl (decide (qD = "NothingToUndo.__init__")), V.bl (decide (qD = "HistoryFull.__init__")), V.bl (decide (qD = "SessionBusy.__init__"))]) = I1 at *
    refine ⟨l1, l, _, _, rfl, rfl, e', e, le_szE (by simp), fun l2 h2 => ?_⟩
    have u2 := w'.trans (same_upd (o := .lst ([V.bl (decide (qD = "UnknownPerson.__init__")), V.bl (decide (qD = "InvalidRoom.__init__")), V.bl (decide (qD = "NotAdjacent.__init__")), V.bl (decide (qD = "EmptyRoom.__init__")), V.bl (decide (qD = "InvalidName.__init__")), V.bl (decide (qD = "DuplicateName.__init__")), V.bl (decide (qD = "LimitReached.__init__")), V.bl (decide (qD = "AlreadyAdjacent.__init__"))] ++ [V.bl (decide (qD = "WouldFormCycle.__init__")), V.bl (decide (qD = "NothingToUndo.__init__")), V.bl (decide (qD = "HistoryFull.__init__")), V.bl (decide (qD = "SessionBusy.__init__"))])) h2)
    have e2 : (upd I1 l2 (.lst ([V.bl (decide (qD = "UnknownPerson.__init__")), V.bl (decide (qD = "InvalidRoom.__init__")), V.bl (decide (qD = "NotAdjacent.__init__")), V.bl (decide (qD = "EmptyRoom.__init__")), V.bl (decide (qD = "InvalidName.__init__")), V.bl (decide (qD = "DuplicateName.__init__")), V.bl (decide (qD = "LimitReached.__init__")), V.bl (decide (qD = "AlreadyAdjacent.__init__"))] ++ [V.bl (decide (qD = "WouldFormCycle.__init__")), V.bl (decide (qD = "NothingToUndo.__init__")), V.bl (decide (qD = "HistoryFull.__init__")), V.bl (decide (qD = "SessionBusy.__init__"))]))) l2 = some (.lst [V.bl (decide (qD = "UnknownPerson.__init__")), V.bl (decide (qD = "InvalidRoom.__init__")), V.bl (decide (qD = "NotAdjacent.__init__")), V.bl (decide (qD = "EmptyRoom.__init__")), V.bl (decide (qD = "InvalidName.__init__")), V.bl (decide (qD = "DuplicateName.__init__")), V.bl (decide (qD = "LimitReached.__init__")), V.bl (decide (qD = "AlreadyAdjacent.__init__")), V.bl (decide (qD = "WouldFormCycle.__init__")), V.bl (decide (qD = "NothingToUndo.__init__")), V.bl (decide (qD = "HistoryFull.__init__")), V.bl (decide (qD = "SessionBusy.__init__"))]) := upd_same
    generalize upd I1 l2 (.lst ([V.bl (decide (qD = "UnknownPerson.__init__")), V.bl (decide (qD = "InvalidRoom.__init__")), V.bl (decide (qD = "NotAdjacent.__init__")), V.bl (decide (qD = "EmptyRoom.__init__")), V.bl (decide (qD = "InvalidName.__init__")), V.bl (decide (qD = "DuplicateName.__init__")), V.bl (decide (qD = "LimitReached.__init__")), V.bl (decide (qD = "AlreadyAdjacent.__init__"))] ++ [V.bl (decide (qD = "WouldFormCycle.__init__")), V.bl (decide (qD = "NothingToUndo.__init__")), V.bl (decide (qD = "HistoryFull.__init__")), V.bl (decide (qD = "SessionBusy.__init__"))])) = J2 at *
    clear u1 e1 e' w' v e
    refine ⟨_, rfl, _, rfl, D, _, _, decide (qD = "InvalidActions.__init__"), rfl, hx u2, .own _, kInvalidActions, _, rfl, D, _, _, decide (qD = "BatchFailed.__init__"), rfl, hx u2, .own _, kBatchFailed, _, rfl, D, _, _, decide (qD = "InvalidMoment.__init__"), rfl, hx u2, .own _, kInvalidMoment, _, rfl, D, _, _, decide (qD = "Blocked.__init__"), rfl, hx u2, .own _, kBlocked, by show 4 ≤ sizeLine; decide, fun l h => ?_⟩
    have v := same_upd (o := .lst [V.bl (decide (qD = "InvalidActions.__init__")), V.bl (decide (qD = "BatchFailed.__init__")), V.bl (decide (qD = "InvalidMoment.__init__")), V.bl (decide (qD = "Blocked.__init__"))]) h
    have e : (upd J2 l (.lst [V.bl (decide (qD = "InvalidActions.__init__")), V.bl (decide (qD = "BatchFailed.__init__")), V.bl (decide (qD = "InvalidMoment.__init__")), V.bl (decide (qD = "Blocked.__init__"))])) l = some (.lst [V.bl (decide (qD = "InvalidActions.__init__")), V.bl (decide (qD = "BatchFailed.__init__")), V.bl (decide (qD = "InvalidMoment.__init__")), V.bl (decide (qD = "Blocked.__init__"))]) := upd_same
    have w' := u2.trans v
    have e' := v _ _ e2
    generalize upd J2 l (.lst [V.bl (decide (qD = "InvalidActions.__init__")), V.bl (decide (qD = "BatchFailed.__init__")), V.bl (decide (qD = "InvalidMoment.__init__")), V.bl (decide (qD = "Blocked.__init__"))]) = I2 at *
    refine ⟨l2, l, _, _, rfl, rfl, e', e, le_szE (by simp), fun l3 h3 => ?_⟩
    have u3 := w'.trans (same_upd (o := .lst ([V.bl (decide (qD = "UnknownPerson.__init__")), V.bl (decide (qD = "InvalidRoom.__init__")), V.bl (decide (qD = "NotAdjacent.__init__")), V.bl (decide (qD = "EmptyRoom.__init__")), V.bl (decide (qD = "InvalidName.__init__")), V.bl (decide (qD = "DuplicateName.__init__")), V.bl (decide (qD = "LimitReached.__init__")), V.bl (decide (qD = "AlreadyAdjacent.__init__")), V.bl (decide (qD = "WouldFormCycle.__init__")), V.bl (decide (qD = "NothingToUndo.__init__")), V.bl (decide (qD = "HistoryFull.__init__")), V.bl (decide (qD = "SessionBusy.__init__"))] ++ [V.bl (decide (qD = "InvalidActions.__init__")), V.bl (decide (qD = "BatchFailed.__init__")), V.bl (decide (qD = "InvalidMoment.__init__")), V.bl (decide (qD = "Blocked.__init__"))])) h3)
    have e3 : (upd I2 l3 (.lst ([V.bl (decide (qD = "UnknownPerson.__init__")), V.bl (decide (qD = "InvalidRoom.__init__")), V.bl (decide (qD = "NotAdjacent.__init__")), V.bl (decide (qD = "EmptyRoom.__init__")), V.bl (decide (qD = "InvalidName.__init__")), V.bl (decide (qD = "DuplicateName.__init__")), V.bl (decide (qD = "LimitReached.__init__")), V.bl (decide (qD = "AlreadyAdjacent.__init__")), V.bl (decide (qD = "WouldFormCycle.__init__")), V.bl (decide (qD = "NothingToUndo.__init__")), V.bl (decide (qD = "HistoryFull.__init__")), V.bl (decide (qD = "SessionBusy.__init__"))] ++ [V.bl (decide (qD = "InvalidActions.__init__")), V.bl (decide (qD = "BatchFailed.__init__")), V.bl (decide (qD = "InvalidMoment.__init__")), V.bl (decide (qD = "Blocked.__init__"))]))) l3 = some (.lst [V.bl (decide (qD = "UnknownPerson.__init__")), V.bl (decide (qD = "InvalidRoom.__init__")), V.bl (decide (qD = "NotAdjacent.__init__")), V.bl (decide (qD = "EmptyRoom.__init__")), V.bl (decide (qD = "InvalidName.__init__")), V.bl (decide (qD = "DuplicateName.__init__")), V.bl (decide (qD = "LimitReached.__init__")), V.bl (decide (qD = "AlreadyAdjacent.__init__")), V.bl (decide (qD = "WouldFormCycle.__init__")), V.bl (decide (qD = "NothingToUndo.__init__")), V.bl (decide (qD = "HistoryFull.__init__")), V.bl (decide (qD = "SessionBusy.__init__")), V.bl (decide (qD = "InvalidActions.__init__")), V.bl (decide (qD = "BatchFailed.__init__")), V.bl (decide (qD = "InvalidMoment.__init__")), V.bl (decide (qD = "Blocked.__init__"))]) := upd_same
    generalize upd I2 l3 (.lst ([V.bl (decide (qD = "UnknownPerson.__init__")), V.bl (decide (qD = "InvalidRoom.__init__")), V.bl (decide (qD = "NotAdjacent.__init__")), V.bl (decide (qD = "EmptyRoom.__init__")), V.bl (decide (qD = "InvalidName.__init__")), V.bl (decide (qD = "DuplicateName.__init__")), V.bl (decide (qD = "LimitReached.__init__")), V.bl (decide (qD = "AlreadyAdjacent.__init__")), V.bl (decide (qD = "WouldFormCycle.__init__")), V.bl (decide (qD = "NothingToUndo.__init__")), V.bl (decide (qD = "HistoryFull.__init__")), V.bl (decide (qD = "SessionBusy.__init__"))] ++ [V.bl (decide (qD = "InvalidActions.__init__")), V.bl (decide (qD = "BatchFailed.__init__")), V.bl (decide (qD = "InvalidMoment.__init__")), V.bl (decide (qD = "Blocked.__init__"))])) = J3 at *
    clear u2 e2 e' w' v e
    have e4 : J3 l3 = some (.lst (((L16.map (·.2)).map fun r => decide (qD = r)).map V.bl)) := e3
    obtain ⟨i, hi⟩ := List.getElem?_of_mem m
    have hq : (L16.map (·.2))[i]? = some qD := by rw [List.getElem?_map, hi]; rfl
    have hn : (L16.map (·.1))[i]? = some xD := by rw [List.getElem?_map, hi]; rfl
    have c1 := flags_one quals_nodup (List.mem_of_getElem? hq)
    have b1 : ((L16.map (·.2)).map fun r => decide (qD = r))[i]? = some true := by rw [List.getElem?_map, hq, Option.map_some, decide_eq_true rfl]
    have b0 : ∀ j b, j < i → ((L16.map (·.2)).map fun r => decide (qD = r))[j]? = some b → b = false := fun j b lt hb => flags_before quals_nodup hq lt hb
    clear e3 hq kUnknownPerson kInvalidRoom kNotAdjacent kEmptyRoom kInvalidName kDuplicateName kLimitReached kAlreadyAdjacent kWouldFormCycle kNothingToUndo kHistoryFull kSessionBusy kInvalidActions kBatchFailed kInvalidMoment kBlocked
    generalize ((L16.map (·.2)).map fun r => decide (qD = r)) = bs at *
    refine ⟨_, rfl, _, _, rfl, rfl, by rw [words_a, words_b]; decide +kernel, ?_⟩
    refine ⟨_, rfl, _, _, rfl, rfl, by rw [words_a, words_b, words_c]; decide +kernel, ⟨_, rfl⟩, _, _, rfl, rfl, by decide +kernel, by rw [words_cat, words_cps]; decide +kernel, fun wl nw => ?_⟩
    rw [words_cat, words_are]
    have v1 := same_upd (o := .lst ((L16.map (·.1)).map V.str)) nw
    have ew : (upd J3 wl (.lst ((L16.map (·.1)).map V.str))) wl = some (.lst ((L16.map (·.1)).map V.str)) := upd_same
    have e5 := v1 _ _ e4
    have u5 := u3.trans v1
    generalize upd J3 wl (.lst ((L16.map (·.1)).map V.str)) = J4 at *
    have cc : V.int ((bs.count true : Nat) : Int) = V.int 1 := by rw [c1]; rfl
    refine ⟨_, rfl, .inl ⟨rfl, _, SqL.of e5⟩, l3, bs, rfl, rfl, SqL.of e5, rfl, _, rfl, iteNS cc ?_⟩
    refine ⟨_, rfl, D, _, _, true, rfl, hx u5, .ty _, kitVE RD.mro, _, rfl, iteF ?_⟩
    refine ⟨_, rfl, _, rfl, .inl ⟨rfl, _, SqL.of e5⟩, l3, _, _, i, .bl true, rfl, rfl, SqL.of e5, rfl, ?_, ?_, rfl, ?_, wl, _, _, _, rfl, rfl, SqL.of ew, atI_nat (j := i) ?_, q _ u5⟩
    · rw [List.all_eq_true]
      intro y hy
      obtain ⟨b, _, rfl⟩ := List.mem_map.mp hy
      rfl
    · rw [List.getElem?_map, b1]
      rfl
    · intro j z' lt hz'
      rw [List.getElem?_map] at hz'
      cases eb : bs[j]? with
      | none => rw [eb] at hz'; cases hz'
      | some b =>
        rw [eb] at hz'
        cases hz'
        rw [b0 j b lt eb]
        rfl
    · rw [List.getElem?_map, hn]
      rfl
abbrev nLErrorField : List Str := ["_law_e"]
theorem scLErrorField : FnScope nLErrorField ["_law_e"] (defScope sLErrorField) := ⟨rfl, rfl, rfl, by decide +kernel, rfl, by decide +kernel, by decide +kernel⟩
theorem ok_lef_name {f : Addr} {fd : FuncData} {k : Nat} {E D : Addr} {xD qD : Str} (F : Fun K "_law_error_field" "_law_error_field" sLErrorField f fd) (T : Nm mg) (hE : HE K mg E) (Es : E16 K mg E) (m : (xD, qD) ∈ ([("UnknownPerson", "UnknownPerson.__init__"), ("InvalidName", "InvalidName.__init__"), ("DuplicateName", "DuplicateName.__init__")] : List (Str × Str))) (RD : Er1 P w K mg base xD qD "name" E D) : FnE P w K mg base (k + 1) f fd ["_law_e"] (spLEF D "name") := by
  obtain ⟨CUnknownPerson, RUnknownPerson⟩ := Es.UnknownPerson
  obtain ⟨CInvalidName, RInvalidName⟩ := Es.InvalidName
  obtain ⟨CDuplicateName, RDuplicateName⟩ := Es.DuplicateName
  obtain ⟨CLimitReached, RLimitReached⟩ := Es.LimitReached
  obtain ⟨CInvalidRoom, RInvalidRoom⟩ := Es.InvalidRoom
  obtain ⟨CNotAdjacent, RNotAdjacent⟩ := Es.NotAdjacent
  obtain ⟨CEmptyRoom, REmptyRoom⟩ := Es.EmptyRoom
  obtain ⟨CAlreadyAdjacent, RAlreadyAdjacent⟩ := Es.AlreadyAdjacent
  obtain ⟨CWouldFormCycle, RWouldFormCycle⟩ := Es.WouldFormCycle
  have mm : (xD, qD) ∈ L16 := by
    simp only [List.mem_cons, List.not_mem_nil, or_false, Prod.mk.injEq] at m
    rcases m with ⟨rfl, rfl⟩ | ⟨rfl, rfl⟩ | ⟨rfl, rfl⟩ <;> simp [L16]
  have kUnknownPerson : PySem.W.kitOne K (.ref D) (.ref CUnknownPerson) = some (decide (qD = "UnknownPerson.__init__")) := RD.er.flag RUnknownPerson hE (same16 (xD, qD) mm ("UnknownPerson", "UnknownPerson.__init__") (by simp [L16]))
  have kInvalidName : PySem.W.kitOne K (.ref D) (.ref CInvalidName) = some (decide (qD = "InvalidName.__init__")) := RD.er.flag RInvalidName hE (same16 (xD, qD) mm ("InvalidName", "InvalidName.__init__") (by simp [L16]))
  have kDuplicateName : PySem.W.kitOne K (.ref D) (.ref CDuplicateName) = some (decide (qD = "DuplicateName.__init__")) := RD.er.flag RDuplicateName hE (same16 (xD, qD) mm ("DuplicateName", "DuplicateName.__init__") (by simp [L16]))
  have kLimitReached : PySem.W.kitOne K (.ref D) (.ref CLimitReached) = some (decide (qD = "LimitReached.__init__")) := RD.er.flag RLimitReached hE (same16 (xD, qD) mm ("LimitReached", "LimitReached.__init__") (by simp [L16]))
  have kInvalidRoom : PySem.W.kitOne K (.ref D) (.ref CInvalidRoom) = some (decide (qD = "InvalidRoom.__init__")) := RD.er.flag RInvalidRoom hE (same16 (xD, qD) mm ("InvalidRoom", "InvalidRoom.__init__") (by simp [L16]))
  have kNotAdjacent : PySem.W.kitOne K (.ref D) (.ref CNotAdjacent) = some (decide (qD = "NotAdjacent.__init__")) := RD.er.flag RNotAdjacent hE (same16 (xD, qD) mm ("NotAdjacent", "NotAdjacent.__init__") (by simp [L16]))
  have kEmptyRoom : PySem.W.kitOne K (.ref D) (.ref CEmptyRoom) = some (decide (qD = "EmptyRoom.__init__")) := RD.er.flag REmptyRoom hE (same16 (xD, qD) mm ("EmptyRoom", "EmptyRoom.__init__") (by simp [L16]))
  have kAlreadyAdjacent : PySem.W.kitOne K (.ref D) (.ref CAlreadyAdjacent) = some (decide (qD = "AlreadyAdjacent.__init__")) := RD.er.flag RAlreadyAdjacent hE (same16 (xD, qD) mm ("AlreadyAdjacent", "AlreadyAdjacent.__init__") (by simp [L16]))
  have kWouldFormCycle : PySem.W.kitOne K (.ref D) (.ref CWouldFormCycle) = some (decide (qD = "WouldFormCycle.__init__")) := RD.er.flag RWouldFormCycle hE (same16 (xD, qD) mm ("WouldFormCycle", "WouldFormCycle.__init__") (by simp [L16]))
  have fl : ((decide (qD = "UnknownPerson.__init__") || (decide (qD = "InvalidName.__init__") || (decide (qD = "DuplicateName.__init__") || false)))) = true ∧ (decide (qD = "LimitReached.__init__")) = false ∧ ((decide (qD = "InvalidRoom.__init__") || (decide (qD = "NotAdjacent.__init__") || (decide (qD = "EmptyRoom.__init__") || (decide (qD = "AlreadyAdjacent.__init__") || (decide (qD = "WouldFormCycle.__init__") || false)))))) = false := by
    simp only [List.mem_cons, List.not_mem_nil, or_false, Prod.mk.injEq] at m
    rcases m with ⟨rfl, rfl⟩ | ⟨rfl, rfl⟩ | ⟨rfl, rfl⟩ <;> decide +kernel
  obtain ⟨fl1, fl2, fl3⟩ := fl
  have a1 := kit_any3 kUnknownPerson (kit_any3 kInvalidName (kit_any3 kDuplicateName kit_nil))
  have a3 := kit_any3 kInvalidRoom (kit_any3 kNotAdjacent (kit_any3 kEmptyRoom (kit_any3 kAlreadyAdjacent (kit_any3 kWouldFormCycle kit_nil))))
  rw [fl1] at a1
  rw [fl2] at kLimitReached
  rw [fl3] at a3
  refine Fun.okE F scLErrorField (fun a c d vs H Q h => ?_) (fun cdv A outer s H vs Q p c d hz hf hr h => ?_)
  · obtain ⟨rfl, _⟩ := h
    rfl
  · obtain ⟨rfl, rfl, dx, fs, v, rfl, hd, hl, q⟩ := h
    obtain ⟨a, oe⟩ := p
    have hm : (a, oe) ∈ [(a, oe)] := List.mem_singleton_self _
    refine ⟨_, (pss_cons (ps_if (pt_val (pe_callB (call_isTp K rfl hm hz hf) (by rfl) T.isinstance (by decide +kernel) (pa_cons (pv 0) (pa_cons (pe_tup (pa_cons (pe_glob (v := .ref CUnknownPerson) (by rfl) RUnknownPerson.g rfl) (pa_cons (pe_glob (v := .ref CInvalidName) (by rfl) RInvalidName.g rfl) (pa_cons (pe_glob (v := .ref CDuplicateName) (by rfl) RDuplicateName.g rfl) pa_nil)))) pa_nil))))
      (pss_one (ps_ret (pe_xfp K rfl RD.r.e.x RD.r.no hm hz hf (pv 0))))
      pss_nil)
      (pss_cons (ps_if (pt_val (pe_callB (call_isCp K rfl hm hz hf) (by rfl) T.isinstance (by decide +kernel) (pa_cons (pv 0) (pa_cons (pe_glob (v := .ref CLimitReached) (by rfl) RLimitReached.g rfl) pa_nil))))
      (pss_one (ps_ret pe_nev))
      pss_nil)
      (pss_one (ps_ret (pe_ifExp (pt_val (pe_callB (call_isTp K rfl hm hz hf) (by rfl) T.isinstance (by decide +kernel) (pa_cons (pv 0) (pa_cons (pe_tup (pa_cons (pe_glob (v := .ref CInvalidRoom) (by rfl) RInvalidRoom.g rfl) (pa_cons (pe_glob (v := .ref CNotAdjacent) (by rfl) RNotAdjacent.g rfl) (pa_cons (pe_glob (v := .ref CEmptyRoom) (by rfl) REmptyRoom.g rfl) (pa_cons (pe_glob (v := .ref CAlreadyAdjacent) (by rfl) RAlreadyAdjacent.g rfl) (pa_cons (pe_glob (v := .ref CWouldFormCycle) (by rfl) RWouldFormCycle.g rfl) pa_nil)))))) pa_nil)))) pe_nev pe_non))))), ?_⟩
    have hx : ∀ {H' : Hp}, Same H H' → HeldX K (.ref D) (some dx) D H' := fun {H'} s' => ⟨rfl, RD.r.e, fun dy e => by
      cases e
      exact ⟨fs, s' _ _ hd⟩⟩
    refine ⟨_, rfl, by show 3 ≤ sizeLine; decide, fun t1 h1 => ?_⟩
    have u1 := same_upd (o := .tup [V.ref CUnknownPerson, V.ref CInvalidName, V.ref CDuplicateName]) h1
    have e1 : (upd H t1 (.tup [V.ref CUnknownPerson, V.ref CInvalidName, V.ref CDuplicateName])) t1 = some (.tup [V.ref CUnknownPerson, V.ref CInvalidName, V.ref CDuplicateName]) := upd_same
    generalize upd H t1 (.tup [V.ref CUnknownPerson, V.ref CInvalidName, V.ref CDuplicateName]) = J1 at *
    refine ⟨D, t1, _, _, _, rfl, hx u1, SqT.of e1, fun us hu => ClsV.all (.cons (.own _) (.cons (.own _) (.cons (.own _) .nil))) hu, a1, _, rfl, ?_⟩
    refine iteT ⟨_, rfl, rfl, rfl, dx, fs, v, rfl, u1 _ _ hd, hl, q _ u1⟩
theorem ok_lef_limit {f : Addr} {fd : FuncData} {k : Nat} {E D : Addr} {xD qD : Str} (F : Fun K "_law_error_field" "_law_error_field" sLErrorField f fd) (T : Nm mg) (hE : HE K mg E) (Es : E16 K mg E) (m : (xD, qD) ∈ ([("LimitReached", "LimitReached.__init__")] : List (Str × Str))) (RD : Er1 P w K mg base xD qD "limit" E D) : FnE P w K mg base (k + 1) f fd ["_law_e"] (spLEF D "limit") := by
  obtain ⟨CUnknownPerson, RUnknownPerson⟩ := Es.UnknownPerson
  obtain ⟨CInvalidName, RInvalidName⟩ := Es.InvalidName
  obtain ⟨CDuplicateName, RDuplicateName⟩ := Es.DuplicateName
  obtain ⟨CLimitReached, RLimitReached⟩ := Es.LimitReached
  obtain ⟨CInvalidRoom, RInvalidRoom⟩ := Es.InvalidRoom
  obtain ⟨CNotAdjacent, RNotAdjacent⟩ := Es.NotAdjacent
  obtain ⟨CEmptyRoom, REmptyRoom⟩ := Es.EmptyRoom
  obtain ⟨CAlreadyAdjacent, RAlreadyAdjacent⟩ := Es.AlreadyAdjacent
  obtain ⟨CWouldFormCycle, RWouldFormCycle⟩ := Es.WouldFormCycle
  have mm : (xD, qD) ∈ L16 := by
    simp only [List.mem_cons, List.not_mem_nil, or_false, Prod.mk.injEq] at m
    rcases m with ⟨rfl, rfl⟩ <;> simp [L16]
  have kUnknownPerson : PySem.W.kitOne K (.ref D) (.ref CUnknownPerson) = some (decide (qD = "UnknownPerson.__init__")) := RD.er.flag RUnknownPerson hE (same16 (xD, qD) mm ("UnknownPerson", "UnknownPerson.__init__") (by simp [L16]))
  have kInvalidName : PySem.W.kitOne K (.ref D) (.ref CInvalidName) = some (decide (qD = "InvalidName.__init__")) := RD.er.flag RInvalidName hE (same16 (xD, qD) mm ("InvalidName", "InvalidName.__init__") (by simp [L16]))
  have kDuplicateName : PySem.W.kitOne K (.ref D) (.ref CDuplicateName) = some (decide (qD = "DuplicateName.__init__")) := RD.er.flag RDuplicateName hE (same16 (xD, qD) mm ("DuplicateName", "DuplicateName.__init__") (by simp [L16]))
  have kLimitReached : PySem.W.kitOne K (.ref D) (.ref CLimitReached) = some (decide (qD = "LimitReached.__init__")) := RD.er.flag RLimitReached hE (same16 (xD, qD) mm ("LimitReached", "LimitReached.__init__") (by simp [L16]))
  have kInvalidRoom : PySem.W.kitOne K (.ref D) (.ref CInvalidRoom) = some (decide (qD = "InvalidRoom.__init__")) := RD.er.flag RInvalidRoom hE (same16 (xD, qD) mm ("InvalidRoom", "InvalidRoom.__init__") (by simp [L16]))
  have kNotAdjacent : PySem.W.kitOne K (.ref D) (.ref CNotAdjacent) = some (decide (qD = "NotAdjacent.__init__")) := RD.er.flag RNotAdjacent hE (same16 (xD, qD) mm ("NotAdjacent", "NotAdjacent.__init__") (by simp [L16]))
  have kEmptyRoom : PySem.W.kitOne K (.ref D) (.ref CEmptyRoom) = some (decide (qD = "EmptyRoom.__init__")) := RD.er.flag REmptyRoom hE (same16 (xD, qD) mm ("EmptyRoom", "EmptyRoom.__init__") (by simp [L16]))
  have kAlreadyAdjacent : PySem.W.kitOne K (.ref D) (.ref CAlreadyAdjacent) = some (decide (qD = "AlreadyAdjacent.__init__")) := RD.er.flag RAlreadyAdjacent hE (same16 (xD, qD) mm ("AlreadyAdjacent", "AlreadyAdjacent.__init__") (by simp [L16]))
  have kWouldFormCycle : PySem.W.kitOne K (.ref D) (.ref CWouldFormCycle) = some (decide (qD = "WouldFormCycle.__init__")) := RD.er.flag RWouldFormCycle hE (same16 (xD, qD) mm ("WouldFormCycle", "WouldFormCycle.__init__") (by simp [L16]))
  have fl : ((decide (qD = "UnknownPerson.__init__") || (decide (qD = "InvalidName.__init__") || (decide (qD = "DuplicateName.__init__") || false)))) = false ∧ (decide (qD = "LimitReached.__init__")) = true ∧ ((decide (qD = "InvalidRoom.__init__") || (decide (qD = "NotAdjacent.__init__") || (decide (qD = "EmptyRoom.__init__") || (decide (qD = "AlreadyAdjacent.__init__") || (decide (qD = "WouldFormCycle.__init__") || false)))))) = false := by
    simp only [List.mem_cons, List.not_mem_nil, or_false, Prod.mk.injEq] at m
    rcases m with ⟨rfl, rfl⟩ <;> decide +kernel
  obtain ⟨fl1, fl2, fl3⟩ := fl
  have a1 := kit_any3 kUnknownPerson (kit_any3 kInvalidName (kit_any3 kDuplicateName kit_nil))
  have a3 := kit_any3 kInvalidRoom (kit_any3 kNotAdjacent (kit_any3 kEmptyRoom (kit_any3 kAlreadyAdjacent (kit_any3 kWouldFormCycle kit_nil))))
  rw [fl1] at a1
  rw [fl2] at kLimitReached
  rw [fl3] at a3
  refine Fun.okE F scLErrorField (fun a c d vs H Q h => ?_) (fun cdv A outer s H vs Q p c d hz hf hr h => ?_)
  · obtain ⟨rfl, _⟩ := h
    rfl
  · obtain ⟨rfl, rfl, dx, fs, v, rfl, hd, hl, q⟩ := h
    obtain ⟨a, oe⟩ := p
    have hm : (a, oe) ∈ [(a, oe)] := List.mem_singleton_self _
    refine ⟨_, (pss_cons (ps_if (pt_val (pe_callB (call_isTp K rfl hm hz hf) (by rfl) T.isinstance (by decide +kernel) (pa_cons (pv 0) (pa_cons (pe_tup (pa_cons (pe_glob (v := .ref CUnknownPerson) (by rfl) RUnknownPerson.g rfl) (pa_cons (pe_glob (v := .ref CInvalidName) (by rfl) RInvalidName.g rfl) (pa_cons (pe_glob (v := .ref CDuplicateName) (by rfl) RDuplicateName.g rfl) pa_nil)))) pa_nil))))
      (pss_one (ps_ret pe_nev))
      pss_nil)
      (pss_cons (ps_if (pt_val (pe_callB (call_isCp K rfl hm hz hf) (by rfl) T.isinstance (by decide +kernel) (pa_cons (pv 0) (pa_cons (pe_glob (v := .ref CLimitReached) (by rfl) RLimitReached.g rfl) pa_nil))))
      (pss_one (ps_ret (pe_xfp K rfl RD.r.e.x RD.r.no hm hz hf (pv 0))))
      pss_nil)
      (pss_one (ps_ret (pe_ifExp (pt_val (pe_callB (call_isTp K rfl hm hz hf) (by rfl) T.isinstance (by decide +kernel) (pa_cons (pv 0) (pa_cons (pe_tup (pa_cons (pe_glob (v := .ref CInvalidRoom) (by rfl) RInvalidRoom.g rfl) (pa_cons (pe_glob (v := .ref CNotAdjacent) (by rfl) RNotAdjacent.g rfl) (pa_cons (pe_glob (v := .ref CEmptyRoom) (by rfl) REmptyRoom.g rfl) (pa_cons (pe_glob (v := .ref CAlreadyAdjacent) (by rfl) RAlreadyAdjacent.g rfl) (pa_cons (pe_glob (v := .ref CWouldFormCycle) (by rfl) RWouldFormCycle.g rfl) pa_nil)))))) pa_nil)))) pe_nev pe_non))))), ?_⟩
    have hx : ∀ {H' : Hp}, Same H H' → HeldX K (.ref D) (some dx) D H' := fun {H'} s' => ⟨rfl, RD.r.e, fun dy e => by
      cases e
      exact ⟨fs, s' _ _ hd⟩⟩
    refine ⟨_, rfl, by show 3 ≤ sizeLine; decide, fun t1 h1 => ?_⟩
    have u1 := same_upd (o := .tup [V.ref CUnknownPerson, V.ref CInvalidName, V.ref CDuplicateName]) h1
    have e1 : (upd H t1 (.tup [V.ref CUnknownPerson, V.ref CInvalidName, V.ref CDuplicateName])) t1 = some (.tup [V.ref CUnknownPerson, V.ref CInvalidName, V.ref CDuplicateName]) := upd_same
    generalize upd H t1 (.tup [V.ref CUnknownPerson, V.ref CInvalidName, V.ref CDuplicateName]) = J1 at *
    refine ⟨D, t1, _, _, _, rfl, hx u1, SqT.of e1, fun us hu => ClsV.all (.cons (.own _) (.cons (.own _) (.cons (.own _) .nil))) hu, a1, _, rfl, ?_⟩
    refine iteF ?_
    refine ⟨_, rfl, D, _, _, true, rfl, hx u1, .own _, kLimitReached, _, rfl, ?_⟩
    refine iteT ⟨_, rfl, rfl, rfl, dx, fs, v, rfl, u1 _ _ hd, hl, q _ u1⟩
theorem ok_lef_room {f : Addr} {fd : FuncData} {k : Nat} {E D : Addr} {xD qD : Str} (F : Fun K "_law_error_field" "_law_error_field" sLErrorField f fd) (T : Nm mg) (hE : HE K mg E) (Es : E16 K mg E) (m : (xD, qD) ∈ ([("InvalidRoom", "InvalidRoom.__init__"), ("NotAdjacent", "NotAdjacent.__init__"), ("EmptyRoom", "EmptyRoom.__init__"), ("AlreadyAdjacent", "AlreadyAdjacent.__init__"), ("WouldFormCycle", "WouldFormCycle.__init__")] : List (Str × Str))) (RD : Er1 P w K mg base xD qD "room" E D) : FnE P w K mg base (k + 1) f fd ["_law_e"] (spLEF D "room") := by
  obtain ⟨CUnknownPerson, RUnknownPerson⟩ := Es.UnknownPerson
  obtain ⟨CInvalidName, RInvalidName⟩ := Es.InvalidName
  obtain ⟨CDuplicateName, RDuplicateName⟩ := Es.DuplicateName
  obtain ⟨CLimitReached, RLimitReached⟩ := Es.LimitReached
  obtain ⟨CInvalidRoom, RInvalidRoom⟩ := Es.InvalidRoom
  obtain ⟨CNotAdjacent, RNotAdjacent⟩ := Es.NotAdjacent
  obtain ⟨CEmptyRoom, REmptyRoom⟩ := Es.EmptyRoom
  obtain ⟨CAlreadyAdjacent, RAlreadyAdjacent⟩ := Es.AlreadyAdjacent
  obtain ⟨CWouldFormCycle, RWouldFormCycle⟩ := Es.WouldFormCycle
  have mm : (xD, qD) ∈ L16 := by
    simp only [List.mem_cons, List.not_mem_nil, or_false, Prod.mk.injEq] at m
    rcases m with ⟨rfl, rfl⟩ | ⟨rfl, rfl⟩ | ⟨rfl, rfl⟩ | ⟨rfl, rfl⟩ | ⟨rfl, rfl⟩ <;> simp [L16]
  have kUnknownPerson : PySem.W.kitOne K (.ref D) (.ref CUnknownPerson) = some (decide (qD = "UnknownPerson.__init__")) := RD.er.flag RUnknownPerson hE (same16 (xD, qD) mm ("UnknownPerson", "UnknownPerson.__init__") (by simp [L16]))
  have kInvalidName : PySem.W.kitOne K (.ref D) (.ref CInvalidName) = some (decide (qD = "InvalidName.__init__")) := RD.er.flag RInvalidName hE (same16 (xD, qD) mm ("InvalidName", "InvalidName.__init__") (by simp [L16]))
  have kDuplicateName : PySem.W.kitOne K (.ref D) (.ref CDuplicateName) = some (decide (qD = "DuplicateName.__init__")) := RD.er.flag RDuplicateName hE (same16 (xD, qD) mm ("DuplicateName", "DuplicateName.__init__") (by simp [L16]))
  have kLimitReached : PySem.W.kitOne K (.ref D) (.ref CLimitReached) = some (decide (qD = "LimitReached.__init__")) := RD.er.flag RLimitReached hE (same16 (xD, qD) mm ("LimitReached", "LimitReached.__init__") (by simp [L16]))
  have kInvalidRoom : PySem.W.kitOne K (.ref D) (.ref CInvalidRoom) = some (decide (qD = "InvalidRoom.__init__")) := RD.er.flag RInvalidRoom hE (same16 (xD, qD) mm ("InvalidRoom", "InvalidRoom.__init__") (by simp [L16]))
  have kNotAdjacent : PySem.W.kitOne K (.ref D) (.ref CNotAdjacent) = some (decide (qD = "NotAdjacent.__init__")) := RD.er.flag RNotAdjacent hE (same16 (xD, qD) mm ("NotAdjacent", "NotAdjacent.__init__") (by simp [L16]))
  have kEmptyRoom : PySem.W.kitOne K (.ref D) (.ref CEmptyRoom) = some (decide (qD = "EmptyRoom.__init__")) := RD.er.flag REmptyRoom hE (same16 (xD, qD) mm ("EmptyRoom", "EmptyRoom.__init__") (by simp [L16]))
  have kAlreadyAdjacent : PySem.W.kitOne K (.ref D) (.ref CAlreadyAdjacent) = some (decide (qD = "AlreadyAdjacent.__init__")) := RD.er.flag RAlreadyAdjacent hE (same16 (xD, qD) mm ("AlreadyAdjacent", "AlreadyAdjacent.__init__") (by simp [L16]))
  have kWouldFormCycle : PySem.W.kitOne K (.ref D) (.ref CWouldFormCycle) = some (decide (qD = "WouldFormCycle.__init__")) := RD.er.flag RWouldFormCycle hE (same16 (xD, qD) mm ("WouldFormCycle", "WouldFormCycle.__init__") (by simp [L16]))
  have fl : ((decide (qD = "UnknownPerson.__init__") || (decide (qD = "InvalidName.__init__") || (decide (qD = "DuplicateName.__init__") || false)))) = false ∧ (decide (qD = "LimitReached.__init__")) = false ∧ ((decide (qD = "InvalidRoom.__init__") || (decide (qD = "NotAdjacent.__init__") || (decide (qD = "EmptyRoom.__init__") || (decide (qD = "AlreadyAdjacent.__init__") || (decide (qD = "WouldFormCycle.__init__") || false)))))) = true := by
    simp only [List.mem_cons, List.not_mem_nil, or_false, Prod.mk.injEq] at m
    rcases m with ⟨rfl, rfl⟩ | ⟨rfl, rfl⟩ | ⟨rfl, rfl⟩ | ⟨rfl, rfl⟩ | ⟨rfl, rfl⟩ <;> decide +kernel
  obtain ⟨fl1, fl2, fl3⟩ := fl
  have a1 := kit_any3 kUnknownPerson (kit_any3 kInvalidName (kit_any3 kDuplicateName kit_nil))
  have a3 := kit_any3 kInvalidRoom (kit_any3 kNotAdjacent (kit_any3 kEmptyRoom (kit_any3 kAlreadyAdjacent (kit_any3 kWouldFormCycle kit_nil))))
  rw [fl1] at a1
  rw [fl2] at kLimitReached
  rw [fl3] at a3
  refine Fun.okE F scLErrorField (fun a c d vs H Q h => ?_) (fun cdv A outer s H vs Q p c d hz hf hr h => ?_)
  · obtain ⟨rfl, _⟩ := h
    rfl
  · obtain ⟨rfl, rfl, dx, fs, v, rfl, hd, hl, q⟩ := h
    obtain ⟨a, oe⟩ := p
    have hm : (a, oe) ∈ [(a, oe)] := List.mem_singleton_self _
    refine ⟨_, (pss_cons (ps_if (pt_val (pe_callB (call_isTp K rfl hm hz hf) (by rfl) T.isinstance (by decide +kernel) (pa_cons (pv 0) (pa_cons (pe_tup (pa_cons (pe_glob (v := .ref CUnknownPerson) (by rfl) RUnknownPerson.g rfl) (pa_cons (pe_glob (v := .ref CInvalidName) (by rfl) RInvalidName.g rfl) (pa_cons (pe_glob (v := .ref CDuplicateName) (by rfl) RDuplicateName.g rfl) pa_nil)))) pa_nil))))
      (pss_one (ps_ret pe_nev))
      pss_nil)
      (pss_cons (ps_if (pt_val (pe_callB (call_isCp K rfl hm hz hf) (by rfl) T.isinstance (by decide +kernel) (pa_cons (pv 0) (pa_cons (pe_glob (v := .ref CLimitReached) (by rfl) RLimitReached.g rfl) pa_nil))))
      (pss_one (ps_ret pe_nev))
      pss_nil)
      (pss_one (ps_ret (pe_ifExp (pt_val (pe_callB (call_isTp K rfl hm hz hf) (by rfl) T.isinstance (by decide +kernel) (pa_cons (pv 0) (pa_cons (pe_tup (pa_cons (pe_glob (v := .ref CInvalidRoom) (by rfl) RInvalidRoom.g rfl) (pa_cons (pe_glob (v := .ref CNotAdjacent) (by rfl) RNotAdjacent.g rfl) (pa_cons (pe_glob (v := .ref CEmptyRoom) (by rfl) REmptyRoom.g rfl) (pa_cons (pe_glob (v := .ref CAlreadyAdjacent) (by rfl) RAlreadyAdjacent.g rfl) (pa_cons (pe_glob (v := .ref CWouldFormCycle) (by rfl) RWouldFormCycle.g rfl) pa_nil)))))) pa_nil)))) (pe_xfp K rfl RD.r.e.x RD.r.no hm hz hf (pv 0)) pe_non))))), ?_⟩
    have hx : ∀ {H' : Hp}, Same H H' → HeldX K (.ref D) (some dx) D H' := fun {H'} s' => ⟨rfl, RD.r.e, fun dy e => by
      cases e
      exact ⟨fs, s' _ _ hd⟩⟩
    refine ⟨_, rfl, by show 3 ≤ sizeLine; decide, fun t1 h1 => ?_⟩
    have u1 := same_upd (o := .tup [V.ref CUnknownPerson, V.ref CInvalidName, V.ref CDuplicateName]) h1
    have e1 : (upd H t1 (.tup [V.ref CUnknownPerson, V.ref CInvalidName, V.ref CDuplicateName])) t1 = some (.tup [V.ref CUnknownPerson, V.ref CInvalidName, V.ref CDuplicateName]) := upd_same
    generalize upd H t1 (.tup [V.ref CUnknownPerson, V.ref CInvalidName, V.ref CDuplicateName]) = J1 at *
    refine ⟨D, t1, _, _, _, rfl, hx u1, SqT.of e1, fun us hu => ClsV.all (.cons (.own _) (.cons (.own _) (.cons (.own _) .nil))) hu, a1, _, rfl, ?_⟩
    refine iteF ?_
    refine ⟨_, rfl, D, _, _, false, rfl, hx u1, .own _, kLimitReached, _, rfl, ?_⟩
    refine iteF ?_
    refine ⟨_, rfl, by show 5 ≤ sizeLine; decide, fun t2 h2 => ?_⟩
    have u2 := u1.trans (same_upd (o := .tup [V.ref CInvalidRoom, V.ref CNotAdjacent, V.ref CEmptyRoom, V.ref CAlreadyAdjacent, V.ref CWouldFormCycle]) h2)
    have e2 : (upd J1 t2 (.tup [V.ref CInvalidRoom, V.ref CNotAdjacent, V.ref CEmptyRoom, V.ref CAlreadyAdjacent, V.ref CWouldFormCycle])) t2 = some (.tup [V.ref CInvalidRoom, V.ref CNotAdjacent, V.ref CEmptyRoom, V.ref CAlreadyAdjacent, V.ref CWouldFormCycle]) := upd_same
    generalize upd J1 t2 (.tup [V.ref CInvalidRoom, V.ref CNotAdjacent, V.ref CEmptyRoom, V.ref CAlreadyAdjacent, V.ref CWouldFormCycle]) = J2 at *
    refine ⟨D, t2, _, _, _, rfl, hx u2, SqT.of e2, fun us hu => ClsV.all (.cons (.own _) (.cons (.own _) (.cons (.own _) (.cons (.own _) (.cons (.own _) .nil))))) hu, a3, _, rfl, ?_⟩
    refine iteT ⟨_, rfl, rfl, rfl, dx, fs, v, rfl, u2 _ _ hd, hl, q _ u2⟩
end
end Fw
set_option maxHeartbeats 4000000
namespace Fw
open PySem PySem.Spec PyProof.Rows L2
/-! the actions of a session, from state to state -/
/-- a state (house, placement, target) in memory -/
def StAt (H : Hp) (t : Addr) (n : Int) (D : List (Int × Int)) (P G : List (Str × Int)) : Prop := ∃ h p g, H t = some (.tup [.ref h, .ref p, .ref g]) ∧ HouseAt H h n D ∧ PlAt H p P ∧ PlAt H g G
theorem StAt.same {H H' : Hp} {t : Addr} {n : Int} {D : List (Int × Int)} {P G : List (Str × Int)} (x : StAt H t n D P G) (s : Same H H') : StAt H' t n D P G := by
  obtain ⟨h, p, g, e, a, b, c⟩ := x
  exact ⟨h, p, g, s _ _ e, a.same s, b.same s, c.same s⟩
theorem eqv_pp (x y : Str × Int) : PyData.eqv (pp x) (pp y) = decide (x = y) := by
  have := eqv_pld [x] [y]
  unfold pld at this
  rw [PyData.eqv] at this
  have k : PyData.eqvAll [pp x] [pp y] = PyData.eqv (pp x) (pp y) := by rw [PyData.eqvAll, PyData.eqvAll, Bool.and_true]
  rw [← k]
  refine Eq.trans this ?_
  simp
theorem pp_shaped {x : Str × Int} (h : Nam x.1) : SeqAt.shaped (pp x) = true := by
  have := nam_ok h
  unfold SeqAt.shaped pp
  simp [PyData.canLay0, PyData.canLayAll0, PyData.depth, PyData.depthAll, this]
theorem LsAt.plain {H : Hp} {l : Addr} {X : List (Str × Int)} (x : LsAt H l X) : ∃ xs, H l = some (.lst xs) ∧ ∀ t, H t = none → PlAt (upd H t (.tup xs)) t X := by
  obtain ⟨ps, h1, h2, h3⟩ := x
  exact ⟨_, h1, fun t ht => ⟨ps, .inl upd_same, h2, fun q hq => same_upd ht _ _ (h3 q hq)⟩⟩
theorem inV_ss (x : Str) (R : List Str) : inV (.str x) (R.map V.str) = decide (x ∈ R) := by
  unfold inV
  rw [Bool.eq_iff_iff, List.any_eq_true, decide_eq_true_eq]
  constructor
  · rintro ⟨y, hy, e⟩
    obtain ⟨z, hz, rfl⟩ := List.mem_map.mp hy
    have : z = x := by simpa [eqV] using e
    exact this ▸ hz
  · intro h
    exact ⟨.str x, List.mem_map_of_mem h, by simp [eqV]⟩
theorem flat_ss (R : List Str) : (R.map V.str).all flatV = true := by
  rw [List.all_eq_true]
  intro x hx
  obtain ⟨z, _, rfl⟩ := List.mem_map.mp hx
  rfl
open Classical in
theorem nam_of {z : Str} (h : nmOk z = true) : Nam z := by
  unfold nmOk letr at h
  obtain ⟨a, b⟩ := Bool.and_eq_true_iff.mp h
  obtain ⟨a1, a2⟩ := of_decide_eq_true a
  exact ⟨a1, a2, fun c hc => of_decide_eq_true (List.all_eq_true.mp b c hc)⟩
/-- a state as it may be -/
structure St1 (n : Int) (D : List (Int × Int)) (P G : List (Str × Int)) : Prop where
  f : Forest n D
  n0 : 0 ≤ n
  n8 : n ≤ 8
  p : Pl n P
  g : Pl n G
  l : P.length ≤ 100
  e : G.map (·.1) = P.map (·.1)
section
variable {P : Program} {w : World} {K : PySem.W.Frag} {mg : Str → Option Value} {base : Heap}
def spMoveAll (K : PySem.W.Frag) (CU CI CN CE : Addr) : Sp := fun vs H Q E => ∃ (h p : Addr) (n : Int) (D : List (Int × Int)) (P : List (Str × Int)) (v : V) (d : PyData) (w : V) (e : PyData), vs = [.ref h, .ref p, v, w] ∧ HouseAt H h n D ∧ Forest n D ∧ 0 ≤ n ∧ n ≤ 8 ∧ PlAt H p P ∧ Pl n P ∧ P.length ≤ 100 ∧ Dx K [] H v d ∧ Dx K [] H w e ∧
  (MRes n D P v d w e 0 → ∀ nm r, v = .str nm → w = .int r → ∀ H' u, Same H H' → PlD H' u (mvd P nm r) → Q (.ref u) H') ∧
  (MRes n D P v d w e 1 → ∀ x H', Same H H' → H' x = some (.xd [("name", v)]) → E (.ref CU) (some x) H') ∧
  (MRes n D P v d w e 2 → ∀ x H', Same H H' → H' x = some (.xd [("room", w)]) → E (.ref CI) (some x) H') ∧
  (MRes n D P v d w e 3 → ∀ x H', Same H H' → H' x = some (.xd [("room", w)]) → E (.ref CN) (some x) H') ∧
  (MRes n D P v d w e 4 → ∀ x H', Same H H' → H' x = some (.xd [("room", w)]) → E (.ref CE) (some x) H')
theorem ok_moveall {f : Addr} {fd : FuncData} {k : Nat} {E0 E1 E2 E3 CU CI CN CE : Addr} (F : Fun K "move_person" "move_person" sMove f fd) (T : Nm mg) (Croom_of : CalX P w K mg base (k + 3) "room_of" pRoomOf (spRoomAny K CU)) (Cis_room : Cal P w K mg base (k + 3) "is_room" pIsRoom (spIsRoomA K))
    (Cneighbors : Cal P w K mg base (k + 3) "neighbors" ["house", "room"] spNb) (Cpeople_in : Cal P w K mg base (k + 3) "people_in" pPIn spPIn) (Cwith : Cal P w K mg base (k + 3) "with_person_in" pWith spWith) (RI : ErR P w K mg base "InvalidRoom" "room" E1 CI) (RN : ErR P w K mg base "NotAdjacent" "room" E2 CN) (RE : ErR P w K mg base "EmptyRoom" "room" E3 CE) : FnOk P w K mg base (L2.CX P w) (k + 4) f fd pMove (spMoveAll K CU CI CN CE) := by
  refine F.okX scMove (fun vs H Q E h => ?_) (fun cdv A outer s H vs Q E hr h => ?_)
  · obtain ⟨h, p, n, D, P, v, d, w, e, rfl, _⟩ := h
    rfl
  · obtain ⟨h, p, n, D, P, v, d, w, e, rfl, hH, hF, n0, n1, hP, pl, lP, hv, hw, q0, q1, q2, q3, q4⟩ := h
    refine ⟨_, (pss_cons (ps_set (i := 4) scMove.nd rfl (.inl rfl) (pe_calX Croom_of (takes_of rfl rfl rfl rfl) hr (by rfl) (pa_cons (pv 1) (pa_cons (pv 2) pa_nil))))
      (pss_cons (ps_if (pt_not (pt_val (pe_cal Cis_room hr (by rfl) (pa_cons (pv 0) (pa_cons (pv 3) pa_nil)))))
      (pss_one (ps_raise rfl (takes_of rfl rfl rfl rfl) (pmk_er RI hr (by rfl) (pv 3))))
      pss_nil)
      (pss_cons (ps_if (pt_cmpR (op_notInK K rfl) (pv 3) (pe_cal Cneighbors hr (by rfl) (pa_cons (pv 0) (pa_cons (pv 4) pa_nil))) (by rfl))
      (pss_one (ps_raise rfl (takes_of rfl rfl rfl rfl) (pmk_er RN hr (by rfl) (pv 3))))
      pss_nil)
      (pss_cons (ps_if (pt_not (pt_truthK K rfl (pe_cal Cpeople_in hr (by rfl) (pa_cons (pv 1) (pa_cons (pv 3) pa_nil))) (by intro _; rfl)))
      (pss_one (ps_raise rfl (takes_of rfl rfl rfl rfl) (pmk_er RE hr (by rfl) (pv 3))))
      pss_nil)
      (pss_one (ps_ret (pe_cal Cwith hr (by rfl) (pa_cons (pv 1) (pa_cons (pv 2) (pa_cons (pv 3) pa_nil)))))))))), ?_⟩
    refine ⟨_, rfl, _, rfl, p, P, v, d, rfl, hP, hv, fun nm c ev hm => ?_, q1⟩
    refine ⟨_, rfl, _, rfl, h, n, D, w, e, rfl, hH, hw, _, rfl, ?_⟩
    cases er : isRm n e with
    | false => exact iteT ⟨_, rfl, raise_end fun x H' s' e' => q2 ⟨nm, c, ev, hm, er⟩ x H' s' e'⟩
    | true =>
      have ir : ∃ r : Int, w = .int r ∧ 0 ≤ r ∧ r < n := by
        cases hw <;> first | (cases er; done) | exact ⟨_, rfl, of_decide_eq_true er⟩
      obtain ⟨r, rfl, r0, r1⟩ := ir
      refine iteF ⟨_, rfl, _, rfl, _, rfl, h, n, D, c, rfl, hH, hF, fun H1 t s1 e1 => ⟨t, _, rfl, .inr (SqT.of e1), rfl, flat_vi _, _, rfl, ?_⟩⟩
      rw [if_pos rfl, inV_vi]
      by_cases hr1 : ¬ r ∈ nb n D c
      · rw [decide_eq_false hr1]
        exact iteT ⟨_, rfl, raise_end fun x H' s' e' => q3 ⟨nm, c, r, ev, hm, rfl, ⟨r0, r1⟩, hr1⟩ x H' (s1.trans s') e'⟩
      have hr1 := Decidable.not_not.mp hr1
      rw [decide_eq_true hr1]
      refine iteF ⟨_, rfl, _, rfl, p, P, r, rfl, hP.same s1, lP, fun H2 u s2 e2 => ⟨_, .inr (.inl ⟨_, SqT.of e2, rfl⟩), ?_⟩⟩
      have em : ((inside P [r]).map V.str).isEmpty = !decide (r ∈ P.map (·.2)) := by
        rw [Bool.eq_iff_iff, List.isEmpty_iff, List.map_eq_nil_iff, inside_nil, Bool.not_eq_true', decide_eq_false_iff_not]
        constructor
        · intro z m
          obtain ⟨y, hy, ey⟩ := List.mem_map.mp m
          exact z y hy (List.mem_singleton.mpr ey)
        · intro z x hx m
          exact z (List.mem_map.mpr ⟨x, hx, List.mem_singleton.mp m⟩)
      rw [em]
      by_cases hr2 : ¬ r ∈ P.map (·.2)
      · rw [decide_eq_false hr2]
        exact iteT ⟨_, rfl, raise_end fun x H' s' e' => q4 ⟨nm, c, r, ev, hm, rfl, ⟨r0, r1⟩, hr1, hr2⟩ x H' ((s1.trans s2).trans s') e'⟩
      have hr2 := Decidable.not_not.mp hr2
      rw [decide_eq_true hr2]
      subst ev
      exact iteF ⟨_, rfl, _, rfl, _, rfl, p, P, nm, r, rfl, hP.same (s1.trans s2), lP, fun H3 u s3 e3 => q0 ⟨nm, c, r, rfl, hm, rfl, ⟨r0, r1⟩, hr1, hr2⟩ nm r rfl rfl _ _ ((s1.trans s2).trans s3) e3⟩
abbrev nAfM : List Str := ["state", "name", "room", "house", "placement", "target"]
theorem scAfM : FnScope nAfM ["state", "name", "room"] (defScope sAfterMove) := ⟨rfl, rfl, rfl, by decide +kernel, rfl, by decide +kernel, by decide +kernel⟩
abbrev pAfM : List Str := ["state", "name", "room"]
def spAfM (K : PySem.W.Frag) (CU CI CN CE : Addr) : Sp := fun vs H Q E => ∃ (t : Addr) (n : Int) (D : List (Int × Int)) (P G : List (Str × Int)) (v : V) (d : PyData) (w : V) (e : PyData), vs = [.ref t, v, w] ∧ StAt H t n D P G ∧ St1 n D P G ∧ Dx K [] H v d ∧ Dx K [] H w e ∧
  (MRes n D P v d w e 0 → ∀ nm r, v = .str nm → w = .int r → ∀ H' u, Same H H' → StAt H' u n D (mvd P nm r) G → Q (.ref u) H') ∧
  (MRes n D P v d w e 1 → ∀ x H', Same H H' → H' x = some (.xd [("name", v)]) → E (.ref CU) (some x) H') ∧
  (MRes n D P v d w e 2 → ∀ x H', Same H H' → H' x = some (.xd [("room", w)]) → E (.ref CI) (some x) H') ∧
  (MRes n D P v d w e 3 → ∀ x H', Same H H' → H' x = some (.xd [("room", w)]) → E (.ref CN) (some x) H') ∧
  (MRes n D P v d w e 4 → ∀ x H', Same H H' → H' x = some (.xd [("room", w)]) → E (.ref CE) (some x) H')
theorem ok_afm {f : Addr} {fd : FuncData} {k : Nat} {CU CI CN CE : Addr} (F : Fun K "after_move" "after_move" sAfterMove f fd) (T : Nm mg) (Cmove_person : CalX P w K mg base k "move_person" pMove (spMoveAll K CU CI CN CE)) : FnOk P w K mg base (L2.CX P w) (k + 1) f fd pAfM (spAfM K CU CI CN CE) := by
  refine F.okX scAfM (fun vs H Q E h => ?_) (fun cdv A outer s H vs Q E hr h => ?_)
  · obtain ⟨t, n, D, P, G, v, d, w, e, rfl, _⟩ := h
    rfl
  · obtain ⟨t, n, D, P, G, v, d, w, e, rfl, st, s1, hv, hw, q0, q1, q2, q3, q4⟩ := h
    refine ⟨_, (pss_cons (ps_asg (pv 0) (pg_tup (by rfl) (pgs_cons (pg_name (i := 3) scAfM.nd rfl (.inl rfl)) (pgs_cons (pg_name (i := 4) scAfM.nd rfl (.inl rfl)) (pgs_cons (pg_name (i := 5) scAfM.nd rfl (.inl rfl)) pgs_nil)))))
      (pss_one (ps_ret (pe_tup (pa_cons (pv 3) (pa_cons (pe_calX Cmove_person (takes_of rfl rfl rfl rfl) hr (by rfl) (pa_cons (pv 3) (pa_cons (pv 4) (pa_cons (pv 1) (pa_cons (pv 2) pa_nil))))) (pa_cons (pv 5) pa_nil))))))), ?_⟩
    obtain ⟨h, p, g, et, hH, hP, hG⟩ := st
    refine ⟨_, rfl, t, _, rfl, SqT.of et, rfl, _, _, rfl, _, _, rfl, _, _, rfl, rfl, ?_⟩
    dsimp only [gName]
    refine ⟨_, rfl, _, rfl, _, rfl, _, rfl, _, rfl, h, p, n, D, P, v, d, w, e, rfl, hH, s1.f, s1.n0, s1.n8, hP, s1.p, s1.l, hv, hw, fun m nm r ev ew H' u s' hu => ⟨_, rfl, by show 3 ≤ sizeLine; decide, fun t' ht' => ?_⟩, q1, q2, q3, q4⟩
    have s2 := s'.trans (same_upd (o := .tup [.ref h, .ref u, .ref g]) ht')
    exact q0 m nm r ev ew _ t' s2 ⟨h, u, g, upd_same, hH.same s2, (hu.same (same_upd ht')).pl, hG.same s2⟩
abbrev nWout : List Str := ["pairs", "pair", "other"]
theorem scWout : FnScope nWout ["pairs", "pair"] (defScope sWithout) := ⟨rfl, rfl, rfl, by decide +kernel, rfl, by decide +kernel, by decide +kernel⟩
abbrev pWout : List Str := ["pairs", "pair"]
theorem pp_dp {K : PySem.W.Frag} {H : Hp} {q : Addr} {x : Str × Int} (e : H q = some (.tup [.str x.1, .int x.2])) : Dp K H (.ref q) (pp x) := .tup (SqT.of e) (.cons (.str _) (.cons (.int _) .nil))
/-- the pairs without one of them -/
def wo (P : List (Str × Int)) (x : Str × Int) : List (Str × Int) := P.filter fun y => !decide (y = x)
/-- .. of a placement -/
def spWout : Sp := fun vs H Q _ => ∃ (p q : Addr) (P : List (Str × Int)) (x : Str × Int), vs = [.ref p, .ref q] ∧ PlAt H p P ∧ P.length ≤ 100 ∧ (∀ y ∈ P, Nam y.1) ∧ H q = some (.tup [.str x.1, .int x.2]) ∧ Nam x.1 ∧
  ∀ H' u, Same H H' → PlAt H' u (wo P x) → Q (.ref u) H'
theorem ok_wout {f : Addr} {fd : FuncData} {k : Nat} (F : Fun K "without" "without" sWithout f fd) (T : Nm mg) : FnOk P w K mg base CX0 (k + 1) f fd pWout spWout := by
  refine F.ok scWout (fun vs H Q E h => ?_) (fun cdv A outer s H vs Q E hr h => ?_)
  · obtain ⟨p, q, P, x, rfl, _⟩ := h
    rfl
  · obtain ⟨p, q, P, x, rfl, hP, lP, nm, eq, nx, done⟩ := h
    refine ⟨_, (pss_one (ps_ret (pe_callTy (call_tupleK K rfl) (by rfl) T.tuple (by decide +kernel) (pa_cons (pe_lc (own := [("other", 2)]) (g := gName 2) (by rfl) scWout.nd (pi_tupK K rfl (pv 0))
 (blkOk_by (own := [("other", 2)]) (N := nWout) (sc := defScope sWithout) (by decide +kernel))
 (fun _ _ _ _ _ => (pg_name (i := 2) scWout.nd rfl (.inl rfl))) (fun _ _ _ _ _ => pts_one (pt_cmpR (op_neDK K rfl hr.units) (pv 2) (pv 1) (nomark _))) (fun _ _ _ _ _ => (pv 2))) pa_nil)))), ?_⟩
    obtain ⟨ps, p1, p2, p3⟩ := id hP
    refine ⟨_, rfl, p, rfl, ⟨_, p1.sq⟩, fun L hL => lc_tup (K := K) (a := p) (xs := ps.map fun y => V.ref y.1) (fun i G => Same H G ∧ LsAt G L (wo (P.take i) x)) ⟨same_upd hL, .nil upd_same⟩ (fun i G _ hh => (p1.same hh.1).sq) ?_ ?_⟩
    · rintro i v G hv ⟨s1, l1⟩
      obtain ⟨u, hu, rfl⟩ := get_pl hv
      have hk : P[i]? = some u.2 := by rw [p2, List.getElem?_map, hu]; rfl
      have mu : u.2 ∈ P := List.mem_of_getElem? hk
      have eu := s1 _ _ (p3 u (List.mem_of_getElem? hu))
      have es : wo (P.take (i + 1)) x = wo (P.take i) x ++ if (!decide (u.2 = x)) = true then [u.2] else [] := by
        unfold wo
        rw [take_snoc hk, filter_snoc]
      refine ⟨rfl, _, rfl, _, rfl, pp u.2, pp x, pp_dp eu, pp_dp (s1 _ _ eq), pp_shaped (nm _ mu), pp_shaped nx, _, rfl, ?_⟩
      rw [eqv_pp]
      refine ite2 (fun c => ?_) (fun c => ?_)
      · obtain ⟨acc, a1, a2, a3⟩ := l1.snoc (t := u.1) eu
        refine ⟨_, rfl, acc, a1, ?_, same_put s1 hL, ?_⟩
        · have : (wo (P.take i) x).length ≤ (P.take i).length := List.length_filter_le _ _
          rw [List.length_take] at this
          rw [a2]
          exact small1000 (by omega)
        · rw [es, if_pos c]
          exact a3
      · rw [es, if_neg c, List.append_nil]
        exact ⟨s1, l1⟩
    · rintro G ⟨s1, l1⟩
      rw [List.length_map, show ps.length = P.length by rw [p2, List.length_map], List.take_length] at l1
      obtain ⟨ys, y1, y2⟩ := l1.plain
      exact ⟨L, ys, rfl, .inl ⟨SqL.of y1, fun t ht => done _ t (s1.trans (same_upd ht)) (y2 t ht)⟩⟩
abbrev nAfL : List Str := ["state", "name", "house", "placement", "target", "pair", "wanted"]
theorem scAfL : FnScope nAfL ["state", "name"] (defScope sAfterLeave) := ⟨rfl, rfl, rfl, by decide +kernel, rfl, by decide +kernel, by decide +kernel⟩
abbrev pAfL : List Str := ["state", "name"]
theorem g_at {n : Int} {D : List (Int × Int)} {P G : List (Str × Int)} (s : St1 n D P G) {nm : Str} {c : Int} (m : (nm, c) ∈ P) : ∃ t, (nm, t) ∈ G := by
  obtain ⟨y, hy, ey⟩ := List.mem_map.mp (show nm ∈ G.map (·.1) by rw [s.e]; exact List.mem_map_of_mem (f := (·.1)) m)
  exact ⟨y.2, by rw [← ey]; exact hy⟩
/-- a person leaves -/
def spAfL (K : PySem.W.Frag) (CU : Addr) : Sp := fun vs H Q E => ∃ (t : Addr) (n : Int) (D : List (Int × Int)) (P G : List (Str × Int)) (v : V) (d : PyData), vs = [.ref t, v] ∧ StAt H t n D P G ∧ St1 n D P G ∧ Dx K [] H v d ∧
  (∀ nm c g, v = .str nm → (nm, c) ∈ P → (nm, g) ∈ G → ∀ H' u, Same H H' → StAt H' u n D (wo P (nm, c)) (wo G (nm, g)) → Q (.ref u) H') ∧
  ((∀ x ∈ P, strIs x.1 d = false) → ∀ x H', Same H H' → H' x = some (.xd [("name", v)]) → E (.ref CU) (some x) H')
theorem ok_afl {f : Addr} {fd : FuncData} {k : Nat} {CU : Addr} (F : Fun K "after_leave" "after_leave" sAfterLeave f fd) (T : Nm mg) (Croom_of : CalX P w K mg base k "room_of" pRoomOf (spRoomAny K CU)) (Cwithout : Cal P w K mg base k "without" pWout spWout) : FnOk P w K mg base (L2.CX P w) (k + 1) f fd pAfL (spAfL K CU) := by
  refine F.okX scAfL (fun vs H Q E h => ?_) (fun cdv A outer s H vs Q E hr h => ?_)
  · obtain ⟨t, n, D, P, G, v, d, rfl, _⟩ := h
    rfl
  · obtain ⟨t, n, D, P, G, v, d, rfl, st, s1, hv, q0, q1⟩ := h
    refine ⟨_, (pss_cons (ps_asg (pv 0) (pg_tup (by rfl) (pgs_cons (pg_name (i := 2) scAfL.nd rfl (.inl rfl)) (pgs_cons (pg_name (i := 3) scAfL.nd rfl (.inl rfl)) (pgs_cons (pg_name (i := 4) scAfL.nd rfl (.inl rfl)) pgs_nil)))))
      (pss_cons (ps_set (i := 5) scAfL.nd rfl (.inl rfl) (pe_tup (pa_cons (pv 1) (pa_cons (pe_calX Croom_of (takes_of rfl rfl rfl rfl) hr (by rfl) (pa_cons (pv 3) (pa_cons (pv 1) pa_nil))) pa_nil))))
      (pss_cons (ps_set (i := 6) scAfL.nd rfl (.inl rfl) (pe_tup (pa_cons (pv 1) (pa_cons (pe_calX Croom_of (takes_of rfl rfl rfl rfl) hr (by rfl) (pa_cons (pv 4) (pa_cons (pv 1) pa_nil))) pa_nil))))
      (pss_one (ps_ret (pe_tup (pa_cons (pv 2) (pa_cons (pe_cal Cwithout hr (by rfl) (pa_cons (pv 3) (pa_cons (pv 5) pa_nil))) (pa_cons (pe_cal Cwithout hr (by rfl) (pa_cons (pv 4) (pa_cons (pv 6) pa_nil))) pa_nil))))))))), ?_⟩
    obtain ⟨h, p, g, et, hH, hP, hG⟩ := st
    refine ⟨_, rfl, t, _, rfl, SqT.of et, rfl, _, _, rfl, _, _, rfl, _, _, rfl, rfl, ?_⟩
    dsimp only [gName]
    refine ⟨_, rfl, _, rfl, _, rfl, p, P, v, d, rfl, hP, hv, fun nm c ev hm => ?_, q1⟩
    subst ev
    obtain ⟨tg, hg⟩ := g_at s1 hm
    refine ⟨by show 2 ≤ sizeLine; decide, fun a1 f1 => ?_⟩
    have u1 := same_upd (o := .tup [.str nm, .int c]) f1
    have b1 : (upd H a1 (.tup [.str nm, .int c])) a1 = some (.tup [.str nm, .int c]) := upd_same
    generalize upd H a1 (.tup [.str nm, .int c]) = H1 at *
    have hv1 : Dx K [] H1 (.str nm) d := by
      cases hv
      exact .str _
    refine ⟨_, rfl, _, rfl, _, rfl, g, G, _, _, rfl, hG.same u1, hv1, fun nm' c' ev hm' => ?_, fun no => ?_⟩
    · cases ev
      obtain rfl : tg = c' := congrArg Prod.snd (key_uniq s1.g.nodup hg hm' rfl)
      refine ⟨by show 2 ≤ sizeLine; decide, fun a2 f2 => ?_⟩
      have u2 := same_upd (o := .tup [.str nm, .int tg]) f2
      have b2 : (upd H1 a2 (.tup [.str nm, .int tg])) a2 = some (.tup [.str nm, .int tg]) := upd_same
      replace b1 := u2 _ _ b1
      replace u2 := u1.trans u2
      generalize upd H1 a2 (.tup [.str nm, .int tg]) = H2 at *
      refine ⟨_, rfl, _, rfl, _, rfl, p, a1, P, (nm, c), rfl, hP.same u2, s1.l, s1.p.nams, b1, s1.p.nams _ hm, fun H3 w1 s3 hw1 => ?_⟩
      have lG : G.length ≤ 100 := by
        have := congrArg List.length s1.e
        rw [List.length_map, List.length_map] at this
        rw [this]
        exact s1.l
      have u3 := u2.trans s3
      refine ⟨_, rfl, _, rfl, g, a2, G, (nm, tg), rfl, hG.same u3, lG, s1.g.nams, s3 _ _ b2, s1.g.nams _ hg, fun H4 w2 s4 hw2 => ⟨by show 3 ≤ sizeLine; decide, fun w3 f3 => ?_⟩⟩
      have s5 := s4.trans (same_upd (o := .tup [.ref h, .ref w1, .ref w2]) f3)
      have u5 := u3.trans s5
      exact q0 nm c tg rfl hm hg _ w3 u5 ⟨h, w1, w2, upd_same, hH.same u5, hw1.same s5, hw2.same (same_upd f3)⟩
    · have := no (nm, tg) hg
      cases hv
      have y : strIs nm (.str nm) = true := BEq.rfl
      rw [y] at this
      cases this
abbrev nRNR : List Str := ["house", "room"]
theorem scRNR : FnScope nRNR ["house", "room"] (defScope sRefuseNoRoom) := ⟨rfl, rfl, rfl, by decide +kernel, rfl, by decide +kernel, by decide +kernel⟩
/-- InvalidRoom unless the value is a room's number -/
def spRNR (K : PySem.W.Frag) (CI : Addr) : Sp := fun vs H Q E => ∃ (h : Addr) (n : Int) (D : List (Int × Int)) (w : V) (e : PyData), vs = [.ref h, w] ∧ HouseAt H h n D ∧ Dx K [] H w e ∧ (isRm n e = true → Q .non H) ∧ (isRm n e = false → ∀ x H', Same H H' → H' x = some (.xd [("room", w)]) → E (.ref CI) (some x) H')
theorem ok_rnr {f : Addr} {fd : FuncData} {k : Nat} {E0 CI : Addr} (F : Fun K "refuse_no_room" "refuse_no_room" sRefuseNoRoom f fd) (Cis_room : Cal P w K mg base (k + 3) "is_room" pIsRoom (spIsRoomA K)) (RI : ErR P w K mg base "InvalidRoom" "room" E0 CI) : FnOk P w K mg base (L2.CX P w) (k + 4) f fd ["house", "room"] (spRNR K CI) := by
  refine F.okX scRNR (fun vs H Q E h => ?_) (fun cdv A outer s H vs Q E hr h => ?_)
  · obtain ⟨h, n, D, w, e, rfl, _⟩ := h
    rfl
  · obtain ⟨h, n, D, w, e, rfl, hH, hw, q0, q1⟩ := h
    refine ⟨_, (pss_one (ps_if (pt_not (pt_val (pe_cal Cis_room hr (by rfl) (pa_cons (pv 0) (pa_cons (pv 1) pa_nil)))))
      (pss_one (ps_raise rfl (takes_of rfl rfl rfl rfl) (pmk_er RI hr (by rfl) (pv 1))))
      pss_nil)), ?_⟩
    refine ⟨_, rfl, _, rfl, h, n, D, w, e, rfl, hH, hw, _, rfl, ?_⟩
    cases er : isRm n e with
    | false => exact iteT ⟨_, rfl, raise_end fun x H' s' e' => q1 er x H' s' e'⟩
    | true => exact iteF (q0 er)
abbrev nAfT : List Str := ["state", "name", "room", "house", "placement", "target"]
theorem scAfT : FnScope nAfT ["state", "name", "room"] (defScope sAfterSetTarget) := ⟨rfl, rfl, rfl, by decide +kernel, rfl, by decide +kernel, by decide +kernel⟩
/-- a target room changes -/
def spAfT (K : PySem.W.Frag) (CU CI : Addr) : Sp := fun vs H Q E => ∃ (t : Addr) (n : Int) (D : List (Int × Int)) (P G : List (Str × Int)) (v : V) (d : PyData) (w : V) (e : PyData), vs = [.ref t, v, w] ∧ StAt H t n D P G ∧ St1 n D P G ∧ Dx K [] H v d ∧ Dx K [] H w e ∧
  (∀ nm r, v = .str nm → nm ∈ P.map (·.1) → w = .int r → 0 ≤ r → r < n → ∀ H' u, Same H H' → StAt H' u n D P (mvd G nm r) → Q (.ref u) H') ∧
  ((∀ x ∈ P, strIs x.1 d = false) → ∀ x H', Same H H' → H' x = some (.xd [("name", v)]) → E (.ref CU) (some x) H') ∧
  (∀ nm, v = .str nm → nm ∈ P.map (·.1) → isRm n e = false → ∀ x H', Same H H' → H' x = some (.xd [("room", w)]) → E (.ref CI) (some x) H')
theorem ok_aft {f : Addr} {fd : FuncData} {k : Nat} {CU CI : Addr} (F : Fun K "after_set_target" "after_set_target" sAfterSetTarget f fd) (T : Nm mg) (Croom_of : CalX P w K mg base k "room_of" pRoomOf (spRoomAny K CU)) (Crefuse_no_room : CalX P w K mg base k "refuse_no_room" ["house", "room"] (spRNR K CI)) (Cwith_person_in : Cal P w K mg base k "with_person_in" pWith spWith) : FnOk P w K mg base (L2.CX P w) (k + 1) f fd pAfM (spAfT K CU CI) := by
  refine F.okX scAfT (fun vs H Q E h => ?_) (fun cdv A outer s H vs Q E hr h => ?_)
  · obtain ⟨t, n, D, P, G, v, d, w, e, rfl, _⟩ := h
    rfl
  · obtain ⟨t, n, D, P, G, v, d, w, e, rfl, st, s1, hv, hw, q0, q1, q2⟩ := h
    refine ⟨_, (pss_cons (ps_asg (pv 0) (pg_tup (by rfl) (pgs_cons (pg_name (i := 3) scAfT.nd rfl (.inl rfl)) (pgs_cons (pg_name (i := 4) scAfT.nd rfl (.inl rfl)) (pgs_cons (pg_name (i := 5) scAfT.nd rfl (.inl rfl)) pgs_nil)))))
      (pss_cons (ps_expr (pe_calX Croom_of (takes_of rfl rfl rfl rfl) hr (by rfl) (pa_cons (pv 4) (pa_cons (pv 1) pa_nil))))
      (pss_cons (ps_expr (pe_calX Crefuse_no_room (takes_of rfl rfl rfl rfl) hr (by rfl) (pa_cons (pv 3) (pa_cons (pv 2) pa_nil))))
      (pss_one (ps_ret (pe_tup (pa_cons (pv 3) (pa_cons (pv 4) (pa_cons (pe_cal Cwith_person_in hr (by rfl) (pa_cons (pv 5) (pa_cons (pv 1) (pa_cons (pv 2) pa_nil)))) pa_nil))))))))), ?_⟩
    obtain ⟨h, p, g, et, hH, hP, hG⟩ := st
    refine ⟨_, rfl, t, _, rfl, SqT.of et, rfl, _, _, rfl, _, _, rfl, _, _, rfl, rfl, ?_⟩
    dsimp only [gName]
    refine ⟨_, rfl, _, rfl, p, P, v, d, rfl, hP, hv, fun nm c ev hm => ?_, q1⟩
    have mn : nm ∈ P.map (·.1) := List.mem_map_of_mem (f := (·.1)) hm
    refine ⟨_, rfl, _, rfl, h, n, D, w, e, rfl, hH, hw, fun er => ?_, fun er => q2 nm ev mn er⟩
    have ir : ∃ r : Int, w = .int r ∧ 0 ≤ r ∧ r < n := by
      cases hw <;> first | (cases er; done) | exact ⟨_, rfl, of_decide_eq_true er⟩
    obtain ⟨r, rfl, r0, r1⟩ := ir
    subst ev
    have lG : G.length ≤ 100 := by
      have := congrArg List.length s1.e
      rw [List.length_map, List.length_map] at this
      rw [this]
      exact s1.l
    refine ⟨_, rfl, _, rfl, _, rfl, _, rfl, _, rfl, g, G, nm, r, rfl, hG, lG, fun H1 u s' hu => ⟨by show 3 ≤ sizeLine; decide, fun t' f' => ?_⟩⟩
    have s2 := s'.trans (same_upd (o := .tup [.ref h, .ref p, .ref u]) f')
    exact q0 nm r rfl mn rfl r0 r1 _ t' s2 ⟨h, p, u, upd_same, hH.same s2, hP.same s2, (hu.same (same_upd f')).pl⟩
abbrev nWMore : List Str := ["pairs", "pair"]
theorem scWMore : FnScope nWMore ["pairs", "pair"] (defScope sWithMore) := ⟨rfl, rfl, rfl, by decide +kernel, rfl, by decide +kernel, by decide +kernel⟩
/-- one pair more, in its place -/
def Mor (P : List (Str × Int)) (x : Str × Int) (P' : List (Str × Int)) : Prop := P'.Perm (P ++ [x]) ∧ P'.Pairwise (fun a b => a.1 ≠ b.1 → ltS a.1 b.1)
def spWMore : Sp := fun vs H Q _ => ∃ (p q : Addr) (P : List (Str × Int)) (x : Str × Int), vs = [.ref p, .ref q] ∧ PlAt H p P ∧ P.length ≤ 100 ∧ H q = some (.tup [.str x.1, .int x.2]) ∧
  ∀ H' u P', Same H H' → PlAt H' u P' → Mor P x P' → Q (.ref u) H'
theorem ok_wmore {f : Addr} {fd : FuncData} {k : Nat} (F : Fun K "with_more" "with_more" sWithMore f fd) (T : Nm mg) : FnOk P w K mg base CX0 (k + 1) f fd pWout spWMore := by
  refine F.ok scWMore (fun vs H Q E h => ?_) (fun cdv A outer s H vs Q E hr h => ?_)
  · obtain ⟨p, q, P, x, rfl, _⟩ := h
    rfl
  · obtain ⟨p, q, P, x, rfl, hP, lP, eq, done⟩ := h
    refine ⟨_, (pss_one (ps_ret (pe_callTy (call_tupleK K rfl) (by rfl) T.tuple (by decide +kernel) (pa_cons (pe_callB (cr_sortedDat K rfl hr.units) (by rfl) T.sorted (by decide +kernel) (pa_cons (pe_lst (StX.pa_star (pv 0) (pa_cons (pv 1) pa_nil))) pa_nil)) pa_nil)))), ?_⟩
    obtain ⟨ps, p1, p2, p3⟩ := id hP
    have ln : ps.length = P.length := by rw [p2, List.length_map]
    refine ⟨_, rfl, p, _, rfl, .inl p1.sq, _, rfl, ?_, fun l hl => ?_⟩
    · rw [List.length_append, List.length_map, List.length_singleton]
      exact Nat.le_of_lt (small1000 (by omega))
    dsimp only [tNil]
    refine sort_pl (K := K) (c := l) (ps := ps ++ [(q, x.1, x.2)]) (.inl (SqL.of ?_)) (fun y hy => ?_) fun s qs hs pm so => ?_
    · rw [upd_same, List.map_append]
      rfl
    · refine same_upd hl _ _ ?_
      rcases List.mem_append.mp hy with hy | hy
      · exact p3 y hy
      · rw [List.mem_singleton.mp hy]
        exact eq
    · have s1 := (same_upd (o := .lst (ps.map (fun y => V.ref y.1) ++ [V.ref q])) hl).trans (same_upd (o := .lst (qs.map fun y => V.ref y.1)) hs)
      refine ⟨s, _, rfl, .inl ⟨SqL.of upd_same, fun u hu => done _ u (qs.map (·.2)) (s1.trans (same_upd hu)) ⟨qs, .inl upd_same, rfl, fun y hy => same_upd hu _ _ (s1 _ _ ?_)⟩ ⟨?_, ?_⟩⟩⟩
      · rcases List.mem_append.mp (pm.mem_iff.mp hy) with hy | hy
        · exact p3 y hy
        · rw [List.mem_singleton.mp hy]
          exact eq
      · have := pm.map (·.2)
        rw [List.map_append, ← p2] at this
        exact this
      · rw [List.pairwise_map]
        exact so
abbrev nAfE : List Str := ["state", "name", "room", "house", "placement", "target"]
theorem scAfE : FnScope nAfE ["state", "name", "room"] (defScope sAfterEnter) := ⟨rfl, rfl, rfl, by decide +kernel, rfl, by decide +kernel, by decide +kernel⟩
/-- a new person enters -/
def spAfE (K : PySem.W.Frag) (CN CD CI CE CL : Addr) : Sp := fun vs H Q E => ∃ (t : Addr) (n : Int) (D : List (Int × Int)) (P G : List (Str × Int)) (v : V) (d : PyData) (w : V) (e : PyData) (b k N : Nat), vs = [.ref t, v, w] ∧ StAt H t n D P G ∧ St1 n D P G ∧ Dx K [] H v d ∧ Gd b k N d ∧ N ≤ 100000 ∧ (∀ H', Same H H' → Dx K [] H' w e) ∧
  (∀ nm r, v = .str nm → Nam nm → nm ∉ P.map (·.1) → w = .int r → r ∈ P.map (·.2) → P.length < 12 → ∀ H' u P' G', Same H H' → StAt H' u n D P' G' → Mor P (nm, r) P' → Mor G (nm, r) G' → Q (.ref u) H') ∧
  (nmD d = false → ∀ x H', Same H H' → H' x = some (.xd [("name", v)]) → E (.ref CN) (some x) H') ∧
  (∀ nm, v = .str nm → Nam nm → nm ∈ P.map (·.1) → ∀ x H', Same H H' → H' x = some (.xd [("name", v)]) → E (.ref CD) (some x) H') ∧
  (∀ nm, v = .str nm → Nam nm → nm ∉ P.map (·.1) → isRm n e = false → ∀ x H', Same H H' → H' x = some (.xd [("room", w)]) → E (.ref CI) (some x) H') ∧
  (∀ nm r, v = .str nm → Nam nm → nm ∉ P.map (·.1) → w = .int r → 0 ≤ r → r < n → r ∉ P.map (·.2) → ∀ x H', Same H H' → H' x = some (.xd [("room", w)]) → E (.ref CE) (some x) H') ∧
  (∀ nm r, v = .str nm → Nam nm → nm ∉ P.map (·.1) → w = .int r → r ∈ P.map (·.2) → 12 ≤ P.length → ∀ x H', Same H H' → H' x = some (.xd [("limit", .int 12)]) → E (.ref CL) (some x) H')
theorem ok_afe {f : Addr} {fd : FuncData} {k : Nat} {E0 E1 E2 E3 CN CD CI CE CL : Addr} {tk : Tok} (F : Fun K "after_enter" "after_enter" sAfterEnter f fd) (T : Nm mg) (M : mg "MAX_PEOPLE" = some (.int 12 tk)) (Cis_name : Cal P w K mg base (k + 3) "is_name" pIsInt (spIsNameA K)) (Cnames_of : Cal P w K mg base (k + 3) "names_of" pNamesOf spNamesOf) (Crefuse_no_room : CalX P w K mg base (k + 3) "refuse_no_room" ["house", "room"] (spRNR K CI)) (Cpeople_in : Cal P w K mg base (k + 3) "people_in" pPIn spPIn) (Cwith_more : Cal P w K mg base (k + 3) "with_more" pWout spWMore)
    (RN : ErR P w K mg base "InvalidName" "name" E0 CN) (RD : ErR P w K mg base "DuplicateName" "name" E1 CD) (RE : ErR P w K mg base "EmptyRoom" "room" E2 CE) (RL : ErR P w K mg base "LimitReached" "limit" E3 CL) : FnOk P w K mg base (L2.CX P w) (k + 4) f fd pAfM (spAfE K CN CD CI CE CL) := by
  refine F.okX scAfE (fun vs H Q E h => ?_) (fun cdv A outer s H vs Q E hr h => ?_)
  · obtain ⟨t, n, D, P, G, v, d, w, e, b, k', N, rfl, _⟩ := h
    rfl
  · obtain ⟨t, n, D, P, G, v, d, w, e, b, k', N, rfl, st, s1, hv, gd, gn, hw, q0, q1, q2, q3, q4, q5⟩ := h
    refine ⟨_, (pss_cons (ps_asg (pv 0) (pg_tup (by rfl) (pgs_cons (pg_name (i := 3) scAfE.nd rfl (.inl rfl)) (pgs_cons (pg_name (i := 4) scAfE.nd rfl (.inl rfl)) (pgs_cons (pg_name (i := 5) scAfE.nd rfl (.inl rfl)) pgs_nil)))))
      (pss_cons (ps_if (pt_not (pt_val (pe_cal Cis_name hr (by rfl) (pa_cons (pv 1) pa_nil))))
      (pss_one (ps_raise rfl (takes_of rfl rfl rfl rfl) (pmk_er RN hr (by rfl) (pv 1))))
      pss_nil)
      (pss_cons (ps_if (pt_cmpR (op_inK K rfl) (pv 1) (pe_cal Cnames_of hr (by rfl) (pa_cons (pv 4) pa_nil)) (by rfl))
      (pss_one (ps_raise rfl (takes_of rfl rfl rfl rfl) (pmk_er RD hr (by rfl) (pv 1))))
      pss_nil)
      (pss_cons (ps_expr (pe_calX Crefuse_no_room (takes_of rfl rfl rfl rfl) hr (by rfl) (pa_cons (pv 3) (pa_cons (pv 2) pa_nil))))
      (pss_cons (ps_if (pt_not (pt_truthK K rfl (pe_cal Cpeople_in hr (by rfl) (pa_cons (pv 4) (pa_cons (pv 2) pa_nil))) (by intro _; rfl)))
      (pss_one (ps_raise rfl (takes_of rfl rfl rfl rfl) (pmk_er RE hr (by rfl) (pv 2))))
      pss_nil)
      (pss_cons (ps_if (pt_cmpR op_ge (pe_callB (call_lenK K rfl) (by rfl) T.len (by decide +kernel) (pa_cons (pv 4) pa_nil)) (pe_glob (v := .int 12) (by rfl) M ⟨_, rfl⟩) (nomark _))
      (pss_one (ps_raise rfl (takes_of rfl rfl rfl rfl) (pmk_er RL hr (by rfl) (pe_glob (v := .int 12) (by rfl) M ⟨_, rfl⟩))))
      pss_nil)
      (pss_one (ps_ret (pe_tup (pa_cons (pv 3) (pa_cons (pe_cal Cwith_more hr (by rfl) (pa_cons (pv 4) (pa_cons (pe_tup (pa_cons (pv 1) (pa_cons (pv 2) pa_nil))) pa_nil))) (pa_cons (pe_cal Cwith_more hr (by rfl) (pa_cons (pv 5) (pa_cons (pe_tup (pa_cons (pv 1) (pa_cons (pv 2) pa_nil))) pa_nil))) pa_nil)))))))))))), ?_⟩
    obtain ⟨h, p, g, et, hH, hP, hG⟩ := st
    refine ⟨_, rfl, t, _, rfl, SqT.of et, rfl, _, _, rfl, _, _, rfl, _, _, rfl, rfl, ?_⟩
    dsimp only [gName]
    refine ⟨_, rfl, v, d, b, k', N, rfl, hv, gd, gn, fun H1 u1 => ⟨_, rfl, ?_⟩⟩
    cases en : nmD d with
    | false => exact iteT ⟨_, rfl, raise_end fun x H' s' e' => q1 en x H' (u1.trans s') e'⟩
    | true =>
      obtain ⟨nm, rfl, hn⟩ : ∃ nm, v = .str nm ∧ Nam nm := by
        cases hv <;> first | (cases en; done) | exact ⟨_, rfl, nam_of en⟩
      refine iteF ⟨_, rfl, _, rfl, p, P, rfl, hP.same u1, s1.l, fun H2 tn u2 e2 => ⟨tn, _, rfl, .inr (SqT.of e2), rfl, flat_ss _, _, rfl, ?_⟩⟩
      rw [inV_ss]
      by_cases mn : nm ∈ P.map (·.1)
      · rw [decide_eq_true mn]
        exact iteT ⟨_, rfl, raise_end fun x H' s' e' => q2 nm rfl hn mn x H' ((u1.trans u2).trans s') e'⟩
      rw [decide_eq_false mn]
      have u12 := u1.trans u2
      refine iteF ⟨_, rfl, _, rfl, h, n, D, w, e, rfl, hH.same u12, hw _ u12, fun er => ?_, fun er x H' s' e' => q3 nm rfl hn mn er x H' (u12.trans s') e'⟩
      have ir : ∃ r : Int, w = .int r ∧ 0 ≤ r ∧ r < n := by
        have hw0 := hw _ u12
        cases hw0 <;> first | (cases er; done) | exact ⟨_, rfl, of_decide_eq_true er⟩
      obtain ⟨r, rfl, r0, r1⟩ := ir
      refine ⟨_, rfl, _, rfl, p, P, r, rfl, hP.same u12, s1.l, fun H3 tu u3 e3 => ⟨_, .inr (.inl ⟨_, SqT.of e3, rfl⟩), ?_⟩⟩
      have em : ((inside P [r]).map V.str).isEmpty = !decide (r ∈ P.map (·.2)) := by
        rw [Bool.eq_iff_iff, List.isEmpty_iff, List.map_eq_nil_iff, inside_nil, Bool.not_eq_true', decide_eq_false_iff_not]
        constructor
        · intro z m
          obtain ⟨y, hy, ey⟩ := List.mem_map.mp m
          exact z y hy (List.mem_singleton.mpr ey)
        · intro z x hx m
          exact z (List.mem_map.mpr ⟨x, hx, List.mem_singleton.mp m⟩)
      rw [em]
      have u13 := u12.trans u3
      by_cases mr : ¬ r ∈ P.map (·.2)
      · rw [decide_eq_false mr]
        exact iteT ⟨_, rfl, raise_end fun x H' s' e' => q4 nm r rfl hn mn rfl r0 r1 mr x H' (u13.trans s') e'⟩
      have mr := Decidable.not_not.mp mr
      rw [decide_eq_true mr]
      obtain ⟨ps, p1, p2, p3⟩ := id hP
      have ln : ps.length = P.length := by rw [p2, List.length_map]
      refine iteF ⟨_, rfl, p, _, rfl, .inr (p1.same u13).sq, _, _, rfl, rfl, _, rfl, ?_⟩
      rw [List.length_map, ln]
      refine ite2 (fun c => ?_) (fun c => ?_)
      · have c : (12 : Int) ≤ (P.length : Nat) := by simpa using c
        exact raise_end fun x H' s' e' => q5 nm r rfl hn mn rfl mr (by omega) x H' (u13.trans s') e'
      have c : ¬ (12 : Int) ≤ (P.length : Nat) := fun z => c (decide_eq_true z)
      have lG : G.length ≤ 100 := by
        have := congrArg List.length s1.e
        rw [List.length_map, List.length_map] at this
        rw [this]
        exact s1.l
      refine ⟨_, rfl, _, rfl, _, rfl, _, rfl, by show 2 ≤ sizeLine; decide, fun q f1 => ?_⟩
      have u14 := u13.trans (same_upd (o := .tup [.str nm, .int r]) f1)
      have eq : (upd H3 q (.tup [.str nm, .int r])) q = some (.tup [.str nm, .int r]) := upd_same
      generalize upd H3 q (.tup [.str nm, .int r]) = H4 at *
      refine ⟨p, q, P, (nm, r), rfl, hP.same u14, s1.l, eq, fun H5 w1 P1 u5 hw1 m1 => ?_⟩
      have u15 := u14.trans u5
      refine ⟨_, rfl, _, rfl, _, rfl, by show 2 ≤ sizeLine; decide, fun q' f2 => ?_⟩
      have v2 := same_upd (o := .tup [.str nm, .int r]) f2
      have eq' : (upd H5 q' (.tup [.str nm, .int r])) q' = some (.tup [.str nm, .int r]) := upd_same
      replace hw1 := hw1.same v2
      replace u15 := u15.trans v2
      generalize upd H5 q' (.tup [.str nm, .int r]) = H6 at *
      refine ⟨g, q', G, (nm, r), rfl, hG.same u15, lG, eq', fun H7 w2 G1 u7 hw2 m2 => ⟨by show 3 ≤ sizeLine; decide, fun w3 f3 => ?_⟩⟩
      have s8 := u7.trans (same_upd (o := .tup [.ref h, .ref w1, .ref w2]) f3)
      have u18 := u15.trans s8
      exact q0 nm r rfl hn mn rfl mr (by omega) _ w3 P1 G1 u18 ⟨h, w1, w2, upd_same, hH.same u18, hw1.same s8, hw2.same (same_upd f3)⟩ m1 m2
end
end Fw
set_option maxHeartbeats 4000000
namespace Fw
open PySem PySem.Spec PyProof.Rows L2
/-! an action, from state to state -/
section
variable {P : Program} {w : World} {K : PySem.W.Frag} {mg : Str → Option Value} {base : Heap}
abbrev nStAf : List Str := ["state", "action", "word", "arguments", "change"]
theorem scStAf : FnScope nStAf ["state", "action"] (defScope sStateAfter) := ⟨rfl, rfl, rfl, by decide +kernel, rfl, by decide +kernel, by decide +kernel⟩
abbrev pStAf : List Str := ["state", "action"]
/-- CHANGES stands at d -/
def spStAf (P : Program) (w : World) (K : PySem.W.Frag) (mg : Str → Option Value) (base : Heap) (k : Nat) (d : Addr) : Sp := fun vs H Q E => ∃ (st ac : Addr) (wd : Str) (args : List V) (tp f : Addr) (c : Int) (sp : Sp), vs = [.ref st, .ref ac] ∧ SqT K H ac (.str wd :: args) ∧
  PySem.W.nsIn K d wd = some (some (.ref tp)) ∧ (∀ H', SqT K H' tp [.ref f, .int c]) ∧ KnX P w K mg base (L2.CX P w) k f sp ∧ ∀ H', Same H H' → sp (.ref st :: args) H' Q E
theorem ok_staf {f : Addr} {fd : FuncData} {k : Nat} {d : Addr} {en : Array DictEntry} {m : Nat} (F : Fun K "state_after" "state_after" sStateAfter f fd) (M : mg "CHANGES" = some (.ref d)) (D : KDict K w d en m) : FnOk P w K mg base (L2.CX P w) (k + 1) f fd pStAf (spStAf P w K mg base k d) := by
  refine F.okX scStAf (fun vs H Q E h => ?_) (fun cdv A outer s H vs Q E hr h => ?_)
  · obtain ⟨st, ac, wd, args, tp, g, c, sp, rfl, _⟩ := h
    rfl
  · obtain ⟨st, ac, wd, args, tp, g, c, sp, rfl, ha, ed, et, G, q⟩ := h
    refine ⟨_, (pss_cons (ps_asg (pv 1) (pg_star1 rfl (pg_name (i := 2) scStAf.nd rfl (.inl rfl)) (pg_name (i := 3) scStAf.nd rfl (.inl rfl))))
      (pss_cons (ps_set (i := 4) scStAf.nd rfl (.inl rfl) (pe_ix (ix_tupK K rfl) (pe_ix (ix_kd D) (pe_glob (v := .ref d) (by rfl) M rfl) (pv 2) (fun _ _ => rfl)) pe_int (fun _ _ => rfl)))
      (pss_one (ps_ret (pe_callA2 (i := 4) hr rfl (.inl rfl) (fun σ => passAt (takes_of rfl rfl rfl rfl) σ) (pa_cons (pv 0) (StX.pa_star (pv 3) pa_nil))))))), ?_⟩
    refine ⟨_, rfl, ac, .str wd, args, rfl, ha, fun l hl => ?_⟩
    dsimp only [gName]
    have s1 := same_upd (o := .lst args) hl
    have el : (upd H l (.lst args)) l = some (.lst args) := upd_same
    generalize upd H l (.lst args) = H1 at *
    refine ⟨_, rfl, wd, .ref tp, .ref tp, rfl, rfl, ed, rfl, tp, _, 0, _, rfl, rfl, et H1, atI0, ?_⟩
    refine ⟨g, sp, rfl, G, _, rfl, _, rfl, l, args, rfl, .inr (SqL.of el), ?_⟩
    dsimp only [tNil]
    rw [List.append_nil]
    exact q H1 s1
end
end Fw
set_option maxHeartbeats 4000000
namespace Fw
open PySem PySem.Spec PyProof.Rows L2
/-! the methods of a session -/
/-- what is known of the class -/
structure SesK (K : PySem.W.Frag) (mg : Str → Option Value) (C : Addr) : Prop where
  cl : Cls K C
  g : mg "Session" = some (.ref C)
  ns : NoAttr K C "states"
  nd : NoAttr K C "done"
  nr : NoAttr K C "rows"
  nb : NoAttr K C "busy"
abbrev sesF (x y z : V) (b : Bool) : List (Str × V) := [("states", x), ("done", y), ("rows", z), ("busy", .bl b)]
/-- a session in memory: its states and its actions -/
def SesAt (K : PySem.W.Frag) (H : Hp) (C s : Addr) (xs ys : List V) (b : Bool) : Prop := ∃ dx ts td tr, H s = some (.ins C dx (sesF (.ref ts) (.ref td) (.ref tr) b)) ∧ SqT K H ts xs ∧ SqT K H td ys
theorem SesAt.same {K : PySem.W.Frag} {H H' : Hp} {C s : Addr} {xs ys : List V} {b : Bool} (x : SesAt K H C s xs ys b) (u : Same H H') : SesAt K H' C s xs ys b := by
  obtain ⟨dx, ts, td, tr, e, e1, e2⟩ := x
  exact ⟨dx, ts, td, tr, u _ _ e, Same.sqT u e1, Same.sqT u e2⟩
/-- a caller's promise is this body's -/
theorem passM {X : Cx} {E : XK} (tk : Takes X (fun cls d _ H => E cls d H)) : Passes (L2.CX X.prog X.w) X E := fun pins σ H s e s' I c => passAt tk σ pins H s e s' I c
section
variable {P : Program} {w : World} {K : PySem.W.Frag} {mg : Str → Option Value} {base : Heap}
abbrev nSeAc : List Str := ["self"]
theorem scSeAc : FnScope nSeAc ["self"] (defScope iSession_actions) := ⟨rfl, rfl, rfl, by decide +kernel, rfl, by decide +kernel, by decide +kernel⟩
def spSeAc (K : PySem.W.Frag) (C : Addr) : Sp := fun vs H Q _ => ∃ (s : Addr) (xs ys : List V) (b : Bool), vs = [.ref s] ∧ SesAt K H C s xs ys b ∧ ∀ t, SqT K H t ys → Q (.ref t) H
theorem ok_seac {f C : Addr} {fd : FuncData} {k : Nat} (F : Fun K "actions" "Session.actions" iSession_actions f fd) (Z : SesK K mg C) : FnOk P w K mg base CX0 (k + 1) f fd ["self"] (spSeAc K C) := by
  refine F.ok scSeAc (fun vs H Q E h => ?_) (fun cdv A outer s H vs Q E hr h => ?_)
  · obtain ⟨s, xs, ys, b, rfl, _⟩ := h
    rfl
  · obtain ⟨s, xs, ys, b, rfl, ⟨dx, ts, td, tr, e, e1, e2⟩, q⟩ := h
    refine ⟨_, (pss_one (ps_ret (pe_fld (pv 0) rfl))), ?_⟩
    exact ⟨_, rfl, s, C, dx, _, .ref td, rfl, e, Z.cl, Z.nd, rfl, q td e2⟩
abbrev nSeLn : List Str := ["self"]
theorem scSeLn : FnScope nSeLn ["self"] (defScope iSession___len__) := ⟨rfl, rfl, rfl, by decide +kernel, rfl, by decide +kernel, by decide +kernel⟩
def spSeLn (K : PySem.W.Frag) (C : Addr) : Sp := fun vs H Q _ => ∃ (s : Addr) (xs ys : List V) (b : Bool), vs = [.ref s] ∧ SesAt K H C s xs ys b ∧ Q (.int (ys.length : Nat)) H
theorem ok_seln {f C : Addr} {fd : FuncData} {k : Nat} (F : Fun K "__len__" "Session.__len__" iSession___len__ f fd) (T : Nm mg) (Z : SesK K mg C) : FnOk P w K mg base CX0 (k + 1) f fd ["self"] (spSeLn K C) := by
  refine F.ok scSeLn (fun vs H Q E h => ?_) (fun cdv A outer s H vs Q E hr h => ?_)
  · obtain ⟨s, xs, ys, b, rfl, _⟩ := h
    rfl
  · obtain ⟨s, xs, ys, b, rfl, ⟨dx, ts, td, tr, e, e1, e2⟩, q⟩ := h
    refine ⟨_, (pss_one (ps_ret (pe_callB (call_lenK K rfl) (by rfl) T.len (by decide +kernel) (pa_cons (pe_fld (pv 0) rfl) pa_nil)))), ?_⟩
    exact ⟨_, rfl, s, C, dx, _, .ref td, rfl, e, Z.cl, Z.nd, rfl, td, ys, rfl, .inr e2, q⟩
abbrev nSeRf : List Str := ["self"]
theorem scSeRf : FnScope nSeRf ["self"] (defScope iSession_refuse_if_busy) := ⟨rfl, rfl, rfl, by decide +kernel, rfl, by decide +kernel, by decide +kernel⟩
/-- not busy: nothing -/
def spSeRf (K : PySem.W.Frag) (C : Addr) : Sp := fun vs H Q _ => ∃ (s : Addr) (xs ys : List V), vs = [.ref s] ∧ SesAt K H C s xs ys false ∧ Q .non H
theorem ok_serf {f C : Addr} {fd : FuncData} {k : Nat} (F : Fun K "refuse_if_busy" "Session.refuse_if_busy" iSession_refuse_if_busy f fd) (Z : SesK K mg C) : FnOk P w K mg base CX0 (k + 1) f fd ["self"] (spSeRf K C) := by
  refine F.ok scSeRf (fun vs H Q E h => ?_) (fun cdv A outer s H vs Q E hr h => ?_)
  · obtain ⟨s, xs, ys, rfl, _⟩ := h
    rfl
  · obtain ⟨s, xs, ys, rfl, ⟨dx, ts, td, tr, e, e1, e2⟩, q⟩ := h
    refine ⟨_, (pss_one (ps_if (pt_val (pe_fld (pv 0) rfl))
      pss_never
      pss_nil)), ?_⟩
    exact ⟨_, rfl, s, C, dx, _, .bl false, rfl, e, Z.cl, Z.nb, rfl, _, rfl, iteF q⟩
abbrev nSeAp : List Str := ["self", "action", "house", "placement", "target"]
theorem scSeAp : FnScope nSeAp ["self", "action"] (defScope iSession_apply_action) := ⟨rfl, rfl, rfl, by decide +kernel, rfl, by decide +kernel, by decide +kernel⟩
theorem _root_.L2.SqT.same' {K : PySem.W.Frag} {H H' : Hp} {a : Addr} {xs : List V} (x : SqT K H a xs) (s : Same H H') : SqT K H' a xs := Same.sqT s x
/-- .. while an instance is stored to -/
theorem _root_.L2.SqT.ins {K : PySem.W.Frag} {H : Hp} {a s C dx : Addr} {fs : List (Str × V)} {xs : List V} {o : HO} (x : SqT K H a xs) (e : H s = some (.ins C dx fs)) : SqT K (upd H s o) a xs := by
  rcases x with (x | ⟨u, x⟩) | x
  · exact .inl (.inl ((upd_ne (ne_of x e (by intro z; cases z))).trans x))
  · exact .inl (.inr ⟨u, (upd_ne (ne_of x e (by intro z; cases z))).trans x⟩)
  · exact .inr x
/-- all but one object stays -/
def But1 (s : Addr) (H H' : Hp) : Prop := ∀ b o, b ≠ s → H b = some o → H' b = some o
def spSeAp (P : Program) (w : World) (K : PySem.W.Frag) (mg : Str → Option Value) (base : Heap) (k : Nat) (d C : Addr) : Sp := fun vs H Q E => ∃ (s ac st : Addr) (xs ys : List V) (b : Bool), vs = [.ref s, .ref ac] ∧ SesAt K H C s xs ys b ∧ atI xs (-1) = some (.ref st) ∧ xs ≠ [] ∧ xs.length ≤ 100 ∧ ys.length < 60 ∧
  ∀ Q1 : VK, (∀ t h p g H', Same H H' → H' t = some (.tup [.ref h, .ref p, .ref g]) → (∀ H'' t', But1 s H' H'' → SesAt K H'' C s (xs ++ [.ref t']) (ys ++ [.ref ac]) b → H'' t' = some (.tup [.ref h, .ref p, .ref g]) → Q .non H'') → Q1 (.ref t) H') → spStAf P w K mg base k d [.ref st, .ref ac] H Q1 E
theorem ok_seap {f C d : Addr} {fd : FuncData} {k : Nat} {tk : Tok} (F : Fun K "apply_action" "Session.apply_action" iSession_apply_action f fd) (T : Nm mg) (Z : SesK K mg C) (M : mg "MAX_ACTIONS" = some (.int 60 tk)) (G : Con K C "GUARDED" (.bl false) (.bool false)) (Cstate_after : CalX P w K mg base (k + 1) "state_after" pStAf (spStAf P w K mg base k d)) : FnOk P w K mg base (L2.CX P w) (k + 2) f fd ["self", "action"] (spSeAp P w K mg base k d C) := by
  refine F.okX scSeAp (fun vs H Q E h => ?_) (fun cdv A outer s H vs Q E hr h => ?_)
  · obtain ⟨s, ac, st, xs, ys, b, rfl, _⟩ := h
    rfl
  · obtain ⟨s, ac, st, xs, ys, b, rfl, ⟨dx, ts, td, tr, e, e1, e2⟩, la, nx, lx, ly, q⟩ := h
    refine ⟨_, (pss_cons (ps_if (pt_cmpR op_ge (pe_callB (call_lenK K rfl) (by rfl) T.len (by decide +kernel) (pa_cons (pe_fld (pv 0) rfl) pa_nil)) (pe_glob (v := .int 60) (by rfl) M ⟨_, rfl⟩) (nomark _))
      pss_never
      pss_nil)
      (pss_cons (ps_asg (pe_calX Cstate_after (takes_of rfl rfl rfl rfl) hr (by rfl) (pa_cons (pe_ix (ix_tupK K rfl) (pe_fld (pv 0) rfl) (pe_un un_neg pe_int) (fun _ _ => rfl)) (pa_cons (pv 1) pa_nil))) (pg_tup (by rfl) (pgs_cons (pg_name (i := 2) scSeAp.nd rfl (.inl rfl)) (pgs_cons (pg_name (i := 3) scSeAp.nd rfl (.inl rfl)) (pgs_cons (pg_name (i := 4) scSeAp.nd rfl (.inl rfl)) pgs_nil)))))
      (pss_cons (ps_if (pt_val (pe_con (pv 0) rfl))
      pss_never
      pss_nil)
      (pss_cons (ps_fldaug (pv 0) (pe_tup (pa_cons (pe_tup (pa_cons (pv 2) (pa_cons (pv 3) (pa_cons (pv 4) pa_nil)))) pa_nil)) in_catA)
      (pss_one (ps_fldaug (pv 0) (pe_tup (pa_cons (pv 1) pa_nil)) in_catA)))))), ?_⟩
    refine ⟨_, rfl, s, C, dx, _, .ref td, rfl, e, Z.cl, Z.nd, rfl, td, ys, rfl, .inr e2, _, _, rfl, rfl, _, rfl, ?_⟩
    rw [decide_eq_false (show ¬ (60 : Int) ≤ (ys.length : Nat) by omega)]
    refine iteF ?_
    refine ⟨_, rfl, s, C, dx, _, .ref ts, rfl, e, Z.cl, Z.ns, rfl, _, rfl, ts, xs, -1, .ref st, rfl, rfl, e1, la, _, rfl, q _ ?_⟩
    intro t h p g H1 s1 et fin
    refine ⟨t, _, rfl, SqT.of et, rfl, _, _, rfl, _, _, rfl, _, _, rfl, rfl, ?_⟩
    dsimp only [gName]
    refine ⟨_, rfl, s, C, dx, _, .bl false, _, rfl, s1 _ _ e, Z.cl, G, rfl, _, rfl, iteF ?_⟩
    refine ⟨_, rfl, s, C, dx, _, .ref ts, rfl, s1 _ _ e, Z.cl, Z.ns, rfl, _, rfl, _, rfl, _, rfl, by show 3 ≤ sizeLine; decide, fun t1 f1 => ?_⟩
    have u1 := same_upd (o := .tup [.ref h, .ref p, .ref g]) f1
    have a1 : (upd H1 t1 (.tup [.ref h, .ref p, .ref g])) t1 = some (.tup [.ref h, .ref p, .ref g]) := upd_same
    have b1 := u1 _ _ (s1 _ _ e)
    have c1 := (e1.same' s1).same' u1
    have d1 := (e2.same' s1).same' u1
    generalize upd H1 t1 (.tup [.ref h, .ref p, .ref g]) = H2 at *
    refine ⟨by show 1 ≤ sizeLine; decide, fun t2 f2 => ?_⟩
    have u2 := same_upd (o := .tup [.ref t1]) f2
    have a2 : (upd H2 t2 (.tup [.ref t1])) t2 = some (.tup [.ref t1]) := upd_same
    replace a1 := u2 _ _ a1
    replace b1 := u2 _ _ b1
    replace c1 := c1.same' u2
    replace d1 := d1.same' u2
    have v2 := u1.trans u2
    generalize upd H2 t2 (.tup [.ref t1]) = H3 at *
    refine ⟨ts, t2, xs, [.ref t1], rfl, rfl, c1, SqT.of a2, ?_, fun z => absurd z nx, fun _ z => (nomatch z), fun _ _ t3 f3 => ?_⟩
    · rw [List.length_singleton]
      exact Nat.le_of_lt (small1000 (by omega))
    have u3 := same_upd (o := .tup (xs ++ [.ref t1])) f3
    have a3 : (upd H3 t3 (.tup (xs ++ [.ref t1]))) t3 = some (.tup (xs ++ [.ref t1])) := upd_same
    replace a1 := u3 _ _ a1
    replace b1 := u3 _ _ b1
    replace d1 := d1.same' u3
    have v3 := v2.trans u3
    generalize upd H3 t3 (.tup (xs ++ [.ref t1])) = H4 at *
    refine ⟨dx, _, b1, by show 4 < 1000; decide, ?_⟩
    have ep : putF "states" (.ref t3) (sesF (.ref ts) (.ref td) (.ref tr) b) = (sesF (.ref t3) (.ref td) (.ref tr) b) := rfl
    rw [ep]
    have but : But1 s H1 (upd H4 s (.ins C dx (sesF (.ref t3) (.ref td) (.ref tr) b))) := fun c o n hc => (upd_ne n).trans (v3 _ _ hc)
    have b2 : (upd H4 s (.ins C dx (sesF (.ref t3) (.ref td) (.ref tr) b))) s = some (.ins C dx (sesF (.ref t3) (.ref td) (.ref tr) b)) := upd_same
    have a1' := (upd_ne (o := .ins C dx (sesF (.ref t3) (.ref td) (.ref tr) b)) (ne_of a1 b1 (by intro z; cases z))).trans a1
    have a3' := (upd_ne (o := .ins C dx (sesF (.ref t3) (.ref td) (.ref tr) b)) (ne_of a3 b1 (by intro z; cases z))).trans a3
    have d2 := d1.ins (o := .ins C dx (sesF (.ref t3) (.ref td) (.ref tr) b)) b1
    generalize upd H4 s (.ins C dx (sesF (.ref t3) (.ref td) (.ref tr) b)) = H5 at *
    refine ⟨_, rfl, s, C, dx, _, .ref td, rfl, b2, Z.cl, Z.nd, rfl, _, rfl, by show 1 ≤ sizeLine; decide, fun t4 f4 => ?_⟩
    have u4 := same_upd (o := .tup [.ref ac]) f4
    have a4 : (upd H5 t4 (.tup [.ref ac])) t4 = some (.tup [.ref ac]) := upd_same
    replace a1' := u4 _ _ a1'
    replace a3' := u4 _ _ a3'
    replace b2 := u4 _ _ b2
    replace d2 := d2.same' u4
    replace but : But1 s H1 (upd H5 t4 (.tup [.ref ac])) := fun c o n hc => u4 _ _ (but c o n hc)
    generalize upd H5 t4 (.tup [.ref ac]) = H6 at *
    have last : ∀ (J : Hp) (tz : Addr), Same H6 J → SqT K J tz (ys ++ [.ref ac]) → ∃ dx' fs', J s = some (.ins C dx' fs') ∧ fs'.length < 1000 ∧ Q .non (upd J s (.ins C dx' (putF "done" (.ref tz) fs'))) := fun J tz sJ eJ => by
      refine ⟨dx, _, sJ _ _ b2, by show 4 < 1000; decide, ?_⟩
      have ep2 : putF "done" (.ref tz) (sesF (.ref t3) (.ref td) (.ref tr) b) = (sesF (.ref t3) (.ref tz) (.ref tr) b) := rfl
      rw [ep2]
      refine fin _ t1 (fun c o n hc => (upd_ne n).trans (sJ _ _ (but c o n hc))) ⟨dx, t3, tz, tr, upd_same, (SqT.of (sJ _ _ a3')).ins (sJ _ _ b2), eJ.ins (sJ _ _ b2)⟩ ?_
      exact (upd_ne (ne_of (sJ _ _ a1') (sJ _ _ b2) (by intro z; cases z))).trans (sJ _ _ a1')
    refine ⟨td, t4, ys, [.ref ac], rfl, rfl, d2, SqT.of a4, ?_, fun z => ?_, fun _ z => (nomatch z), fun _ _ t5 f5 => ?_⟩
    · rw [List.length_singleton]
      exact Nat.le_of_lt (small1000 (by omega))
    · refine last _ _ (Same.refl _) ?_
      rw [z]
      exact SqT.of a4
    · exact last _ t5 (same_upd f5) (SqT.of upd_same)
abbrev nSeAct : List Str := ["self", "action"]
theorem scSeAct : FnScope nSeAct ["self", "action"] (defScope iSession_act) := ⟨rfl, rfl, rfl, by decide +kernel, rfl, by decide +kernel, by decide +kernel⟩
/-- a method, by its name -/
def CalM (P : Program) (w : World) (K : PySem.W.Frag) (mg : Str → Option Value) (base : Heap) (CX : CXT) (k : Nat) (C : Addr) (m : Str) (ps : List Str) (sp : Sp) : Prop := ∃ f fd, Meth K C m f ∧ Binds K fd ps [] ∧ FnOk P w K mg base CX k f fd ps sp
def MetE (K : PySem.W.Frag) (C : Addr) (m q : Str) (st : Stmt) (ps : List Str) : Prop := ∃ f fd, Meth K C m f ∧ Binds K fd ps [] ∧ Fun K m q st f fd
theorem MetE.cal {C : Addr} {m q : Str} {st : Stmt} {ps : List Str} {CX : CXT} {k : Nat} {sp : Sp} (D : MetE K C m q st ps) (h : ∀ f fd, Fun K m q st f fd → FnOk P w K mg base CX k f fd ps sp) : CalM P w K mg base CX k C m ps sp := by
  obtain ⟨f, fd, a, b, c⟩ := D
  exact ⟨f, fd, a, b, h f fd c⟩
theorem pe_calM {X : Cx} {CX : CXT} {k : Nat} {C : Addr} {m : Str} {ps : List Str} {sp : Sp} {E : XK} {o e : Expr} {es : List Expr} {ta : TE} {t : TA} {apos pos : Pos} {pl : Sem Bool} (M : CalM X.prog X.w X.K X.mg X.base CX k C m ps sp) (c : Cls X.K C) (hr : Room k X.A) (up : Passes CX X E) (ho : PE X o ta) (ha : PA X (e :: es) t)
    (h1 : starEach (e :: es) X.env = (false, eval e X.env) :: starEach es X.env := by rfl) (h2 : (backTo pos (starEach es X.env)).any (·.1) = false := by rfl)
    (h3 : eval (.Call (.Attribute o m apos) (e :: es) [] pos) X.env = (do
      let ov ← eval o X.env
      standAt apos.atName
      let (f, first) ← holding [ov] (getMethod ov m pl)
      callWith pos f first (backTo pos (starEach (e :: es) X.env)) (backToKw pos (keywordEach [] X.env))) := by rfl) :
    PE X (.Call (.Attribute o m apos) (e :: es) [] pos) (tMeth C m sp [] E ta t) := by
  obtain ⟨f, fd, a, b, F⟩ := M
  exact pe_meth ho c a F hr b .nil up ha h1 h2 h3
theorem pe_calM0 {X : Cx} {CX : CXT} {k : Nat} {C : Addr} {m : Str} {ps : List Str} {sp : Sp} {E : XK} {o : Expr} {ta : TE} {apos pos : Pos} {pl : Sem Bool} (M : CalM X.prog X.w X.K X.mg X.base CX k C m ps sp) (c : Cls X.K C) (hr : Room k X.A) (up : Passes CX X E) (ho : PE X o ta)
    (h3 : eval (.Call (.Attribute o m apos) [] [] pos) X.env = (do
      let ov ← eval o X.env
      standAt apos.atName
      let (f, first) ← holding [ov] (getMethod ov m pl)
      callWith pos f first (backTo pos (starEach [] X.env)) (backToKw pos (keywordEach [] X.env))) := by rfl) :
    PE X (.Call (.Attribute o m apos) [] [] pos) (tMeth C m sp [] E ta tNil) := by
  obtain ⟨f, fd, a, b, F⟩ := M
  exact pe_meth0 ho c a F hr b .nil up h3
/-- an action while the session is not busy -/
def spSeAct (P : Program) (w : World) (K : PySem.W.Frag) (mg : Str → Option Value) (base : Heap) (k : Nat) (d C : Addr) : Sp := fun vs H Q E => spSeAp P w K mg base k d C vs H Q E ∧ ∃ s ac xs ys, vs = [.ref s, .ref ac] ∧ SesAt K H C s xs ys false
theorem ok_seact {f C d : Addr} {fd : FuncData} {k : Nat} (F : Fun K "act" "Session.act" iSession_act f fd) (Z : SesK K mg C) (Mrefuse : CalM P w K mg base CX0 (k + 2) C "refuse_if_busy" ["self"] (spSeRf K C)) (Mapply : CalM P w K mg base (L2.CX P w) (k + 2) C "apply_action" ["self", "action"] (spSeAp P w K mg base k d C)) : FnOk P w K mg base (L2.CX P w) (k + 3) f fd ["self", "action"] (spSeAct P w K mg base k d C) := by
  refine F.okX scSeAct (fun vs H Q E h => ?_) (fun cdv A outer s H vs Q E hr h => ?_)
  · obtain ⟨_, s, ac, xs, ys, rfl, _⟩ := h
    rfl
  · obtain ⟨ap, s, ac, xs, ys, rfl, se⟩ := h
    obtain ⟨dx, ts, td, tr, e, e1, e2⟩ := id se
    refine ⟨_, (pss_cons (ps_expr (pe_calM0 Mrefuse Z.cl hr (E := fun _ _ _ => False) (fun _ _ _ _ _ _ _ z => z.elim) (pv 0)))
      (pss_one (ps_expr (pe_calM Mapply Z.cl hr (passM (takes_of rfl rfl rfl rfl)) (pv 0) (pa_cons (pv 1) pa_nil))))), ?_⟩
    refine ⟨_, rfl, s, dx, _, rfl, e, rfl, s, xs, ys, rfl, se, _, rfl, s, dx, _, rfl, e, rfl, _, rfl, ?_⟩
    obtain ⟨s', ac', st, xs', ys', b, eq, x1, x2, x3, x4, x5, x6⟩ := ap
    cases eq
    exact ⟨s, ac, st, xs', ys', b, rfl, x1, x2, x3, x4, x5, fun Q1 h1 => x6 Q1 fun t h p g H' s1 et fin => h1 t h p g H' s1 et fin⟩
abbrev nSeMv : List Str := ["self", "name", "room"]
theorem scSeMv : FnScope nSeMv ["self", "name", "room"] (defScope iSession_move) := ⟨rfl, rfl, rfl, by decide +kernel, rfl, by decide +kernel, by decide +kernel⟩
/-- move: the action as a new tuple -/
def spSeMv (P : Program) (w : World) (K : PySem.W.Frag) (mg : Str → Option Value) (base : Heap) (k : Nat) (d C : Addr) : Sp := fun vs H Q E => ∃ (s : Addr) (x y : V) (xs ys : List V), vs = [.ref s, x, y] ∧ SesAt K H C s xs ys false ∧ ∀ H' ac, Same H H' → H' ac = some (.tup [.str "move", x, y]) → spSeAp P w K mg base k d C [.ref s, .ref ac] H' Q E
theorem ok_semv {f C d : Addr} {fd : FuncData} {k : Nat} (F : Fun K "move" "Session.move" iSession_move f fd) (Z : SesK K mg C) (Mact : CalM P w K mg base (L2.CX P w) (k + 3) C "act" ["self", "action"] (spSeAct P w K mg base k d C)) : FnOk P w K mg base (L2.CX P w) (k + 4) f fd ["self", "name", "room"] (spSeMv P w K mg base k d C) := by
  refine F.okX scSeMv (fun vs H Q E h => ?_) (fun cdv A outer s H vs Q E hr h => ?_)
  · obtain ⟨s, x, y, xs, ys, rfl, _⟩ := h
    rfl
  · obtain ⟨s, x, y, xs, ys, rfl, se, q⟩ := h
    obtain ⟨dx, ts, td, tr, e, e1, e2⟩ := id se
    refine ⟨_, (pss_one (ps_expr (pe_calM Mact Z.cl hr (passM (takes_of rfl rfl rfl rfl)) (pv 0) (pa_cons (pe_tup (pa_cons pe_str (pa_cons (pv 1) (pa_cons (pv 2) pa_nil)))) pa_nil)))), ?_⟩
    refine ⟨_, rfl, s, dx, _, rfl, e, rfl, _, rfl, _, rfl, by show 3 ≤ sizeLine; decide, fun ac f1 => ?_⟩
    have u1 := same_upd (o := .tup [.str "move", x, y]) f1
    obtain ⟨s', ac', st, xs', ys', b, eq, x1, x2, x3, x4, x5, x6⟩ := q _ ac u1 upd_same
    cases eq
    exact ⟨⟨s, ac, st, xs', ys', b, rfl, x1, x2, x3, x4, x5, fun Q1 h1 => x6 Q1 fun t h p g H' s1 et fin => h1 t h p g H' s1 et fin⟩, s, ac, xs, ys, rfl, se.same u1⟩
abbrev nSeEn : List Str := ["self", "name", "room"]
theorem scSeEn : FnScope nSeEn ["self", "name", "room"] (defScope iSession_enter) := ⟨rfl, rfl, rfl, by decide +kernel, rfl, by decide +kernel, by decide +kernel⟩
/-- enter: the action as a new tuple -/
def spSeEn (P : Program) (w : World) (K : PySem.W.Frag) (mg : Str → Option Value) (base : Heap) (k : Nat) (d C : Addr) : Sp := fun vs H Q E => ∃ (s : Addr) (x y : V) (xs ys : List V), vs = [.ref s, x, y] ∧ SesAt K H C s xs ys false ∧ ∀ H' ac, Same H H' → H' ac = some (.tup [.str "enter", x, y]) → spSeAp P w K mg base k d C [.ref s, .ref ac] H' Q E
theorem ok_seen {f C d : Addr} {fd : FuncData} {k : Nat} (F : Fun K "enter" "Session.enter" iSession_enter f fd) (Z : SesK K mg C) (Mact : CalM P w K mg base (L2.CX P w) (k + 3) C "act" ["self", "action"] (spSeAct P w K mg base k d C)) : FnOk P w K mg base (L2.CX P w) (k + 4) f fd ["self", "name", "room"] (spSeEn P w K mg base k d C) := by
  refine F.okX scSeEn (fun vs H Q E h => ?_) (fun cdv A outer s H vs Q E hr h => ?_)
  · obtain ⟨s, x, y, xs, ys, rfl, _⟩ := h
    rfl
  · obtain ⟨s, x, y, xs, ys, rfl, se, q⟩ := h
    obtain ⟨dx, ts, td, tr, e, e1, e2⟩ := id se
    refine ⟨_, (pss_one (ps_expr (pe_calM Mact Z.cl hr (passM (takes_of rfl rfl rfl rfl)) (pv 0) (pa_cons (pe_tup (pa_cons pe_str (pa_cons (pv 1) (pa_cons (pv 2) pa_nil)))) pa_nil)))), ?_⟩
    refine ⟨_, rfl, s, dx, _, rfl, e, rfl, _, rfl, _, rfl, by show 3 ≤ sizeLine; decide, fun ac f1 => ?_⟩
    have u1 := same_upd (o := .tup [.str "enter", x, y]) f1
    obtain ⟨s', ac', st, xs', ys', b, eq, x1, x2, x3, x4, x5, x6⟩ := q _ ac u1 upd_same
    cases eq
    exact ⟨⟨s, ac, st, xs', ys', b, rfl, x1, x2, x3, x4, x5, fun Q1 h1 => x6 Q1 fun t h p g H' s1 et fin => h1 t h p g H' s1 et fin⟩, s, ac, xs, ys, rfl, se.same u1⟩
abbrev nSeTg : List Str := ["self", "name", "room"]
theorem scSeTg : FnScope nSeTg ["self", "name", "room"] (defScope iSession_set_target) := ⟨rfl, rfl, rfl, by decide +kernel, rfl, by decide +kernel, by decide +kernel⟩
/-- set_target: the action as a new tuple -/
def spSeTg (P : Program) (w : World) (K : PySem.W.Frag) (mg : Str → Option Value) (base : Heap) (k : Nat) (d C : Addr) : Sp := fun vs H Q E => ∃ (s : Addr) (x y : V) (xs ys : List V), vs = [.ref s, x, y] ∧ SesAt K H C s xs ys false ∧ ∀ H' ac, Same H H' → H' ac = some (.tup [.str "set_target", x, y]) → spSeAp P w K mg base k d C [.ref s, .ref ac] H' Q E
theorem ok_setg {f C d : Addr} {fd : FuncData} {k : Nat} (F : Fun K "set_target" "Session.set_target" iSession_set_target f fd) (Z : SesK K mg C) (Mact : CalM P w K mg base (L2.CX P w) (k + 3) C "act" ["self", "action"] (spSeAct P w K mg base k d C)) : FnOk P w K mg base (L2.CX P w) (k + 4) f fd ["self", "name", "room"] (spSeTg P w K mg base k d C) := by
  refine F.okX scSeTg (fun vs H Q E h => ?_) (fun cdv A outer s H vs Q E hr h => ?_)
  · obtain ⟨s, x, y, xs, ys, rfl, _⟩ := h
    rfl
  · obtain ⟨s, x, y, xs, ys, rfl, se, q⟩ := h
    obtain ⟨dx, ts, td, tr, e, e1, e2⟩ := id se
    refine ⟨_, (pss_one (ps_expr (pe_calM Mact Z.cl hr (passM (takes_of rfl rfl rfl rfl)) (pv 0) (pa_cons (pe_tup (pa_cons pe_str (pa_cons (pv 1) (pa_cons (pv 2) pa_nil)))) pa_nil)))), ?_⟩
    refine ⟨_, rfl, s, dx, _, rfl, e, rfl, _, rfl, _, rfl, by show 3 ≤ sizeLine; decide, fun ac f1 => ?_⟩
    have u1 := same_upd (o := .tup [.str "set_target", x, y]) f1
    obtain ⟨s', ac', st, xs', ys', b, eq, x1, x2, x3, x4, x5, x6⟩ := q _ ac u1 upd_same
    cases eq
    exact ⟨⟨s, ac, st, xs', ys', b, rfl, x1, x2, x3, x4, x5, fun Q1 h1 => x6 Q1 fun t h p g H' s1 et fin => h1 t h p g H' s1 et fin⟩, s, ac, xs, ys, rfl, se.same u1⟩
abbrev nSeLv : List Str := ["self", "name"]
theorem scSeLv : FnScope nSeLv ["self", "name"] (defScope iSession_leave) := ⟨rfl, rfl, rfl, by decide +kernel, rfl, by decide +kernel, by decide +kernel⟩
def spSeLv (P : Program) (w : World) (K : PySem.W.Frag) (mg : Str → Option Value) (base : Heap) (k : Nat) (d C : Addr) : Sp := fun vs H Q E => ∃ (s : Addr) (x : V) (xs ys : List V), vs = [.ref s, x] ∧ SesAt K H C s xs ys false ∧ ∀ H' ac, Same H H' → H' ac = some (.tup [.str "leave", x]) → spSeAp P w K mg base k d C [.ref s, .ref ac] H' Q E
theorem ok_selv {f C d : Addr} {fd : FuncData} {k : Nat} (F : Fun K "leave" "Session.leave" iSession_leave f fd) (Z : SesK K mg C) (Mact : CalM P w K mg base (L2.CX P w) (k + 3) C "act" ["self", "action"] (spSeAct P w K mg base k d C)) : FnOk P w K mg base (L2.CX P w) (k + 4) f fd ["self", "name"] (spSeLv P w K mg base k d C) := by
  refine F.okX scSeLv (fun vs H Q E h => ?_) (fun cdv A outer s H vs Q E hr h => ?_)
  · obtain ⟨s, x, xs, ys, rfl, _⟩ := h
    rfl
  · obtain ⟨s, x, xs, ys, rfl, se, q⟩ := h
    obtain ⟨dx, ts, td, tr, e, e1, e2⟩ := id se
    refine ⟨_, (pss_one (ps_expr (pe_calM Mact Z.cl hr (passM (takes_of rfl rfl rfl rfl)) (pv 0) (pa_cons (pe_tup (pa_cons pe_str (pa_cons (pv 1) pa_nil))) pa_nil)))), ?_⟩
    refine ⟨_, rfl, s, dx, _, rfl, e, rfl, _, rfl, by show 2 ≤ sizeLine; decide, fun ac f1 => ?_⟩
    have u1 := same_upd (o := .tup [.str "leave", x]) f1
    obtain ⟨s', ac', st, xs', ys', b, eq, x1, x2, x3, x4, x5, x6⟩ := q _ ac u1 upd_same
    cases eq
    exact ⟨⟨s, ac, st, xs', ys', b, rfl, x1, x2, x3, x4, x5, fun Q1 h1 => x6 Q1 fun t h p g H' s1 et fin => h1 t h p g H' s1 et fin⟩, s, ac, xs, ys, rfl, se.same u1⟩
abbrev nSeSt : List Str := ["self", "moment"]
theorem scSeSt : FnScope nSeSt ["self", "moment"] (defScope iSession_state_at) := ⟨rfl, rfl, rfl, by decide +kernel, rfl, by decide +kernel, by decide +kernel⟩
/-- the state now -/
def spSeSt (K : PySem.W.Frag) (C : Addr) : Sp := fun vs H Q _ => ∃ (s st : Addr) (xs ys : List V) (b : Bool), vs = [.ref s, .non] ∧ SesAt K H C s xs ys b ∧ atI xs (-1) = some (.ref st) ∧ Q (.ref st) H
theorem ok_sest {f C : Addr} {fd : FuncData} {k : Nat} (F : Fun K "state_at" "Session.state_at" iSession_state_at f fd) (T : Nm mg) (Z : SesK K mg C) : FnOk P w K mg base CX0 (k + 1) f fd ["self", "moment"] (spSeSt K C) := by
  refine F.ok scSeSt (fun vs H Q E h => ?_) (fun cdv A outer s H vs Q E hr h => ?_)
  · obtain ⟨s, st, xs, ys, b, rfl, _⟩ := h
    rfl
  · obtain ⟨s, st, xs, ys, b, rfl, ⟨dx, ts, td, tr, e, e1, e2⟩, la, q⟩ := h
    refine ⟨_, (pss_cons (ps_if (pt_cmp (pc_isN (pv 1))) (pss_one (ps_ret (pe_ix (ix_tupK K rfl) (pe_fld (pv 0) rfl) (pe_un un_neg pe_int) (fun _ _ => rfl)))) pss_nil) pss_never), ?_⟩
    refine ⟨_, rfl, _, rfl, iteT ⟨_, rfl, s, C, dx, _, .ref ts, rfl, e, Z.cl, Z.ns, rfl, _, rfl, ts, xs, -1, .ref st, rfl, rfl, e1, la, q⟩⟩
abbrev nSeHo : List Str := ["self", "moment"]
theorem scSeHo : FnScope nSeHo ["self", "moment"] (defScope iSession_house) := ⟨rfl, rfl, rfl, by decide +kernel, rfl, by decide +kernel, by decide +kernel⟩
def spSeHo (K : PySem.W.Frag) (C : Addr) : Sp := fun vs H Q _ => ∃ (s st h p g : Addr) (xs ys : List V) (b : Bool), vs = [.ref s, .non] ∧ SesAt K H C s xs ys b ∧ atI xs (-1) = some (.ref st) ∧ H st = some (.tup [.ref h, .ref p, .ref g]) ∧ Q (.ref h) H
theorem ok_seho {f C : Addr} {fd : FuncData} {k : Nat} (F : Fun K "house" "Session.house" iSession_house f fd) (Z : SesK K mg C) (Mst : CalM P w K mg base CX0 k C "state_at" ["self", "moment"] (spSeSt K C)) : FnOk P w K mg base CX0 (k + 1) f fd ["self", "moment"] (spSeHo K C) := by
  refine F.ok scSeHo (fun vs H Q E h => ?_) (fun cdv A outer s H vs Q E hr h => ?_)
  · obtain ⟨s, st, h, p, g, xs, ys, b, rfl, _⟩ := h
    rfl
  · obtain ⟨s, st, h, p, g, xs, ys, b, rfl, se, la, et, q⟩ := h
    obtain ⟨dx, ts, td, tr, e, e1, e2⟩ := id se
    refine ⟨_, (pss_one (ps_ret (pe_ix (ix_tupK K rfl) (pe_calM Mst Z.cl hr (E := fun _ _ _ => False) (fun _ _ _ _ _ _ _ z => z.elim) (pv 0) (pa_cons (pv 1) pa_nil)) pe_int (fun _ _ => rfl)))), ?_⟩
    exact ⟨_, rfl, s, dx, _, rfl, e, rfl, _, rfl, s, st, xs, ys, b, rfl, se, la, st, _, 0, _, rfl, rfl, SqT.of et, rfl, q⟩
abbrev nSePl : List Str := ["self", "moment"]
theorem scSePl : FnScope nSePl ["self", "moment"] (defScope iSession_placement) := ⟨rfl, rfl, rfl, by decide +kernel, rfl, by decide +kernel, by decide +kernel⟩
def spSePl (K : PySem.W.Frag) (C : Addr) : Sp := fun vs H Q _ => ∃ (s st h p g : Addr) (xs ys : List V) (b : Bool), vs = [.ref s, .non] ∧ SesAt K H C s xs ys b ∧ atI xs (-1) = some (.ref st) ∧ H st = some (.tup [.ref h, .ref p, .ref g]) ∧ Q (.ref p) H
theorem ok_sepl {f C : Addr} {fd : FuncData} {k : Nat} (F : Fun K "placement" "Session.placement" iSession_placement f fd) (Z : SesK K mg C) (Mst : CalM P w K mg base CX0 k C "state_at" ["self", "moment"] (spSeSt K C)) : FnOk P w K mg base CX0 (k + 1) f fd ["self", "moment"] (spSePl K C) := by
  refine F.ok scSePl (fun vs H Q E h => ?_) (fun cdv A outer s H vs Q E hr h => ?_)
  · obtain ⟨s, st, h, p, g, xs, ys, b, rfl, _⟩ := h
    rfl
  · obtain ⟨s, st, h, p, g, xs, ys, b, rfl, se, la, et, q⟩ := h
    obtain ⟨dx, ts, td, tr, e, e1, e2⟩ := id se
    refine ⟨_, (pss_one (ps_ret (pe_ix (ix_tupK K rfl) (pe_calM Mst Z.cl hr (E := fun _ _ _ => False) (fun _ _ _ _ _ _ _ z => z.elim) (pv 0) (pa_cons (pv 1) pa_nil)) pe_int (fun _ _ => rfl)))), ?_⟩
    exact ⟨_, rfl, s, dx, _, rfl, e, rfl, _, rfl, s, st, xs, ys, b, rfl, se, la, st, _, 1, _, rfl, rfl, SqT.of et, rfl, q⟩
abbrev nSeTa : List Str := ["self", "moment"]
theorem scSeTa : FnScope nSeTa ["self", "moment"] (defScope iSession_targets) := ⟨rfl, rfl, rfl, by decide +kernel, rfl, by decide +kernel, by decide +kernel⟩
def spSeTa (K : PySem.W.Frag) (C : Addr) : Sp := fun vs H Q _ => ∃ (s st h p g : Addr) (xs ys : List V) (b : Bool), vs = [.ref s, .non] ∧ SesAt K H C s xs ys b ∧ atI xs (-1) = some (.ref st) ∧ H st = some (.tup [.ref h, .ref p, .ref g]) ∧ Q (.ref g) H
theorem ok_seta {f C : Addr} {fd : FuncData} {k : Nat} (F : Fun K "targets" "Session.targets" iSession_targets f fd) (Z : SesK K mg C) (Mst : CalM P w K mg base CX0 k C "state_at" ["self", "moment"] (spSeSt K C)) : FnOk P w K mg base CX0 (k + 1) f fd ["self", "moment"] (spSeTa K C) := by
  refine F.ok scSeTa (fun vs H Q E h => ?_) (fun cdv A outer s H vs Q E hr h => ?_)
  · obtain ⟨s, st, h, p, g, xs, ys, b, rfl, _⟩ := h
    rfl
  · obtain ⟨s, st, h, p, g, xs, ys, b, rfl, se, la, et, q⟩ := h
    obtain ⟨dx, ts, td, tr, e, e1, e2⟩ := id se
    refine ⟨_, (pss_one (ps_ret (pe_ix (ix_tupK K rfl) (pe_calM Mst Z.cl hr (E := fun _ _ _ => False) (fun _ _ _ _ _ _ _ z => z.elim) (pv 0) (pa_cons (pv 1) pa_nil)) pe_int (fun _ _ => rfl)))), ?_⟩
    exact ⟨_, rfl, s, dx, _, rfl, e, rfl, _, rfl, s, st, xs, ys, b, rfl, se, la, st, _, 2, _, rfl, rfl, SqT.of et, rfl, q⟩
/-- of a house that is one, as is_house answers -/
def spYesH : Sp := fun vs H Q _ => ∃ (h : Addr) (n : Int) (D : List (Int × Int)), vs = [.ref h] ∧ HouseAt H h n D ∧ Forest n D ∧ 1 ≤ n ∧ n ≤ 8 ∧ ∀ H', Same H H' → Q (.bl true) H'
abbrev nSeIn : List Str := ["self", "house", "placement"]
theorem scSeIn : FnScope nSeIn ["self", "house", "placement"] (defScope iSession) := ⟨rfl, rfl, rfl, by decide +kernel, rfl, by decide +kernel, by decide +kernel⟩
/-- a new session -/
def spSeIn (K : PySem.W.Frag) (C : Addr) : Sp := fun vs H Q _ => ∃ (s h p dx : Addr) (n : Int) (D : List (Int × Int)) (P : List (Str × Int)), vs = [.ref s, .ref h, .ref p] ∧ H s = some (.ins C dx []) ∧ HouseAt H h n D ∧ Forest n D ∧ 1 ≤ n ∧ n ≤ 8 ∧ PlAt H p P ∧ Pl n P ∧ P.length ≤ 12 ∧
  ∀ H' t, But1 s H H' → SesAt K H' C s [.ref t] [] false → H' t = some (.tup [.ref h, .ref p, .ref p]) → Q .non H'
theorem ok_sein {f C : Addr} {fd : FuncData} {k : Nat} (F : Fun K "__init__" "Session.__init__" iSession f fd) (Z : SesK K mg C) (Cis_house : Cal P w K mg base k "is_house" ["value"] spYesH) (Cis_placement : Cal P w K mg base k "is_placement" ["house", "value"] spIsPlT) : FnOk P w K mg base CX0 (k + 1) f fd ["self", "house", "placement"] (spSeIn K C) := by
  refine F.ok scSeIn (fun vs H Q E h => ?_) (fun cdv A outer s H vs Q E hr h => ?_)
  · obtain ⟨s, h, p, dx, n, D, P, rfl, _⟩ := h
    rfl
  · obtain ⟨s, h, p, dx, n, D, P, rfl, e, hH, hF, n1, n8, hP, pl, lP, q⟩ := h
    refine ⟨_, (pss_cons (ps_if (pt_not (pt_val (pe_cal Cis_house hr (by rfl) (pa_cons (pv 1) pa_nil))))
      pss_never
      pss_nil)
      (pss_cons (ps_if (pt_not (pt_val (pe_cal Cis_placement hr (by rfl) (pa_cons (pv 1) (pa_cons (pv 2) pa_nil)))))
      pss_never
      pss_nil)
      (pss_cons (ps_fld (pv 0) (pe_tup (pa_cons (pe_tup (pa_cons (pv 1) (pa_cons (pv 2) (pa_cons (pv 2) pa_nil)))) pa_nil)) (by rfl))
      (pss_cons (ps_fld (pv 0) (pe_tup pa_nil) (by rfl))
      (pss_cons (ps_fld (pv 0) (pe_tup pa_nil) (by rfl))
      (pss_one (ps_fld (pv 0) pe_bl (by rfl)))))))), ?_⟩
    refine ⟨_, rfl, h, n, D, rfl, hH, hF, n1, n8, fun H1 u1 => ⟨_, rfl, iteF ?_⟩⟩
    refine ⟨_, rfl, _, rfl, h, p, n, D, P, rfl, hH.same u1, hP.same u1, pl, lP, fun H2 u2 => ⟨_, rfl, iteF ?_⟩⟩
    have u := u1.trans u2
    replace e := u _ _ e
    clear u1 u2
    refine ⟨_, rfl, _, rfl, _, rfl, by show 3 ≤ sizeLine; decide, fun t f1 => ?_⟩
    have v1 := same_upd (o := .tup [.ref h, .ref p, .ref p]) f1
    have a1 : (upd H2 t (.tup [.ref h, .ref p, .ref p])) t = some (.tup [.ref h, .ref p, .ref p]) := upd_same
    replace e := v1 _ _ e
    have w1 := u.trans v1
    generalize upd H2 t (.tup [.ref h, .ref p, .ref p]) = H3 at *
    refine ⟨by show 1 ≤ sizeLine; decide, fun ts f2 => ?_⟩
    have v2 := same_upd (o := .tup [.ref t]) f2
    have a2 : (upd H3 ts (.tup [.ref t])) ts = some (.tup [.ref t]) := upd_same
    replace e := v2 _ _ e
    replace a1 := v2 _ _ a1
    have w2 := w1.trans v2
    generalize upd H3 ts (.tup [.ref t]) = H4 at *
    refine ⟨_, rfl, s, C, dx, _, rfl, e, Z.cl, Z.ns, by show 0 < 1000; decide, ?_⟩
    have but : But1 s H (upd H4 s (.ins C dx (putF "states" (.ref ts) []))) := fun c o n hc => (upd_ne n).trans (w2 _ _ hc)
    replace a1 := (upd_ne (o := .ins C dx (putF "states" (.ref ts) [])) (ne_of a1 e (by intro z; cases z))).trans a1
    replace a2 := (upd_ne (o := .ins C dx (putF "states" (.ref ts) [])) (ne_of a2 e (by intro z; cases z))).trans a2
    replace e : (upd H4 s (.ins C dx (putF "states" (.ref ts) []))) s = some (.ins C dx (putF "states" (.ref ts) [])) := upd_same
    clear w1 w2 v1 v2
    generalize upd H4 s (.ins C dx (putF "states" (.ref ts) [])) = H5 at *
    refine ⟨Nat.zero_le _, fun td f3 => ?_⟩
    have v3 := same_upd (o := .tup []) f3
    have a3 : (upd H5 td (.tup [])) td = some (.tup []) := upd_same
    replace e := v3 _ _ e
    replace a1 := v3 _ _ a1
    replace a2 := v3 _ _ a2
    replace but : But1 s H (upd H5 td (.tup [])) := fun c o n hc => v3 _ _ (but c o n hc)
    generalize upd H5 td (.tup []) = H6 at *
    refine ⟨_, rfl, s, C, dx, _, rfl, e, Z.cl, Z.nd, by show 1 < 1000; decide, ?_⟩
    replace but : But1 s H (upd H6 s (.ins C dx (putF "done" (.ref td) (putF "states" (.ref ts) [])))) := fun c o n hc => (upd_ne n).trans (but c o n hc)
    replace a1 := (upd_ne (o := .ins C dx (putF "done" (.ref td) (putF "states" (.ref ts) []))) (ne_of a1 e (by intro z; cases z))).trans a1
    replace a2 := (upd_ne (o := .ins C dx (putF "done" (.ref td) (putF "states" (.ref ts) []))) (ne_of a2 e (by intro z; cases z))).trans a2
    replace a3 := (upd_ne (o := .ins C dx (putF "done" (.ref td) (putF "states" (.ref ts) []))) (ne_of a3 e (by intro z; cases z))).trans a3
    replace e : (upd H6 s (.ins C dx (putF "done" (.ref td) (putF "states" (.ref ts) [])))) s = some (.ins C dx (putF "done" (.ref td) (putF "states" (.ref ts) []))) := upd_same
    generalize upd H6 s (.ins C dx (putF "done" (.ref td) (putF "states" (.ref ts) []))) = H7 at *
    refine ⟨Nat.zero_le _, fun tr f4 => ?_⟩
    have v4 := same_upd (o := .tup []) f4
    replace e := v4 _ _ e
    replace a1 := v4 _ _ a1
    replace a2 := v4 _ _ a2
    replace a3 := v4 _ _ a3
    replace but : But1 s H (upd H7 tr (.tup [])) := fun c o n hc => v4 _ _ (but c o n hc)
    generalize upd H7 tr (.tup []) = H8 at *
    refine ⟨_, rfl, s, C, dx, _, rfl, e, Z.cl, Z.nr, by show 2 < 1000; decide, ?_⟩
    replace but : But1 s H (upd H8 s (.ins C dx (putF "rows" (.ref tr) (putF "done" (.ref td) (putF "states" (.ref ts) []))))) := fun c o n hc => (upd_ne n).trans (but c o n hc)
    replace a1 := (upd_ne (o := .ins C dx (putF "rows" (.ref tr) (putF "done" (.ref td) (putF "states" (.ref ts) [])))) (ne_of a1 e (by intro z; cases z))).trans a1
    replace a2 := (upd_ne (o := .ins C dx (putF "rows" (.ref tr) (putF "done" (.ref td) (putF "states" (.ref ts) [])))) (ne_of a2 e (by intro z; cases z))).trans a2
    replace a3 := (upd_ne (o := .ins C dx (putF "rows" (.ref tr) (putF "done" (.ref td) (putF "states" (.ref ts) [])))) (ne_of a3 e (by intro z; cases z))).trans a3
    replace e : (upd H8 s (.ins C dx (putF "rows" (.ref tr) (putF "done" (.ref td) (putF "states" (.ref ts) []))))) s = some (.ins C dx (putF "rows" (.ref tr) (putF "done" (.ref td) (putF "states" (.ref ts) [])))) := upd_same
    generalize upd H8 s (.ins C dx (putF "rows" (.ref tr) (putF "done" (.ref td) (putF "states" (.ref ts) [])))) = H9 at *
    refine ⟨_, rfl, s, C, dx, _, rfl, e, Z.cl, Z.nb, by show 3 < 1000; decide, ?_⟩
    have ep : putF "busy" (.bl false) (putF "rows" (.ref tr) (putF "done" (.ref td) (putF "states" (.ref ts) []))) = sesF (.ref ts) (.ref td) (.ref tr) false := rfl
    rw [ep]
    refine q _ t (fun c o n hc => (upd_ne n).trans (but c o n hc)) ⟨dx, ts, td, tr, upd_same, (SqT.of a2).ins e, (SqT.of a3).ins e⟩ ?_
    exact (upd_ne (ne_of a1 e (by intro z; cases z))).trans a1
end
end Fw
set_option maxHeartbeats 4000000
namespace Fw
open PySem PySem.Spec PyProof.Rows L2
/-! an action is called -/
section
variable {P : Program} {w : World} {K : PySem.W.Frag} {mg : Str → Option Value} {base : Heap}
abbrev nLAp : List Str := ["_law_session", "_law_action", "_law_word"]
theorem scLAp : FnScope nLAp ["_law_session", "_law_action"] (defScope sLApply) := ⟨rfl, rfl, rfl, by decide +kernel, rfl, by decide +kernel, by decide +kernel⟩
theorem sap_mono {k : Nat} {d C : Addr} {vs : List V} {H : Hp} {Q Q' : VK} {E : XK} (h : spSeAp P w K mg base k d C vs H Q E) (i : ∀ H', Q .non H' → Q' .non H') : spSeAp P w K mg base k d C vs H Q' E := by
  obtain ⟨s, ac, st, xs, ys, b, eq, x1, x2, x3, x4, x5, x6⟩ := h
  exact ⟨s, ac, st, xs, ys, b, eq, x1, x2, x3, x4, x5, fun Q1 h1 => x6 Q1 fun t h p g H' s1 et fin => h1 t h p g H' s1 et fun H'' t' c se e => i H'' (fin H'' t' c se e)⟩
theorem SeMv_mono {k : Nat} {d C : Addr} {vs : List V} {H : Hp} {Q Q' : VK} {E : XK} (h : spSeMv P w K mg base k d C vs H Q E) (i : ∀ H', Q .non H' → Q' .non H') : spSeMv P w K mg base k d C vs H Q' E := by
  obtain ⟨s, x, y, xs, ys, a, b, c⟩ := h
  exact ⟨s, x, y, xs, ys, a, b, fun H' ac s1 e => sap_mono (c H' ac s1 e) i⟩
theorem SeEn_mono {k : Nat} {d C : Addr} {vs : List V} {H : Hp} {Q Q' : VK} {E : XK} (h : spSeEn P w K mg base k d C vs H Q E) (i : ∀ H', Q .non H' → Q' .non H') : spSeEn P w K mg base k d C vs H Q' E := by
  obtain ⟨s, x, y, xs, ys, a, b, c⟩ := h
  exact ⟨s, x, y, xs, ys, a, b, fun H' ac s1 e => sap_mono (c H' ac s1 e) i⟩
theorem SeLv_mono {k : Nat} {d C : Addr} {vs : List V} {H : Hp} {Q Q' : VK} {E : XK} (h : spSeLv P w K mg base k d C vs H Q E) (i : ∀ H', Q .non H' → Q' .non H') : spSeLv P w K mg base k d C vs H Q' E := by
  obtain ⟨s, x, xs, ys, a, b, c⟩ := h
  exact ⟨s, x, xs, ys, a, b, fun H' ac s1 e => sap_mono (c H' ac s1 e) i⟩
theorem SeTg_mono {k : Nat} {d C : Addr} {vs : List V} {H : Hp} {Q Q' : VK} {E : XK} (h : spSeTg P w K mg base k d C vs H Q E) (i : ∀ H', Q .non H' → Q' .non H') : spSeTg P w K mg base k d C vs H Q' E := by
  obtain ⟨s, x, y, xs, ys, a, b, c⟩ := h
  exact ⟨s, x, y, xs, ys, a, b, fun H' ac s1 e => sap_mono (c H' ac s1 e) i⟩
def spLAp (P : Program) (w : World) (K : PySem.W.Frag) (mg : Str → Option Value) (base : Heap) (k : Nat) (d C : Addr) : Sp := fun vs H Q E => ∃ (s ac : Addr) (xs ys : List V) (b : Bool), vs = [.ref s, .ref ac] ∧ SesAt K H C s xs ys b ∧
  ((∃ x y, SqT K H ac [.str "move", x, y] ∧ spSeMv P w K mg base k d C [.ref s, x, y] H (fun u H' => Q (.bl true) H') E) ∨ (∃ x y, SqT K H ac [.str "enter", x, y] ∧ spSeEn P w K mg base k d C [.ref s, x, y] H (fun u H' => Q (.bl true) H') E) ∨ (∃ x, SqT K H ac [.str "leave", x] ∧ spSeLv P w K mg base k d C [.ref s, x] H (fun u H' => Q (.bl true) H') E) ∨ (∃ x y, SqT K H ac [.str "set_target", x, y] ∧ spSeTg P w K mg base k d C [.ref s, x, y] H (fun u H' => Q (.bl true) H') E))
theorem ok_lap {f C d : Addr} {fd : FuncData} {k : Nat} (F : Fun K "_law_apply" "_law_apply" sLApply f fd) (Z : SesK K mg C) (Mmove : CalM P w K mg base (L2.CX P w) (k + 4) C "move" ["self", "name", "room"] (spSeMv P w K mg base k d C)) (Menter : CalM P w K mg base (L2.CX P w) (k + 4) C "enter" ["self", "name", "room"] (spSeEn P w K mg base k d C)) (Mleave : CalM P w K mg base (L2.CX P w) (k + 4) C "leave" ["self", "name"] (spSeLv P w K mg base k d C)) (Mset_target : CalM P w K mg base (L2.CX P w) (k + 4) C "set_target" ["self", "name", "room"] (spSeTg P w K mg base k d C)) : FnOk P w K mg base (L2.CX P w) (k + 5) f fd ["_law_session", "_law_action"] (spLAp P w K mg base k d C) := by
  refine F.okX scLAp (fun vs H Q E h => ?_) (fun cdv A outer s H vs Q E hr h => ?_)
  · obtain ⟨s, ac, xs, ys, b, rfl, _⟩ := h
    rfl
  · obtain ⟨s, ac, xs, ys, b, rfl, se, q⟩ := h
    obtain ⟨dx, ts, td, tr, e, e1, e2⟩ := id se
    refine ⟨_, (pss_cons (ps_set (i := 2) scLAp.nd rfl (.inl rfl) (pe_ix (ix_tupK K rfl) (pv 1) pe_int (fun _ _ => rfl)))
      (pss_cons (ps_if (pt_cmpR op_eq (pv 2) pe_str (nomark _))
      (pss_one (ps_ret (pe_cmp (pc_isN (pe_calM Mmove Z.cl hr (passM (takes_of rfl rfl rfl rfl)) (pv 0) (pa_cons (pe_ix (ix_tupK K rfl) (pv 1) pe_int (fun _ _ => rfl)) (pa_cons (pe_ix (ix_tupK K rfl) (pv 1) pe_int (fun _ _ => rfl)) pa_nil)))) rfl)))
      pss_nil)
      (pss_cons (ps_if (pt_cmpR op_eq (pv 2) pe_str (nomark _))
      (pss_one (ps_ret (pe_cmp (pc_isN (pe_calM Menter Z.cl hr (passM (takes_of rfl rfl rfl rfl)) (pv 0) (pa_cons (pe_ix (ix_tupK K rfl) (pv 1) pe_int (fun _ _ => rfl)) (pa_cons (pe_ix (ix_tupK K rfl) (pv 1) pe_int (fun _ _ => rfl)) pa_nil)))) rfl)))
      pss_nil)
      (pss_cons (ps_if (pt_cmpR op_eq (pv 2) pe_str (nomark _))
      (pss_one (ps_ret (pe_cmp (pc_isN (pe_calM Mleave Z.cl hr (passM (takes_of rfl rfl rfl rfl)) (pv 0) (pa_cons (pe_ix (ix_tupK K rfl) (pv 1) pe_int (fun _ _ => rfl)) pa_nil))) rfl)))
      pss_nil)
      (pss_cons (ps_if (pt_cmpR op_eq (pv 2) pe_str (nomark _))
      (pss_one (ps_ret (pe_cmp (pc_isN (pe_calM Mset_target Z.cl hr (passM (takes_of rfl rfl rfl rfl)) (pv 0) (pa_cons (pe_ix (ix_tupK K rfl) (pv 1) pe_int (fun _ _ => rfl)) (pa_cons (pe_ix (ix_tupK K rfl) (pv 1) pe_int (fun _ _ => rfl)) pa_nil)))) rfl)))
      pss_nil)
      (pss_cons (ps_if (pt_cmpR op_eq (pv 2) pe_str (nomark _))
      pss_never
      pss_nil)
      (pss_cons (ps_if (pt_cmpR op_eq (pv 2) pe_str (nomark _))
      pss_never
      pss_nil)
      (pss_cons (ps_if (pt_cmpR op_eq (pv 2) pe_str (nomark _))
      pss_never
      pss_nil)
      pss_never)))))))), ?_⟩
    rcases q with ⟨x, y, ea, q⟩ | ⟨x, y, ea, q⟩ | ⟨x, ea, q⟩ | ⟨x, y, ea, q⟩
    · refine ⟨_, rfl, ac, _, 0, _, rfl, rfl, ea, atI0, ?_⟩
      refine ⟨_, rfl, rfl, _, rfl, ?_⟩
      rw [decide_eq_true rfl]
      refine iteT ⟨_, rfl, s, dx, _, rfl, e, rfl, _, rfl, ac, _, 1, _, rfl, rfl, ea, rfl, _, rfl, ac, _, 2, _, rfl, rfl, ea, rfl, ?_⟩
      refine SeMv_mono q fun H' z => ?_
      show Q (.bl (decide (V.non = V.non))) H'
      rw [decide_eq_true rfl]
      exact z
    · refine ⟨_, rfl, ac, _, 0, _, rfl, rfl, ea, atI0, ?_⟩
      refine ⟨_, rfl, rfl, _, rfl, ?_⟩
      rw [str_dec, show decide (("enter" : Str) = "move") = false by decide +kernel]
      refine iteF ?_
      refine ⟨_, rfl, rfl, _, rfl, ?_⟩
      rw [decide_eq_true rfl]
      refine iteT ⟨_, rfl, s, dx, _, rfl, e, rfl, _, rfl, ac, _, 1, _, rfl, rfl, ea, rfl, _, rfl, ac, _, 2, _, rfl, rfl, ea, rfl, ?_⟩
      refine SeEn_mono q fun H' z => ?_
      show Q (.bl (decide (V.non = V.non))) H'
      rw [decide_eq_true rfl]
      exact z
    · refine ⟨_, rfl, ac, _, 0, _, rfl, rfl, ea, atI0, ?_⟩
      refine ⟨_, rfl, rfl, _, rfl, ?_⟩
      rw [str_dec, show decide (("leave" : Str) = "move") = false by decide +kernel]
      refine iteF ?_
      refine ⟨_, rfl, rfl, _, rfl, ?_⟩
      rw [str_dec, show decide (("leave" : Str) = "enter") = false by decide +kernel]
      refine iteF ?_
      refine ⟨_, rfl, rfl, _, rfl, ?_⟩
      rw [decide_eq_true rfl]
      refine iteT ⟨_, rfl, s, dx, _, rfl, e, rfl, _, rfl, ac, _, 1, _, rfl, rfl, ea, rfl, ?_⟩
      refine SeLv_mono q fun H' z => ?_
      show Q (.bl (decide (V.non = V.non))) H'
      rw [decide_eq_true rfl]
      exact z
    · refine ⟨_, rfl, ac, _, 0, _, rfl, rfl, ea, atI0, ?_⟩
      refine ⟨_, rfl, rfl, _, rfl, ?_⟩
      rw [str_dec, show decide (("set_target" : Str) = "move") = false by decide +kernel]
      refine iteF ?_
      refine ⟨_, rfl, rfl, _, rfl, ?_⟩
      rw [str_dec, show decide (("set_target" : Str) = "enter") = false by decide +kernel]
      refine iteF ?_
      refine ⟨_, rfl, rfl, _, rfl, ?_⟩
      rw [str_dec, show decide (("set_target" : Str) = "leave") = false by decide +kernel]
      refine iteF ?_
      refine ⟨_, rfl, rfl, _, rfl, ?_⟩
      rw [decide_eq_true rfl]
      refine iteT ⟨_, rfl, s, dx, _, rfl, e, rfl, _, rfl, ac, _, 1, _, rfl, rfl, ea, rfl, _, rfl, ac, _, 2, _, rfl, rfl, ea, rfl, ?_⟩
      refine SeTg_mono q fun H' z => ?_
      show Q (.bl (decide (V.non = V.non))) H'
      rw [decide_eq_true rfl]
      exact z
abbrev nLWo : List Str := ["_law_pairs", "_law_name", "_law_one"]
theorem scLWo : FnScope nLWo ["_law_pairs", "_law_name"] (defScope sLWithout) := ⟨rfl, rfl, rfl, by decide +kernel, rfl, by decide +kernel, by decide +kernel⟩
/-- the pairs without one name's -/
def woN (P : List (Str × Int)) (nm : Str) : List (Str × Int) := P.filter fun y => !decide (y.1 = nm)
theorem wo_eq {P : List (Str × Int)} {nm : Str} {c : Int} (nd : (P.map (·.1)).Nodup) (m : (nm, c) ∈ P) : wo P (nm, c) = woN P nm := by
  unfold wo woN
  refine List.filter_congr fun y hy => ?_
  congr 1
  rw [Bool.eq_iff_iff, decide_eq_true_iff, decide_eq_true_iff]
  exact ⟨fun e => congrArg Prod.fst e, fun e => key_uniq nd hy m e⟩
theorem mor_one {P P' P'' : List (Str × Int)} {x : Str × Int} (nd : (P.map (·.1)).Nodup) (no : x.1 ∉ P.map (·.1)) (a : Mor P x P') (b : Mor P x P'') : P' = P'' := by
  have ndx : ((P ++ [x]).map (·.1)).Nodup := by
    rw [List.map_append, List.nodup_append]
    refine ⟨nd, by simp, fun u hu v hv e => no ?_⟩
    rw [List.map_singleton, List.mem_singleton] at hv
    rw [← hv, ← e]
    exact hu
  have up : ∀ {L : List (Str × Int)}, Mor P x L → L.Pairwise (fun u v => ltS u.1 v.1) := fun {L} h => by
    have nl : (L.map (·.1)).Nodup := (h.1.map (·.1)).nodup_iff.mpr ndx
    rw [List.Nodup, List.pairwise_map] at nl
    exact (nl.and h.2).imp fun z => z.2 z.1
  refine (a.1.trans b.1.symm).eq_of_pairwise (fun u v _ _ h1 h2 => ?_) (up a) (up b)
  exact absurd h2 (List.lt_asymm h1)
def spLWo : Sp := fun vs H Q _ => ∃ (p : Addr) (P : List (Str × Int)) (nm : Str), vs = [.ref p, .str nm] ∧ PlAt H p P ∧ P.length ≤ 100 ∧ ∀ H' u, Same H H' → PlD H' u (woN P nm) → Q (.ref u) H'
theorem ok_lwo {f : Addr} {fd : FuncData} {k : Nat} (F : Fun K "_law_without" "_law_without" sLWithout f fd) (T : Nm mg) : FnOk P w K mg base CX0 (k + 1) f fd ["_law_pairs", "_law_name"] spLWo := by
  refine F.ok scLWo (fun vs H Q E h => ?_) (fun cdv A outer s H vs Q E hr h => ?_)
  · obtain ⟨p, P, nm, rfl, _⟩ := h
    rfl
  · obtain ⟨p, P, nm, rfl, hP, lP, done⟩ := h
    refine ⟨_, (pss_one (ps_ret (pe_callTy (call_tupleF K rfl) (by rfl) T.tuple (by decide +kernel) (pa_cons (pe_lc (own := [("_law_one", 2)]) (g := gName 2) (by rfl) scLWo.nd (pi_tupK K rfl (pv 0))
 (blkOk_by (own := [("_law_one", 2)]) (N := nLWo) (sc := defScope sLWithout) (by decide +kernel))
 (fun _ _ _ _ _ => (pg_name (i := 2) scLWo.nd rfl (.inl rfl))) (fun _ _ _ _ _ => pts_one (pt_cmpR op_ne (pe_ix (ix_tupK K rfl) (pv 2) pe_int (fun _ _ => rfl)) (pv 1) (nomark _))) (fun _ _ _ _ _ => (pv 2))) pa_nil)))), ?_⟩
    obtain ⟨ps, p1, p2, p3⟩ := id hP
    refine ⟨_, rfl, p, rfl, ⟨_, p1.sq⟩, fun L hL => lc_tup (K := K) (a := p) (xs := ps.map fun y => V.ref y.1) (fun i G => Same H G ∧ LsAt G L (woN (P.take i) nm)) ⟨same_upd hL, .nil upd_same⟩ (fun i G _ hh => (p1.same hh.1).sq) ?_ ?_⟩
    · rintro i v G hv ⟨s1, l1⟩
      obtain ⟨u, hu, rfl⟩ := get_pl hv
      have hk : P[i]? = some u.2 := by rw [p2, List.getElem?_map, hu]; rfl
      have eu := s1 _ _ (p3 u (List.mem_of_getElem? hu))
      have es : woN (P.take (i + 1)) nm = woN (P.take i) nm ++ if (!decide (u.2.1 = nm)) = true then [u.2] else [] := by
        unfold woN
        rw [take_snoc hk, filter_snoc]
      refine ⟨rfl, _, rfl, u.1, _, 0, _, rfl, rfl, SqT.of eu, atI0, _, rfl, rfl, _, rfl, ?_⟩
      rw [str_dec]
      refine ite2 (fun c => ?_) (fun c => ?_)
      · obtain ⟨acc, a1, a2, a3⟩ := l1.snoc (t := u.1) eu
        refine ⟨_, rfl, acc, a1, ?_, same_put s1 hL, ?_⟩
        · have : (woN (P.take i) nm).length ≤ (P.take i).length := List.length_filter_le _ _
          rw [List.length_take] at this
          rw [a2]
          exact small1000 (by omega)
        · rw [es, if_pos c]
          exact a3
      · rw [es, if_neg c, List.append_nil]
        exact ⟨s1, l1⟩
    · rintro G ⟨s1, l1⟩
      rw [List.length_map, show ps.length = P.length by rw [p2, List.length_map], List.take_length] at l1
      obtain ⟨ys, y1, y2⟩ := l1.tup
      exact ⟨L, ys, rfl, SqL.of y1, fun t ob ht od => done _ t (s1.trans (same_upd ht)) (y2 t ob ht od)⟩
end
end Fw
set_option maxHeartbeats 4000000
namespace Fw
open PySem PySem.Spec PyProof.Rows L2
open TL
/-! a session's text; what the law sees of a session -/
def tFz (ts : List TE) : TE := fun σ H Q => tJs ts Str.empty σ H fun out H1 => Q (.str out) H1
theorem pe_fsZ {X : Cx} {v1 v2 : Expr} {rest : List Expr} {ts : List TE} {pos : Pos} (h : PJ X (v1 :: v2 :: rest) ts) : PE X (.JoinedStr (v1 :: v2 :: rest) pos) (tFz ts) := pe_joined h
def tI (i : Int) : Str := Str.ofString (toString i)
theorem tI_len {i : Int} (h0 : 0 ≤ i) (h1 : i ≤ 1000) : (tI i).length ≤ 5 := by
  have e := int_text_length_le10 (a := i) (k := 4) (by decide) (by omega)
  unfold tI
  rw [PySem.ofString_length]
  exact e
def hsT (n d : Int) : Str := Str.empty ++ tI n ++ Str.ofString " rooms, " ++ tI d ++ Str.ofString " doors"
/-- what str says of a session -/
def szT (n d p a : Int) : Str := Str.empty ++ hsT n d ++ Str.ofString ", " ++ tI p ++ Str.ofString " people, " ++ tI a ++ Str.ofString " actions"
theorem pre_leZ {a b : Str} (h : (a ++ b).length ≤ 100) : (a ++ b).length ≤ sizeLine ∧ a.length ≤ 100 := by
  rw [PySem.Str.length_append] at h ⊢
  rw [sizeLine_eq]
  omega
theorem add_leZ {a b : Str} (h : (a ++ b).length ≤ sizeLine) : a.length + b.length ≤ sizeLine := by rwa [PySem.Str.length_append] at h
theorem szT_len {n d p a : Int} (n0 : 0 ≤ n) (n1 : n ≤ 100) (d0 : 0 ≤ d) (d1 : d ≤ 100) (p0 : 0 ≤ p) (p1 : p ≤ 100) (a0 : 0 ≤ a) (a1 : a ≤ 100) : (szT n d p a).length ≤ 100 := by
  have e1 := tI_len n0 (by omega)
  have e2 := tI_len d0 (by omega)
  have e3 := tI_len p0 (by omega)
  have e4 := tI_len a0 (by omega)
  have l0 : Str.empty.length = 0 := rfl
  have l1 : (Str.ofString " rooms, ").length = 8 := by decide +kernel
  have l2 : (Str.ofString " doors").length = 6 := by decide +kernel
  have l3 : (Str.ofString ", ").length = 2 := by decide +kernel
  have l4 : (Str.ofString " people, ").length = 9 := by decide +kernel
  have l5 : (Str.ofString " actions").length = 8 := by decide +kernel
  unfold szT hsT
  simp only [PySem.Str.length_append]
  omega
theorem szT_law (n d p a : Int) : tI n ++ Str.ofString " rooms, " ++ tI d ++ Str.ofString " doors, " ++ tI p ++ Str.ofString " people, " ++ tI a ++ Str.ofString " actions" = szT n d p a := by
  refine ext_tl ?_
  have e : tl (Str.ofString " doors, ") = tl (Str.ofString " doors") ++ tl (Str.ofString ", ") := by decide +kernel
  have e0 : tl Str.empty = [] := rfl
  unfold szT hsT
  simp only [tl_append, e, e0, List.nil_append, List.append_assoc]
theorem szT_ok {n d p a : Int} (n0 : 0 ≤ n) (n1 : n ≤ 100) (d0 : 0 ≤ d) (d1 : d ≤ 100) (p0 : 0 ≤ p) (p1 : p ≤ 100) (a0 : 0 ≤ a) (a1 : a ≤ 100) : ((szT n d p a).cps.toList.all fun c => decide (c < 1114112)) = true := by
  have t0 : ∀ j ∈ List.range 101, ((tI (j : Nat)).cps.toList.all fun c => decide (c < 1114112)) = true := by decide +kernel
  have tk : ∀ {i : Int}, 0 ≤ i → i ≤ 100 → ∀ c ∈ tl (tI i), c < 1114112 := fun {i} h0 h1 c hc => by
    have := t0 i.toNat (List.mem_range.mpr (by omega))
    rw [show ((i.toNat : Nat) : Int) = i by omega] at this
    exact of_decide_eq_true (List.all_eq_true.mp this c hc)
  have lk : ∀ c ∈ tl (Str.ofString " rooms, ") ++ tl (Str.ofString " doors") ++ tl (Str.ofString ", ") ++ tl (Str.ofString " people, ") ++ tl (Str.ofString " actions"), c < 1114112 := by decide +kernel
  rw [List.all_eq_true]
  intro c hc
  refine decide_eq_true ?_
  have hc : c ∈ tl (szT n d p a) := hc
  have e0 : tl Str.empty = [] := rfl
  unfold szT hsT at hc
  simp only [tl_append, e0, List.nil_append, List.mem_append] at hc lk
  rcases hc with (((((((h | h) | h) | h) | h) | h) | h) | h) | h
  · exact tk n0 n1 _ h
  · exact lk _ (by simp [h])
  · exact tk d0 d1 _ h
  · exact lk _ (by simp [h])
  · exact lk _ (by simp [h])
  · exact tk p0 p1 _ h
  · exact lk _ (by simp [h])
  · exact tk a0 a1 _ h
  · exact lk _ (by simp [h])
/-! methods with keyword-only defaults; an own instance's dunder methods -/
def MetD (K : PySem.W.Frag) (C : Addr) (m q : Str) (st : Stmt) (ps : List Str) (dvs : List V) : Prop := ∃ f fd ds, Meth K C m f ∧ Binds K fd ps ds ∧ Vals dvs ds ∧ Fun K m q st f fd
def CalMd (P : Program) (w : World) (K : PySem.W.Frag) (mg : Str → Option Value) (base : Heap) (CX : CXT) (k : Nat) (C : Addr) (m : Str) (dvs : List V) (sp : Sp) : Prop := ∃ f fd ps ds, Meth K C m f ∧ Binds K fd ps ds ∧ Vals dvs ds ∧ FnOk P w K mg base CX k f fd ps sp
def CalR (P : Program) (w : World) (K : PySem.W.Frag) (mg : Str → Option Value) (base : Heap) (CX : CXT) (k : Nat) (C : Addr) (m : Str) (sp : Sp) : Prop := ∃ f, Meth K C m f ∧ FnR P w K mg base CX k f sp
section
variable {P : Program} {w : World} {K : PySem.W.Frag} {mg : Str → Option Value} {base : Heap}
theorem MetD.cal {C : Addr} {m q : Str} {st : Stmt} {ps : List Str} {dvs : List V} {CX : CXT} {k : Nat} {sp : Sp} (D : MetD K C m q st ps dvs) (h : ∀ f fd, Fun K m q st f fd → FnOk P w K mg base CX k f fd ps sp) : CalMd P w K mg base CX k C m dvs sp := by
  obtain ⟨f, fd, ds, a, b, c, d⟩ := D
  exact ⟨f, fd, ps, ds, a, b, c, h f fd d⟩
theorem CalM.raw {CX : CXT} {k : Nat} {C : Addr} {m : Str} {ps : List Str} {sp : Sp} (M : CalM P w K mg base CX k C m ps sp) : CalR P w K mg base CX k C m sp := by
  obtain ⟨f, fd, a, b, F⟩ := M
  exact ⟨f, a, (FnOk.raw F b .nil).imp fun vs H Q E h => by rw [List.append_nil]; exact h⟩
theorem CalM.up {CX : CXT} {j k : Nat} {C : Addr} {m : Str} {ps : List Str} {sp : Sp} (M : CalM P w K mg base CX j C m ps sp) (h : j ≤ k) : CalM P w K mg base CX k C m ps sp := by
  obtain ⟨f, fd, a, b, F⟩ := M
  exact ⟨f, fd, a, b, F.mono h⟩
theorem CalMd.up {CX : CXT} {j k : Nat} {C : Addr} {m : Str} {dvs : List V} {sp : Sp} (M : CalMd P w K mg base CX j C m dvs sp) (h : j ≤ k) : CalMd P w K mg base CX k C m dvs sp := by
  obtain ⟨f, fd, ps, ds, a, b, c, F⟩ := M
  exact ⟨f, fd, ps, ds, a, b, c, F.mono h⟩
theorem CalR.up {CX : CXT} {j k : Nat} {C : Addr} {m : Str} {sp : Sp} (M : CalR P w K mg base CX j C m sp) (h : j ≤ k) : CalR P w K mg base CX k C m sp := by
  obtain ⟨f, a, F⟩ := M
  exact ⟨f, a, F.mono h⟩
theorem pe_calMd0 {X : Cx} {CX : CXT} {k : Nat} {C : Addr} {m : Str} {dvs : List V} {sp : Sp} {E : XK} {o : Expr} {ta : TE} {apos pos : Pos} {pl : Sem Bool} (M : CalMd X.prog X.w X.K X.mg X.base CX k C m dvs sp) (c : Cls X.K C) (hr : Room k X.A) (up : Passes CX X E) (ho : PE X o ta)
    (h3 : eval (.Call (.Attribute o m apos) [] [] pos) X.env = (do
      let ov ← eval o X.env
      standAt apos.atName
      let (f, first) ← holding [ov] (getMethod ov m pl)
      callWith pos f first (backTo pos (starEach [] X.env)) (backToKw pos (keywordEach [] X.env))) := by rfl) :
    PE X (.Call (.Attribute o m apos) [] [] pos) (tMeth C m sp dvs E ta tNil) := by
  obtain ⟨f, fd, ps, ds, a, b, rel, F⟩ := M
  exact pe_meth0 ho c a F hr b rel up h3
theorem call_lenM {X : Cx} {CX : CXT} {k : Nat} {C : Addr} {sp : Sp} {E : XK} (M : CalR X.prog X.w X.K X.mg X.base CX k C "__len__" sp) (room : Room (k + 1) X.A) (up : Passes CX X E) : CallR X (.builtin "len") (rLenOwn C sp E) := by
  obtain ⟨g, a, F⟩ := M
  exact call_lenOwn a.at_ a.fn F room up
theorem call_strM {X : Cx} {CX : CXT} {k : Nat} {C : Addr} {sp : Sp} {E : XK} (M : CalR X.prog X.w X.K X.mg X.base CX k C "__str__" sp) (room : Room (k + 2) X.A) (up : Passes CX X E) : CallR X (.type "str") (rStrOwn C sp E) := by
  obtain ⟨g, a, F⟩ := M
  exact call_strOwn a.at_ a.fn F room up
/-! actions as data -/
inductive Ar | s (x : Str) | i (r : Int)
def Ar.v : Ar → V | .s x => .str x | .i r => .int r
def Ar.d : Ar → PyData | .s x => .str x | .i r => .int r
/-- an action in memory -/
def ActAt (H : Hp) (v : V) (l : List Ar) : Prop := ∃ a, v = .ref a ∧ TpAt H a (l.map Ar.v)
theorem ActAt.tk {H H' : Hp} {v : V} {l : List Ar} (x : ActAt H v l) (t : Tk H H') : ActAt H' v l := by
  obtain ⟨a, e, h⟩ := x
  exact ⟨a, e, h.tk t⟩
inductive AcsAt (H : Hp) : List V → List (List Ar) → Prop
  | nil : AcsAt H [] []
  | cons {v : V} {l : List Ar} {vs : List V} {ls : List (List Ar)} : ActAt H v l → AcsAt H vs ls → AcsAt H (v :: vs) (l :: ls)
theorem AcsAt.tk {H H' : Hp} (t : Tk H H') : ∀ {vs : List V} {ls : List (List Ar)}, AcsAt H vs ls → AcsAt H' vs ls
  | _, _, .nil => .nil
  | _, _, .cons a b => .cons (a.tk t) (b.tk t)
theorem AcsAt.snoc {H : Hp} {v : V} {l : List Ar} (x : ActAt H v l) : ∀ {vs : List V} {ls : List (List Ar)}, AcsAt H vs ls → AcsAt H (vs ++ [v]) (ls ++ [l])
  | _, _, .nil => .cons x .nil
  | _, _, .cons a b => .cons a (b.snoc x)
theorem AcsAt.len {H : Hp} : ∀ {vs : List V} {ls : List (List Ar)}, AcsAt H vs ls → vs.length = ls.length
  | _, _, .nil => rfl
  | _, _, .cons _ b => congrArg Nat.succ b.len
def actD (l : List Ar) : PyData := .tuple (l.map Ar.d)
theorem ars_dp {H : Hp} : ∀ l : List Ar, DpAll K H (l.map Ar.v) (l.map Ar.d)
  | [] => .nil
  | .s x :: l => .cons (.str x) (ars_dp l)
  | .i r :: l => .cons (.int r) (ars_dp l)
theorem AcsAt.dp {H : Hp} : ∀ {vs : List V} {ls : List (List Ar)}, AcsAt H vs ls → DpAll K H vs (ls.map actD)
  | _, _, .nil => .nil
  | _, _, .cons a b => by
    obtain ⟨c, rfl, h⟩ := a
    exact .cons (.tup h.sq (ars_dp _)) b.dp
/-- an action's arguments are small -/
def Ar.ok : Ar → Prop
  | .s x => x.length ≤ 20 ∧ (x.cps.toList.all fun c => decide (c < 1114112)) = true
  | .i r => -1000 ≤ r ∧ r ≤ 1000
def ActOk (l : List Ar) : Prop := l.length ≤ 3 ∧ ∀ x ∈ l, x.ok
theorem int_gdV {i : Int} (h0 : -1000 ≤ i) (h1 : i ≤ 1000) : Gd 0 0 0 (.int i) := by
  refine ⟨decide_eq_true ?_, Nat.zero_le _, Nat.zero_le _⟩
  have : (1000 : Nat) ≤ 10 ^ 59 := by decide +kernel
  omega
theorem str_gdV {x : Str} {m : Nat} (h : x.length ≤ m) (k : (x.cps.toList.all fun c => decide (c < 1114112)) = true) : Gd 0 0 m (.str x) := ⟨k, Nat.zero_le _, h⟩
theorem ars_gd : ∀ {l : List Ar}, (∀ x ∈ l, x.ok) → GdA 0 0 (21 * l.length) (l.map Ar.d)
  | [], _ => GdA.nil
  | x :: l, h => by
    have t := ars_gd fun y hy => h y (List.mem_cons_of_mem _ hy)
    have hx := h x List.mem_cons_self
    rw [List.map_cons, List.length_cons]
    cases x with
    | s z => exact (GdA.cons (str_gdV hx.1 hx.2) t).up (Nat.le_refl _) (Nat.le_refl _) (by omega)
    | i r => exact (GdA.cons (int_gdV hx.1 hx.2) t).up (Nat.le_refl _) (Nat.le_refl _) (by omega)
theorem act_gd {l : List Ar} (h : ActOk l) : Gd 0 1 63 (actD l) := (Gd.tup (ars_gd h.2)).up (Nat.le_refl _) (Nat.le_refl _) (by have := h.1; omega)
theorem acts_gd : ∀ {ls : List (List Ar)}, (∀ l ∈ ls, ActOk l) → GdA 0 1 (64 * ls.length) (ls.map actD)
  | [], _ => GdA.nil
  | l :: ls, h => by
    have t := acts_gd fun y hy => h y (List.mem_cons_of_mem _ hy)
    rw [List.map_cons, List.length_cons]
    exact (GdA.cons (act_gd (h l List.mem_cons_self)) t).up (Nat.le_refl _) (Nat.le_refl _) (by omega)
theorem ars_nod : ∀ l : List Ar, PyData.hasDictAll (l.map Ar.d) = false
  | [] => rfl
  | .s x :: l => by rw [List.map_cons]; simp only [PyData.hasDictAll, Ar.d, PyData.hasDict, ars_nod l, Bool.or_false]
  | .i r :: l => by rw [List.map_cons]; simp only [PyData.hasDictAll, Ar.d, PyData.hasDict, ars_nod l, Bool.or_false]
theorem acts_nod : ∀ ls : List (List Ar), PyData.hasDictAll (ls.map actD) = false
  | [] => rfl
  | l :: ls => by rw [List.map_cons]; simp only [PyData.hasDictAll, actD, PyData.hasDict, ars_nod l, acts_nod ls, Bool.or_false]
theorem each_gdV {α : Type} {f : α → PyData} {k m : Nat} : ∀ {xs : List α}, (∀ x ∈ xs, Gd 0 k m (f x)) → GdA 0 k ((m + 1) * xs.length) (xs.map f)
  | [], _ => GdA.nil.up (Nat.le_refl _) (Nat.le_refl _) (Nat.zero_le _)
  | x :: xs, h => by
    rw [List.map_cons]
    exact (GdA.cons (h x List.mem_cons_self) (each_gdV fun y hy => h y (List.mem_cons_of_mem _ hy))).up (Nat.le_refl _) (Nat.le_refl _) (by rw [List.length_cons, Nat.mul_succ]; omega)
theorem two_gdV {a b : PyData} {m l : Nat} (h : Gd 0 0 m a) (k : Gd 0 0 l b) : Gd 0 1 (m + l + 2) (.tuple [a, b]) := (Gd.tup (GdA.cons h (GdA.cons k (GdA.nil (n := 0))))).up (Nat.le_refl _) (Nat.le_refl _) (by omega)
theorem nam_gdV {z : Str} (h : Nam z) : Gd 0 0 8 (.str z) := by
  refine str_gdV h.2.1 ?_
  rw [List.all_eq_true]
  intro c hc
  have := h.2.2 c hc
  exact decide_eq_true (by omega)
theorem pl_gdV {n : Int} {P : List (Str × Int)} (pl : Pl n P) (n8 : n ≤ 8) (l : P.length ≤ 100) : Gd 0 2 1100 (pld P) := by
  have := each_gdV (f := pp) (k := 1) (m := 10) (xs := P) fun x hx => two_gdV (nam_gdV (pl.nm.nam _ (List.mem_map_of_mem (f := (·.1)) hx))) (int_gdV (by have := (pl.rm x hx).1; omega) (by have := (pl.rm x hx).2; omega))
  exact (Gd.tup this).up (Nat.le_refl _) (Nat.le_refl _) (by omega)
theorem hs_gdV {n : Int} {D : List (Int × Int)} (f : Forest n D) (n0 : 0 ≤ n) (n1 : n ≤ 8) : Gd 0 3 40 (hd n D) := by
  have := each_gdV (f := pd) (k := 1) (m := 2) (xs := D) fun d hd => by
    have := f.ends (a := d.1) (b := d.2) hd
    exact two_gdV (int_gdV (by omega) (by omega)) (int_gdV (by omega) (by omega))
  have hl : D.length ≤ 8 := f.len
  exact (Gd.tup (GdA.cons ((int_gdV (by omega) (by omega)).up (Nat.le_refl 0) (Nat.zero_le 2) (Nat.le_refl 0)) (GdA.cons (Gd.tup this) (GdA.nil (n := 0))))).up (Nat.le_refl _) (Nat.le_refl _) (by omega)
/-- what the law sees of a session -/
def snD (n : Int) (D : List (Int × Int)) (P G : List (Str × Int)) (ls : List (List Ar)) : PyData := .list [hd n D, pld P, pld G, .tuple (ls.map actD), .int (ls.length : Nat), .str (szT n (D.length : Nat) (P.length : Nat) (ls.length : Nat))]
theorem sn_shows {n : Int} {D : List (Int × Int)} {P G : List (Str × Int)} {ls : List (List Ar)} (s : St1 n D P G) (h : ∀ l ∈ ls, ActOk l) (hl : ls.length ≤ 60) : (snD n D P G ls).showable = true ∧ (snD n D P G ls).hasDict = false ∧ (snD n D P G ls).depth ≤ 60 ∧ (snD n D P G ls).shown.length ≤ sizeLine := by
  have lG : G.length ≤ 100 := by
    have := congrArg List.length s.e
    rw [List.length_map, List.length_map] at this
    rw [this]
    exact s.l
  have lD : D.length ≤ 8 := s.f.len
  have lp := s.l
  have n0 := s.n0
  have n8 := s.n8
  have g : Gd 0 4 10000 (snD n D P G ls) := (Gd.lst (GdA.cons (hs_gdV s.f s.n0 s.n8) (GdA.cons ((pl_gdV s.p s.n8 s.l).up (Nat.le_refl _) (by omega : 2 ≤ 3) (Nat.le_refl _)) (GdA.cons ((pl_gdV s.g s.n8 lG).up (Nat.le_refl _) (by omega : 2 ≤ 3) (Nat.le_refl _)) (GdA.cons ((Gd.tup (acts_gd h)).up (Nat.le_refl _) (by omega : 2 ≤ 3) (Nat.le_refl _)) (GdA.cons ((int_gdV (i := (ls.length : Nat)) (by omega) (by omega)).up (Nat.le_refl _) (by omega : 0 ≤ 3) (Nat.le_refl _)) (GdA.cons ((str_gdV (szT_len (n := n) (d := (D.length : Nat)) (p := (P.length : Nat)) (a := (ls.length : Nat)) (by omega) (by omega) (by omega) (by omega) (by omega) (by omega) (by omega) (by omega)) (szT_ok (by omega) (by omega) (by omega) (by omega) (by omega) (by omega) (by omega) (by omega))).up (Nat.le_refl _) (by omega : 0 ≤ 3) (Nat.le_refl _)) (GdA.nil (n := 0))))))))).up (Nat.le_refl _) (Nat.le_refl _) (by omega)
  have sh := g.shows (by decide) (by decide) (by decide)
  refine ⟨sh.1, ?_, sh.2.1, sh.2.2⟩
  have e1 := (hd_sw s.f s.n0 s.n8).n
  have e2 := (s.p.sw s.n8 s.l).n
  have e3 := (s.g.sw s.n8 lG).n
  simp only [snD, PyData.hasDict, PyData.hasDictAll, e1, e2, e3, acts_nod, Bool.or_false]
theorem sn_dp {H : Hp} {l h p g t : Addr} {n : Int} {D : List (Int × Int)} {P G : List (Str × Int)} {ls : List (List Ar)} {ys : List V} (e : H l = some (.lst [.ref h, .ref p, .ref g, .ref t, .int (ls.length : Nat), .str (szT n (D.length : Nat) (P.length : Nat) (ls.length : Nat))]))
    (x : HouseAt H h n D) (y : PlAt H p P) (z : PlAt H g G) (u : SqT K H t ys) (v : AcsAt H ys ls) : Dp K H (.ref l) (snD n D P G ls) :=
  .lst (SqL.of e) (.cons x.dp (.cons y.dp (.cons z.dp (.cons (.tup u v.dp) (.cons (.int _) (.cons (.str _) .nil))))))
abbrev nHSz : List Str := ["house", "rooms", "doors"]
theorem scHSz : FnScope nHSz ["house"] (defScope sHouseSize) := ⟨rfl, rfl, rfl, by decide +kernel, rfl, by decide +kernel, by decide +kernel⟩
def spHSz : Sp := fun vs H Q _ => ∃ (h : Addr) (n : Int) (D : List (Int × Int)), vs = [.ref h] ∧ HouseAt H h n D ∧ 0 ≤ n ∧ n ≤ 8 ∧ D.length ≤ 8 ∧ Q (.str (hsT n (D.length : Nat))) H
theorem hsT_len {n d : Int} (n0 : 0 ≤ n) (n1 : n ≤ 100) (d0 : 0 ≤ d) (d1 : d ≤ 100) : (hsT n d).length ≤ 100 := by
  have e1 := tI_len n0 (by omega)
  have e2 := tI_len d0 (by omega)
  have l0 : Str.empty.length = 0 := rfl
  have l1 : (Str.ofString " rooms, ").length = 8 := by decide +kernel
  have l2 : (Str.ofString " doors").length = 6 := by decide +kernel
  unfold hsT
  simp only [PySem.Str.length_append]
  omega
theorem ok_hsz {f : Addr} {fd : FuncData} {k : Nat} (F : Fun K "house_size" "house_size" sHouseSize f fd) (T : Nm mg) : FnOk P w K mg base CX0 (k + 1) f fd ["house"] spHSz := by
  refine F.ok scHSz (fun vs H Q E h => ?_) (fun cdv A outer s H vs Q E hr h => ?_)
  · obtain ⟨h, n, D, rfl, _⟩ := h
    rfl
  · obtain ⟨h, n, D, rfl, hH, n0, n8, lD, q⟩ := h
    refine ⟨_, (pss_cons (ps_asg (pv 0) (pg_tup (by rfl) (pgs_cons (pg_name (i := 1) scHSz.nd rfl (.inl rfl)) (pgs_cons (pg_name (i := 2) scHSz.nd rfl (.inl rfl)) pgs_nil))))
      (pss_one (ps_ret (pe_fsZ (PJ.cons (pe_fmt (pv 1)) (PJ.cons pe_str (PJ.cons (pe_fmt (pe_callB (call_lenK K rfl) (by rfl) T.len (by decide +kernel) (pa_cons (pv 2) pa_nil))) (PJ.cons pe_str PJ.nil)))))))), ?_⟩
    obtain ⟨qd, ps, h1, h2, eD, h4⟩ := hH
    have ln : (ps.map fun p => V.ref p.1).length = D.length := by rw [eD, List.length_map, List.length_map]
    refine ⟨_, rfl, h, _, rfl, SqT.of h1, rfl, _, _, rfl, _, _, rfl, rfl, ?_⟩
    dsimp only [gName]
    have l4 := pre_leZ (hsT_len (n := n) (d := (D.length : Nat)) n0 (by omega) (by omega) (by omega))
    have l3 := pre_leZ l4.2
    have l2 := pre_leZ l3.2
    have l1 := pre_leZ l2.2
    refine ⟨_, rfl, .inr ⟨n, rfl, log_small n0 (by omega), _, rfl, l1.1, _, rfl, l2.1, _, rfl, qd, _, rfl, .inr (SqT.of h2), .inr ⟨_, rfl, ?_⟩⟩⟩
    rw [ln]
    exact ⟨log_small (by omega) (by omega), _, rfl, l3.1, _, rfl, l4.1, q⟩
abbrev nSeStr : List Str := ["self"]
theorem scSeStr : FnScope nSeStr ["self"] (defScope iSession___str__) := ⟨rfl, rfl, rfl, by decide +kernel, rfl, by decide +kernel, by decide +kernel⟩
def spSeStr (K : PySem.W.Frag) (C : Addr) : Sp := fun vs H Q _ => ∃ (s st : Addr) (xs ys : List V) (b : Bool) (n : Int) (D : List (Int × Int)) (P G : List (Str × Int)), vs = [.ref s] ∧ SesAt K H C s xs ys b ∧ atI xs (-1) = some (.ref st) ∧ StAt H st n D P G ∧ St1 n D P G ∧ ys.length ≤ 60 ∧ Q (.str (szT n (D.length : Nat) (P.length : Nat) (ys.length : Nat))) H
theorem ok_sestr {f C : Addr} {fd : FuncData} {k : Nat} (F : Fun K "__str__" "Session.__str__" iSession___str__ f fd) (T : Nm mg) (Z : SesK K mg C) (Chouse_size : Cal P w K mg base k "house_size" ["house"] spHSz) (Mhouse : CalMd P w K mg base CX0 k C "house" [.non] (spSeHo K C)) (Mplacement : CalMd P w K mg base CX0 k C "placement" [.non] (spSePl K C)) : FnOk P w K mg base CX0 (k + 1) f fd ["self"] (spSeStr K C) := by
  refine F.ok scSeStr (fun vs H Q E h => ?_) (fun cdv A outer z H vs Q E hr h => ?_)
  · obtain ⟨s, st, xs, ys, b, n, D, P, G, rfl, _⟩ := h
    rfl
  · obtain ⟨s, st, xs, ys, b, n, D, P, G, rfl, se, la, hs, s1, ly, q⟩ := h
    refine ⟨_, (pss_one (ps_ret (pe_fsZ (PJ.cons (pe_fmt (pe_cal Chouse_size hr (by rfl) (pa_cons (pe_calMd0 Mhouse Z.cl hr (E := fun _ _ _ => False) (fun _ _ _ _ _ _ _ z => z.elim) (pv 0)) pa_nil))) (PJ.cons pe_str (PJ.cons (pe_fmt (pe_callB (call_lenK K rfl) (by rfl) T.len (by decide +kernel) (pa_cons (pe_calMd0 Mplacement Z.cl hr (E := fun _ _ _ => False) (fun _ _ _ _ _ _ _ z => z.elim) (pv 0)) pa_nil))) (PJ.cons pe_str (PJ.cons (pe_fmt (pe_callB (call_lenK K rfl) (by rfl) T.len (by decide +kernel) (pa_cons (pe_fld (pv 0) rfl) pa_nil))) (PJ.cons pe_str PJ.nil))))))))), ?_⟩
    obtain ⟨dx, ts, td, tr, e, e1, e2⟩ := id se
    obtain ⟨h, p, g, et, hH, hP, hG⟩ := hs
    obtain ⟨ps, p1, p2, p3⟩ := id hP
    have lp : (ps.map fun p => V.ref p.1).length = P.length := by rw [p2, List.length_map, List.length_map]
    have n0 := s1.n0
    have n8 := s1.n8
    have lD : D.length ≤ 8 := s1.f.len
    have lP := s1.l
    have l6 := pre_leZ (szT_len (n := n) (d := (D.length : Nat)) (p := (P.length : Nat)) (a := (ys.length : Nat)) (by omega) (by omega) (by omega) (by omega) (by omega) (by omega) (by omega) (by omega))
    have l5 := pre_leZ l6.2
    have l4 := pre_leZ l5.2
    have l3 := pre_leZ l4.2
    have l2 := pre_leZ l3.2
    have l1 := pre_leZ l2.2
    refine ⟨_, rfl, s, dx, _, rfl, e, rfl, s, st, h, p, g, xs, ys, b, rfl, se, la, et, h, n, D, rfl, hH, n0, n8, lD, .inl ⟨_, rfl, ?_, _, rfl, l1.1, _, rfl, l2.1, _, rfl, s, dx, _, rfl, e, rfl, s, st, h, p, g, xs, ys, b, rfl, se, la, et, p, _, rfl, .inr p1.sq, .inr ⟨_, rfl, ?_⟩⟩⟩
    · have := hsT_len (n := n) (d := (D.length : Nat)) (by omega) (by omega) (by omega) (by omega)
      rw [sizeLine_eq]
      omega
    rw [lp]
    exact ⟨log_small (by omega) (by omega), _, rfl, l3.1, _, rfl, l4.1, _, rfl, s, C, dx, _, .ref td, rfl, e, Z.cl, Z.nd, rfl, td, ys, rfl, .inr e2, .inr ⟨_, rfl, log_small (by omega) (by omega), _, rfl, l5.1, _, rfl, l6.1, q⟩⟩
abbrev nLSnap : List Str := ["_law_session", "_law_found"]
theorem scLSnap : FnScope nLSnap ["_law_session"] (defScope sLSnapshot) := ⟨rfl, rfl, rfl, by decide +kernel, rfl, by decide +kernel, by decide +kernel⟩
def spLSn (K : PySem.W.Frag) (C : Addr) : Sp := fun vs H Q _ => ∃ (s st : Addr) (xs ys : List V) (b : Bool) (n : Int) (D : List (Int × Int)) (P G : List (Str × Int)) (ls : List (List Ar)), vs = [.ref s] ∧ SesAt K H C s xs ys b ∧ atI xs (-1) = some (.ref st) ∧ StAt H st n D P G ∧ St1 n D P G ∧ AcsAt H ys ls ∧ (∀ l ∈ ls, ActOk l) ∧ ls.length ≤ 60 ∧ ∀ H', Same H H' → Q (.str (snD n D P G ls).shown) H'
theorem ok_lsn {f C : Addr} {fd : FuncData} {k : Nat} (F : Fun K "_law_snapshot" "_law_snapshot" sLSnapshot f fd) (T : Nm mg) (Z : SesK K mg C) (Mhouse : CalMd P w K mg base CX0 (k + 2) C "house" [.non] (spSeHo K C)) (Mplacement : CalMd P w K mg base CX0 (k + 2) C "placement" [.non] (spSePl K C)) (Mtargets : CalMd P w K mg base CX0 (k + 2) C "targets" [.non] (spSeTa K C)) (Mactions : CalM P w K mg base CX0 (k + 2) C "actions" ["self"] (spSeAc K C))
    (Mlen : CalR P w K mg base CX0 (k + 1) C "__len__" (spSeLn K C)) (Mstr : CalR P w K mg base CX0 k C "__str__" (spSeStr K C)) : FnG P w K mg base (k + 3) f fd ["_law_session"] (spLSn K C) := by
  refine Fun.okG F scLSnap (fun vs H Q E h => ?_) (fun cdv A outer z H vs Q gd hr h => ?_)
  · obtain ⟨s, st, xs, ys, b, n, D, P, G, ls, rfl, _⟩ := h
    rfl
  · obtain ⟨s, st, xs, ys, b, n, D, P, G, ls, rfl, se, la, hs, s1, ac, aok, ll, q⟩ := h
    refine ⟨_, (pss_cons (ps_set (i := 1) scLSnap.nd rfl (.inl rfl) (pe_lst (pa_cons (pe_calMd0 Mhouse Z.cl hr (E := fun _ _ _ => False) (fun _ _ _ _ _ _ _ z => z.elim) (pv 0)) (pa_cons (pe_calMd0 Mplacement Z.cl hr (E := fun _ _ _ => False) (fun _ _ _ _ _ _ _ z => z.elim) (pv 0)) (pa_cons (pe_calMd0 Mtargets Z.cl hr (E := fun _ _ _ => False) (fun _ _ _ _ _ _ _ z => z.elim) (pv 0)) pa_nil)))))
      (pss_one (ps_ret (pe_callB (call_repr gd (units65 hr)) (by rfl) T.repr (by decide +kernel) (pa_cons (pe_op op_cat (pv 1) (pe_lst (pa_cons (pe_calM0 Mactions Z.cl hr (E := fun _ _ _ => False) (fun _ _ _ _ _ _ _ z => z.elim) (pv 0)) (pa_cons (pe_callB (call_lenM (E := fun _ _ _ => False) Mlen hr (fun _ _ _ _ _ _ _ z => z.elim)) (by rfl) T.len (by decide +kernel) (pa_cons (pv 0) pa_nil)) (pa_cons (pe_callTy (call_strM (E := fun _ _ _ => False) Mstr hr (fun _ _ _ _ _ _ _ z => z.elim)) (by rfl) T.str (by decide +kernel) (pa_cons (pv 0) pa_nil)) pa_nil))))) pa_nil))))), ?_⟩
    obtain ⟨dx, ts, td, tr, e, e1, e2⟩ := id se
    obtain ⟨h, p, g, et, hH, hP, hG⟩ := id hs
    have ly := ac.len
    refine ⟨_, rfl, s, dx, _, rfl, e, rfl, s, st, h, p, g, xs, ys, b, rfl, se, la, et, _, rfl, s, dx, _, rfl, e, rfl, s, st, h, p, g, xs, ys, b, rfl, se, la, et, _, rfl, s, dx, _, rfl, e, rfl, s, st, h, p, g, xs, ys, b, rfl, se, la, et, by show 3 ≤ sizeLine; decide, fun l1 f1 => ?_⟩
    have u1 := same_upd (o := .lst [.ref h, .ref p, .ref g]) f1
    have a1 : (upd H l1 (.lst [.ref h, .ref p, .ref g])) l1 = some (.lst [.ref h, .ref p, .ref g]) := upd_same
    generalize upd H l1 (.lst [.ref h, .ref p, .ref g]) = H1 at *
    replace se := se.same u1
    replace hs := hs.same u1
    replace e := u1 _ _ e
    refine ⟨_, rfl, _, rfl, s, dx, _, rfl, e, rfl, s, xs, ys, b, rfl, se, fun t et' => ⟨_, rfl, s, dx, _, rfl, e, ⟨s, xs, ys, b, rfl, se, _, rfl, by omega, by omega, _, rfl, s, dx, _, rfl, e, ⟨s, st, xs, ys, b, n, D, P, G, rfl, se, la, hs, s1, by omega, _, rfl, by show 3 ≤ sizeLine; decide, fun l2 f2 => ?_⟩⟩⟩⟩
    have u2 := same_upd (o := .lst [.ref t, .int (ys.length : Nat), .str (szT n (D.length : Nat) (P.length : Nat) (ys.length : Nat))]) f2
    have a2 : (upd H1 l2 (.lst [.ref t, .int (ys.length : Nat), .str (szT n (D.length : Nat) (P.length : Nat) (ys.length : Nat))])) l2 = some (.lst [.ref t, .int (ys.length : Nat), .str (szT n (D.length : Nat) (P.length : Nat) (ys.length : Nat))]) := upd_same
    generalize upd H1 l2 (.lst [.ref t, .int (ys.length : Nat), .str (szT n (D.length : Nat) (P.length : Nat) (ys.length : Nat))]) = H2 at *
    refine ⟨l1, l2, _, _, rfl, rfl, u2 _ _ a1, a2, by show 3 + 3 ≤ sizeLine; decide, fun l3 f3 => ?_⟩
    have u3 := same_upd (o := .lst ([.ref h, .ref p, .ref g] ++ [.ref t, .int (ys.length : Nat), .str (szT n (D.length : Nat) (P.length : Nat) (ys.length : Nat))])) f3
    have a3 : (upd H2 l3 (.lst ([.ref h, .ref p, .ref g] ++ [.ref t, .int (ys.length : Nat), .str (szT n (D.length : Nat) (P.length : Nat) (ys.length : Nat))]))) l3 = some (.lst [.ref h, .ref p, .ref g, .ref t, .int (ys.length : Nat), .str (szT n (D.length : Nat) (P.length : Nat) (ys.length : Nat))]) := upd_same
    generalize upd H2 l3 (.lst ([.ref h, .ref p, .ref g] ++ [.ref t, .int (ys.length : Nat), .str (szT n (D.length : Nat) (P.length : Nat) (ys.length : Nat))])) = H3 at *
    rw [ly] at a3
    have w := (u1.trans u2).trans u3
    have sh := sn_shows (ls := ls) s1 aok ll
    exact ⟨l3, snD n D P G ls, rfl, sn_dp a3 (hH.same w) (hP.same w) (hG.same w) (sqT_same (u2.trans u3) et') (ac.tk (Tk.of w)), sh.1, sh.2.1, sh.2.2.1, sh.2.2.2, q _ w⟩
abbrev nLESn : List Str := ["_law_state", "_law_done", "_law_house_here", "_law_placement_here", "_law_target", "_law_text"]
theorem scLESn : FnScope nLESn ["_law_state", "_law_done"] (defScope sLExpectedSnapshot) := ⟨rfl, rfl, rfl, by decide +kernel, rfl, by decide +kernel, by decide +kernel⟩
def spLESn (K : PySem.W.Frag) : Sp := fun vs H Q _ => ∃ (st ld : Addr) (zs : List V) (n : Int) (D : List (Int × Int)) (P G : List (Str × Int)) (ls : List (List Ar)), vs = [.ref st, .ref ld] ∧ StAt H st n D P G ∧ St1 n D P G ∧ H ld = some (.lst zs) ∧ AcsAt H zs ls ∧ (∀ l ∈ ls, ActOk l) ∧ ls.length ≤ 60 ∧ ∀ H', Same H H' → Q (.str (snD n D P G ls).shown) H'
theorem ok_lesn {f : Addr} {fd : FuncData} {k : Nat} (F : Fun K "_law_expected_snapshot" "_law_expected_snapshot" sLExpectedSnapshot f fd) (T : Nm mg) : FnG P w K mg base (k + 1) f fd ["_law_state", "_law_done"] (spLESn K) := by
  refine Fun.okG F scLESn (fun vs H Q E h => ?_) (fun cdv A outer z H vs Q gd hr h => ?_)
  · obtain ⟨st, ld, zs, n, D, P, G, ls, rfl, _⟩ := h
    rfl
  · obtain ⟨st, ld, zs, n, D, P, G, ls, rfl, hs, s1, el, ac, aok, ll, q⟩ := h
    refine ⟨_, (pss_cons (ps_asg (pv 0) (pg_tup (by rfl) (pgs_cons (pg_name (i := 2) scLESn.nd rfl (.inl rfl)) (pgs_cons (pg_name (i := 3) scLESn.nd rfl (.inl rfl)) (pgs_cons (pg_name (i := 4) scLESn.nd rfl (.inl rfl)) pgs_nil)))))
      (pss_cons (ps_set (i := 5) scLESn.nd rfl (.inl rfl) (pe_op op_add_str (pe_op op_add_str (pe_op op_add_str (pe_callTy call_str_int (by rfl) T.str (by decide +kernel) (pa_cons (pe_ix (ix_tupK K rfl) (pv 2) pe_int (fun _ _ => rfl)) pa_nil)) pe_str) (pe_callTy call_str_int (by rfl) T.str (by decide +kernel) (pa_cons (pe_callB (call_lenK K rfl) (by rfl) T.len (by decide +kernel) (pa_cons (pe_ix (ix_tupK K rfl) (pv 2) pe_int (fun _ _ => rfl)) pa_nil)) pa_nil))) pe_str))
      (pss_cons (ps_set (i := 5) scLESn.nd rfl (.inl rfl) (pe_op op_add_str (pe_op op_add_str (pe_op op_add_str (pe_op op_add_str (pv 5) (pe_callTy call_str_int (by rfl) T.str (by decide +kernel) (pa_cons (pe_callB (call_lenK K rfl) (by rfl) T.len (by decide +kernel) (pa_cons (pv 3) pa_nil)) pa_nil))) pe_str) (pe_callTy call_str_int (by rfl) T.str (by decide +kernel) (pa_cons (pe_callB (call_lenK K rfl) (by rfl) T.len (by decide +kernel) (pa_cons (pv 1) pa_nil)) pa_nil))) pe_str))
      (pss_one (ps_ret (pe_callB (call_repr gd (units65 hr)) (by rfl) T.repr (by decide +kernel) (pa_cons (pe_lst (pa_cons (pv 2) (pa_cons (pv 3) (pa_cons (pv 4) (pa_cons (pe_callTy (call_tupleK K rfl) (by rfl) T.tuple (by decide +kernel) (pa_cons (pv 1) pa_nil)) (pa_cons (pe_callB (call_lenK K rfl) (by rfl) T.len (by decide +kernel) (pa_cons (pv 1) pa_nil)) (pa_cons (pv 5) pa_nil))))))) pa_nil))))))), ?_⟩
    obtain ⟨h, p, g, et, hH, hP, hG⟩ := id hs
    obtain ⟨qd, hps, h1, h2, eD, h4⟩ := id hH
    obtain ⟨ps, p1, p2, p3⟩ := id hP
    have lp : (ps.map fun p => V.ref p.1).length = P.length := by rw [p2, List.length_map, List.length_map]
    have ld' : (hps.map fun p => V.ref p.1).length = D.length := by rw [eD, List.length_map, List.length_map]
    have ly := ac.len
    have n0 := s1.n0
    have n8 := s1.n8
    have lD : D.length ≤ 8 := s1.f.len
    have lP := s1.l
    have tot := szT_len (n := n) (d := (D.length : Nat)) (p := (P.length : Nat)) (a := (ls.length : Nat)) (by omega) (by omega) (by omega) (by omega) (by omega) (by omega) (by omega) (by omega)
    rw [← szT_law] at tot
    have l7 := pre_leZ tot
    have l6 := pre_leZ l7.2
    have l5 := pre_leZ l6.2
    have l4 := pre_leZ l5.2
    have l3 := pre_leZ l4.2
    have l2 := pre_leZ l3.2
    have l1 := pre_leZ l2.2
    refine ⟨_, rfl, st, _, rfl, SqT.of et, rfl, _, _, rfl, _, _, rfl, _, _, rfl, rfl, ?_⟩
    dsimp only [gName]
    refine ⟨_, rfl, h, _, 0, _, rfl, rfl, SqT.of h1, atI0, n, rfl, log_small n0 (by omega), tI n, _, rfl, rfl, add_leZ l1.1, _, rfl, h, _, 1, _, rfl, rfl, SqT.of h1, atI1, qd, _, rfl, .inr (SqT.of h2), (D.length : Nat), by rw [ld'], log_small (by omega) (by omega), _, tI (D.length : Nat), rfl, rfl, add_leZ l2.1, _, _, rfl, rfl, add_leZ l3.1, ?_⟩
    refine ⟨_, rfl, _, rfl, p, _, rfl, .inr p1.sq, (P.length : Nat), by rw [lp], log_small (by omega) (by omega), _, tI (P.length : Nat), rfl, rfl, add_leZ l4.1, _, _, rfl, rfl, add_leZ l5.1, _, rfl, ld, zs, rfl, .inl (SqL.of el), (ls.length : Nat), by rw [ly], log_small (by omega) (by omega), _, tI (ls.length : Nat), rfl, rfl, add_leZ l6.1, _, _, rfl, rfl, add_leZ l7.1, ?_⟩
    refine ⟨_, rfl, _, rfl, _, rfl, _, rfl, ld, zs, rfl, .inl ⟨SqL.of el, fun t ht => ?_⟩⟩
    have u1 := same_upd (o := .tup zs) ht
    have a1 : (upd H t (.tup zs)) t = some (.tup zs) := upd_same
    generalize upd H t (.tup zs) = H1 at *
    refine ⟨_, rfl, ld, zs, rfl, .inl (SqL.of (u1 _ _ el)), _, rfl, by show 6 ≤ sizeLine; decide, fun l f => ?_⟩
    rw [ly]
    have u2 := u1.trans (same_upd (o := .lst [.ref h, .ref p, .ref g, .ref t, .int (ls.length : Nat), .str (tI n ++ Str.ofString " rooms, " ++ tI (D.length : Nat) ++ Str.ofString " doors, " ++ tI (P.length : Nat) ++ Str.ofString " people, " ++ tI (ls.length : Nat) ++ Str.ofString " actions")]) f)
    refine ⟨l, snD n D P G ls, rfl, sn_dp ?_ (hH.same u2) (hP.same u2) (hG.same u2) (sqT_same (same_upd f) (SqT.of a1)) (ac.tk (Tk.of u2)), ?_⟩
    · rw [upd_same, ← szT_law]
    have sh := sn_shows (ls := ls) s1 aok ll
    exact ⟨sh.1, sh.2.1, sh.2.2.1, sh.2.2.2, q _ u2⟩
end
end Fw
set_option maxHeartbeats 4000000
namespace Fw
open PySem PySem.Spec PyProof.Rows L2
/-! an action, and what becomes of it -/
inductive Act | mv (nm : Str) (r : Int) | en (nm : Str) (r : Int) | lv (nm : Str) | tg (nm : Str) (r : Int)
def Act.l : Act → List Ar
  | .mv nm r => [.s "move", .s nm, .i r]
  | .en nm r => [.s "enter", .s nm, .i r]
  | .lv nm => [.s "leave", .s nm]
  | .tg nm r => [.s "set_target", .s nm, .i r]
/-- an error, or the state behind it -/
inductive Ans | er (x : Str) (v : Ar) | ok (n : Int) (D : List (Int × Int)) (P G : List (Str × Int))
inductive Eff (n : Int) (D : List (Int × Int)) (P G : List (Str × Int)) : Act → Ans → Prop
  | mvU {nm : Str} {r : Int} (no : nm ∉ P.map (·.1)) : Eff n D P G (.mv nm r) (.er "UnknownPerson" (.s nm))
  | mvI {nm : Str} {r c : Int} (m : (nm, c) ∈ P) (h : ¬ (0 ≤ r ∧ r < n)) : Eff n D P G (.mv nm r) (.er "InvalidRoom" (.i r))
  | mvN {nm : Str} {r c : Int} (m : (nm, c) ∈ P) (h : 0 ≤ r ∧ r < n) (a : r ∉ nb n D c) : Eff n D P G (.mv nm r) (.er "NotAdjacent" (.i r))
  | mvE {nm : Str} {r c : Int} (m : (nm, c) ∈ P) (h : 0 ≤ r ∧ r < n) (a : r ∈ nb n D c) (e : r ∉ P.map (·.2)) : Eff n D P G (.mv nm r) (.er "EmptyRoom" (.i r))
  | mvO {nm : Str} {r c : Int} (m : (nm, c) ∈ P) (h : 0 ≤ r ∧ r < n) (a : r ∈ nb n D c) (e : r ∈ P.map (·.2)) : Eff n D P G (.mv nm r) (.ok n D (mvd P nm r) G)
  | enB {nm : Str} {r : Int} (b : nmOk nm = false) : Eff n D P G (.en nm r) (.er "InvalidName" (.s nm))
  | enD {nm : Str} {r : Int} (b : Nam nm) (m : nm ∈ P.map (·.1)) : Eff n D P G (.en nm r) (.er "DuplicateName" (.s nm))
  | enI {nm : Str} {r : Int} (b : Nam nm) (m : nm ∉ P.map (·.1)) (h : ¬ (0 ≤ r ∧ r < n)) : Eff n D P G (.en nm r) (.er "InvalidRoom" (.i r))
  | enE {nm : Str} {r : Int} (b : Nam nm) (m : nm ∉ P.map (·.1)) (h : 0 ≤ r ∧ r < n) (e : r ∉ P.map (·.2)) : Eff n D P G (.en nm r) (.er "EmptyRoom" (.i r))
  | enL {nm : Str} {r : Int} (b : Nam nm) (m : nm ∉ P.map (·.1)) (e : r ∈ P.map (·.2)) (l : 12 ≤ P.length) : Eff n D P G (.en nm r) (.er "LimitReached" (.i 12))
  | enO {nm : Str} {r : Int} {P' G' : List (Str × Int)} (b : Nam nm) (m : nm ∉ P.map (·.1)) (e : r ∈ P.map (·.2)) (l : P.length < 12) (p : Mor P (nm, r) P') (g : Mor G (nm, r) G') : Eff n D P G (.en nm r) (.ok n D P' G')
  | lvU {nm : Str} (no : nm ∉ P.map (·.1)) : Eff n D P G (.lv nm) (.er "UnknownPerson" (.s nm))
  | lvO {nm : Str} (m : nm ∈ P.map (·.1)) : Eff n D P G (.lv nm) (.ok n D (woN P nm) (woN G nm))
  | tgU {nm : Str} {r : Int} (no : nm ∉ P.map (·.1)) : Eff n D P G (.tg nm r) (.er "UnknownPerson" (.s nm))
  | tgI {nm : Str} {r : Int} (m : nm ∈ P.map (·.1)) (h : ¬ (0 ≤ r ∧ r < n)) : Eff n D P G (.tg nm r) (.er "InvalidRoom" (.i r))
  | tgO {nm : Str} {r : Int} (m : nm ∈ P.map (·.1)) (h : 0 ≤ r ∧ r < n) : Eff n D P G (.tg nm r) (.ok n D P (mvd G nm r))
theorem nmOk_of {z : Str} (h : Nam z) : nmOk z = true := by
  unfold nmOk letr
  rw [Bool.and_eq_true_iff, decide_eq_true_iff, List.all_eq_true]
  exact ⟨⟨h.1, h.2.1⟩, fun c hc => decide_eq_true (h.2.2 c hc)⟩
/-- one answer alone -/
theorem Eff.one {n : Int} {D : List (Int × Int)} {P G : List (Str × Int)} {a : Act} {A B : Ans} (s : St1 n D P G) (x : Eff n D P G a A) (y : Eff n D P G a B) : A = B := by
  have key : ∀ {nm : Str} {c c' : Int}, (nm, c) ∈ P → (nm, c') ∈ P → c = c' := fun h h' => by
    have := key_uniq s.p.nodup h h' rfl
    exact congrArg Prod.snd this
  have inn : ∀ {nm : Str} {c : Int}, (nm, c) ∈ P → nm ∈ P.map (·.1) := fun h => List.mem_map_of_mem (f := (·.1)) h
  have rng : ∀ {r : Int}, r ∈ P.map (·.2) → 0 ≤ r ∧ r < n := fun h => by
    obtain ⟨y, hy, rfl⟩ := List.mem_map.mp h
    exact s.p.rm y hy
  have gn : (G.map (·.1)).Nodup := by rw [s.e]; exact s.p.nodup
  have bad : ∀ {nm : Str} {q : Prop}, nmOk nm = false → Nam nm → q := fun h k => by rw [nmOk_of k] at h; cases h
  cases x with
  | mvU no => cases y with
    | mvU => rfl
    | mvI m => exact absurd (inn m) no
    | mvN m => exact absurd (inn m) no
    | mvE m => exact absurd (inn m) no
    | mvO m => exact absurd (inn m) no
  | mvI m h => cases y with
    | mvU no => exact absurd (inn m) no
    | mvI => rfl
    | mvN m' h' => exact absurd h' h
    | mvE m' h' => exact absurd h' h
    | mvO m' h' => exact absurd h' h
  | mvN m h a => cases y with
    | mvU no => exact absurd (inn m) no
    | mvI m' h' => exact absurd h h'
    | mvN => rfl
    | mvE m' h' a' => rw [key m m'] at a; exact absurd a' a
    | mvO m' h' a' => rw [key m m'] at a; exact absurd a' a
  | mvE m h a e => cases y with
    | mvU no => exact absurd (inn m) no
    | mvI m' h' => exact absurd h h'
    | mvN m' h' a' => rw [key m m'] at a; exact absurd a a'
    | mvE => rfl
    | mvO m' h' a' e' => exact absurd e' e
  | mvO m h a e => cases y with
    | mvU no => exact absurd (inn m) no
    | mvI m' h' => exact absurd h h'
    | mvN m' h' a' => rw [key m m'] at a; exact absurd a a'
    | mvE m' h' a' e' => exact absurd e e'
    | mvO => rfl
  | enB b => cases y with
    | enB => rfl
    | enD b' => exact bad b b'
    | enI b' => exact bad b b'
    | enE b' => exact bad b b'
    | enL b' => exact bad b b'
    | enO b' => exact bad b b'
  | enD b m => cases y with
    | enB b' => exact bad b' b
    | enD => rfl
    | enI _ m' => exact absurd m m'
    | enE _ m' => exact absurd m m'
    | enL _ m' => exact absurd m m'
    | enO _ m' => exact absurd m m'
  | enI b m h => cases y with
    | enB b' => exact bad b' b
    | enD _ m' => exact absurd m' m
    | enI => rfl
    | enE _ _ h' => exact absurd h' h
    | enL _ _ e => exact absurd (rng e) h
    | enO _ _ e => exact absurd (rng e) h
  | enE b m h e => cases y with
    | enB b' => exact bad b' b
    | enD _ m' => exact absurd m' m
    | enI _ _ h' => exact absurd h h'
    | enE => rfl
    | enL _ _ e' => exact absurd e' e
    | enO _ _ e' => exact absurd e' e
  | enL b m e l => cases y with
    | enB b' => exact bad b' b
    | enD _ m' => exact absurd m' m
    | enI _ _ h' => exact absurd (rng e) h'
    | enE _ _ _ e' => exact absurd e e'
    | enL => rfl
    | enO _ _ _ l' => omega
  | enO b m e l p g => cases y with
    | enB b' => exact bad b' b
    | enD _ m' => exact absurd m' m
    | enI _ _ h' => exact absurd (rng e) h'
    | enE _ _ _ e' => exact absurd e e'
    | enL _ _ _ l' => omega
    | enO _ _ _ _ p' g' =>
      rw [mor_one s.p.nodup m p p', mor_one gn (by rw [s.e]; exact m) g g']
  | lvU no => cases y with
    | lvU => rfl
    | lvO m => exact absurd m no
  | lvO m => cases y with
    | lvU no => exact absurd m no
    | lvO => rfl
  | tgU no => cases y with
    | tgU => rfl
    | tgI m => exact absurd m no
    | tgO m => exact absurd m no
  | tgI m h => cases y with
    | tgU no => exact absurd m no
    | tgI => rfl
    | tgO _ h' => exact absurd h' h
  | tgO m h => cases y with
    | tgU no => exact absurd m no
    | tgI _ h' => exact absurd h h'
    | tgO => rfl
theorem mor_st {n : Int} {P P' : List (Str × Int)} {nm : Str} {r : Int} (pl : Pl n P) (b : Nam nm) (no : nm ∉ P.map (·.1)) (h : 0 ≤ r ∧ r < n) (m : Mor P (nm, r) P') : Pl n P' := pl_add pl b no h.1 h.2 m.1 m.2
/-- the state behind it is one -/
theorem Eff.st {n n' : Int} {D D' : List (Int × Int)} {P G P' G' : List (Str × Int)} {a : Act} (s : St1 n D P G) (x : Eff n D P G a (.ok n' D' P' G')) : St1 n' D' P' G' := by
  have inn : ∀ {nm : Str} {c : Int}, (nm, c) ∈ P → nm ∈ P.map (·.1) := fun h => List.mem_map_of_mem (f := (·.1)) h
  have rng : ∀ {r : Int}, r ∈ P.map (·.2) → 0 ≤ r ∧ r < n := fun h => by
    obtain ⟨y, hy, rfl⟩ := List.mem_map.mp h
    exact s.p.rm y hy
  cases x with
  | mvO m h a e => exact ⟨s.f, s.n0, s.n8, s.p.mvd h.1 h.2, s.g, by rw [mvd, List.length_map]; exact s.l, by rw [s.e, mvd_names]⟩
  | enO b m e l p g =>
    have lp := p.1.length_eq
    rw [List.length_append, List.length_singleton] at lp
    refine ⟨s.f, s.n0, s.n8, mor_st s.p b m (rng e) p, mor_st s.g b (by rw [s.e]; exact m) (rng e) g, by omega, ?_⟩
    have h1 := mor_st s.p b m (rng e) p
    have h2 := mor_st s.g b (by rw [s.e]; exact m) (rng e) g
    have pm : (G'.map (·.1)).Perm (P'.map (·.1)) := by
      refine ((g.1.map (·.1)).trans ?_).trans (p.1.map (·.1)).symm
      rw [List.map_append, List.map_append, s.e]
    exact pm.eq_of_pairwise (fun u v _ _ q1 q2 => absurd q2 (List.lt_asymm q1)) h2.nm.up h1.nm.up
  | lvO m =>
    have fl : ∀ {X : List (Str × Int)} (nm : Str), (woN X nm).map (·.1) = (X.map (·.1)).filter fun y => !decide (y = nm) := fun {X} nm => by
      unfold woN
      rw [List.filter_map]
      rfl
    have pf : ∀ {X : List (Str × Int)} (nm : Str), Pl n X → Pl n (woN X nm) := fun {X} nm h => by
      refine ⟨⟨?_, ?_⟩, fun y hy => h.rm y (List.mem_filter.mp hy).1⟩
      all_goals rw [fl]
      · exact fun y hy => h.nm.nam y (List.mem_filter.mp hy).1
      · exact h.nm.up.filter _
    exact ⟨s.f, s.n0, s.n8, pf _ s.p, pf _ s.g, Nat.le_trans (List.length_filter_le _ _) s.l, by rw [fl, fl, s.e]⟩
  | tgO m h => exact ⟨s.f, s.n0, s.n8, s.p, s.g.mvd h.1 h.2, s.l, by rw [mvd_names, s.e]⟩
theorem Eff.few {n n' : Int} {D D' : List (Int × Int)} {P G P' G' : List (Str × Int)} {a : Act} (x : Eff n D P G a (.ok n' D' P' G')) (l : P.length ≤ 12) : P'.length ≤ 12 := by
  cases x with
  | mvO => rw [mvd, List.length_map]; exact l
  | enO b m e l p g =>
    have lp := p.1.length_eq
    rw [List.length_append, List.length_singleton] at lp
    omega
  | lvO m => exact Nat.le_trans (List.length_filter_le _ _) l
  | tgO m h => exact l
/-! the program's side -/
theorem But1.tk {K : PySem.W.Frag} {H H' : Hp} {C s : Addr} {xs ys : List V} {b : Bool} (u : But1 s H H') (x : SesAt K H C s xs ys b) : Tk H H' := by
  obtain ⟨dx, ts, td, tr, e, _⟩ := x
  exact ⟨fun e' => u _ _ (ne_of e' e (by intro z; cases z)) e', fun e' => u _ _ (ne_of e' e (by intro z; cases z)) e'⟩
theorem StAt.tk {H H' : Hp} {t : Addr} {n : Int} {D : List (Int × Int)} {P G : List (Str × Int)} (x : StAt H t n D P G) (u : Tk H H') : StAt H' t n D P G := by
  obtain ⟨h, p, g, et, hH, hP, hG⟩ := x
  exact ⟨h, p, g, u.t et, hH.tk u, hP.tk u, hG.tk u⟩
theorem But1.of {s : Addr} {H H' : Hp} (u : Same H H') : But1 s H H' := fun b o _ e => u b o e
theorem But1.trans {s : Addr} {H H1 H2 : Hp} (u : But1 s H H1) (v : But1 s H1 H2) : But1 s H H2 := fun b o n e => v b o n (u b o n e)
section
variable {P : Program} {w : World} {K : PySem.W.Frag} {mg : Str → Option Value} {base : Heap}
/-- what CHANGES holds -/
structure Chg (P : Program) (w : World) (K : PySem.W.Frag) (mg : Str → Option Value) (base : Heap) (k : Nat) (d CU CI CN CE CB CD CL : Addr) : Prop where
  mv : ∃ tp f c, PySem.W.nsIn K d "move" = some (some (.ref tp)) ∧ (∀ H', SqT K H' tp [.ref f, .int c]) ∧ KnX P w K mg base (L2.CX P w) k f (spAfM K CU CI CN CE)
  en : ∃ tp f c, PySem.W.nsIn K d "enter" = some (some (.ref tp)) ∧ (∀ H', SqT K H' tp [.ref f, .int c]) ∧ KnX P w K mg base (L2.CX P w) k f (spAfE K CB CD CI CE CL)
  lv : ∃ tp f c, PySem.W.nsIn K d "leave" = some (some (.ref tp)) ∧ (∀ H', SqT K H' tp [.ref f, .int c]) ∧ KnX P w K mg base (L2.CX P w) k f (spAfL K CU)
  tg : ∃ tp f c, PySem.W.nsIn K d "set_target" = some (some (.ref tp)) ∧ (∀ H', SqT K H' tp [.ref f, .int c]) ∧ KnX P w K mg base (L2.CX P w) k f (spAfT K CU CI)
/-- a class by its name, with its field -/
inductive ErOf (CU CI CN CE CB CD CL : Addr) : Str → Addr → Str → Prop
  | u : ErOf CU CI CN CE CB CD CL "UnknownPerson" CU "name"
  | i : ErOf CU CI CN CE CB CD CL "InvalidRoom" CI "room"
  | n : ErOf CU CI CN CE CB CD CL "NotAdjacent" CN "room"
  | e : ErOf CU CI CN CE CB CD CL "EmptyRoom" CE "room"
  | b : ErOf CU CI CN CE CB CD CL "InvalidName" CB "name"
  | d : ErOf CU CI CN CE CB CD CL "DuplicateName" CD "name"
  | l : ErOf CU CI CN CE CB CD CL "LimitReached" CL "limit"
theorem strIs_no {nm : Str} {P : List (Str × Int)} (h : ∀ x ∈ P, strIs x.1 (.str nm) = false) : nm ∉ P.map (·.1) := fun m => by
  obtain ⟨x, hx, e⟩ := List.mem_map.mp m
  have := h x hx
  rw [← e] at this
  simp [strIs] at this
theorem lap_run {k : Nat} {d C s ac st CU CI CN CE CB CD CL : Addr} {xs ys : List V} {n : Int} {D : List (Int × Int)} {PP G : List (Str × Int)} {a : Act} {H : Hp} {Q : VK} {E : XK} (X : Chg P w K mg base k d CU CI CN CE CB CD CL) (ha : ActAt H (.ref ac) a.l) (oa : ActOk a.l) (se : SesAt K H C s xs ys false) (la : atI xs (-1) = some (.ref st)) (nx : xs ≠ []) (lx : xs.length ≤ 100) (ly : ys.length < 60) (hs : StAt H st n D PP G) (s1 : St1 n D PP G)
    (ok : ∀ n' D' P' G', Eff n D PP G a (.ok n' D' P' G') → ∀ H' st' va', But1 s H H' → SesAt K H' C s (xs ++ [.ref st']) (ys ++ [va']) false → StAt H' st' n' D' P' G' → ActAt H' va' a.l → Q (.bl true) H')
    (er : ∀ z D' fld v, Eff n D PP G a (.er z v) → ErOf CU CI CN CE CB CD CL z D' fld → ∀ x H', Same H H' → H' x = some (.xd [(fld, v.v)]) → E (.ref D') (some x) H') : spLAp P w K mg base k d C [.ref s, .ref ac] H Q E := by
  obtain ⟨ac0, eac, tac⟩ := ha
  cases eac
  have sq := tac.sq (K := K)
  have lps := s1.l
  cases a with
  | mv nm r =>
    refine ⟨s, ac, xs, ys, false, rfl, se, .inl ⟨_, _, sq, ?_⟩⟩
    refine ⟨s, _, _, xs, ys, rfl, se, fun H1 ac' u1 e1 => ⟨s, ac', st, xs, ys, false, rfl, se.same u1, la, nx, lx, ly, fun Q1 h1 => ?_⟩⟩
    obtain ⟨tp, f, c, t1, t2, kn⟩ := X.mv
    refine ⟨st, ac', "move", [.str nm, .int r], tp, f, c, _, rfl, SqT.of e1, t1, t2, kn, fun H2 u2 => ?_⟩
    have se1 := se.same u1
    have acc : ActAt H1 (.ref ac') (Act.l (.mv nm r)) := ⟨ac', rfl, .inl e1⟩
    have fin : ∀ {n' : Int} {D' : List (Int × Int)} {P' G' : List (Str × Int)}, Eff n D PP G (.mv nm r) (.ok n' D' P' G') → ∀ H3 u, Same H2 H3 → StAt H3 u n' D' P' G' → Q1 (.ref u) H3 := fun ef H3 u u3 hu => by
      have u13 := u2.trans u3
      obtain ⟨h, p, g, et, hu1⟩ := id hu
      refine h1 u h p g H3 u13 et fun H4 t' bt se4 et4 => ?_
      have tk := bt.tk (se1.same u13)
      obtain ⟨x1, x2, x3⟩ := hu1
      exact ok _ _ _ _ ef H4 t' (.ref ac') ((But1.of (u1.trans u13)).trans bt) se4 ⟨h, p, g, et4, x1.tk tk, x2.tk tk, x3.tk tk⟩ (acc.tk ((Tk.of u13).trans tk))
    have u12 := u1.trans u2
    refine ⟨st, n, D, PP, G, .str nm, .str nm, .int r, .int r, rfl, hs.same u12, s1, .str _, .int _, ?_, ?_, ?_, ?_, ?_⟩
    · rintro ⟨nm', c', r', e1, m, e2, h, nbm, hm⟩ nm2 r2 e3 e4 H3 u u3 hu
      cases e1; cases e2; cases e3; cases e4
      exact fin (.mvO m h nbm hm) H3 u u3 hu
    · exact fun m x H3 u3 e3 => er _ _ _ (.s nm) (.mvU (strIs_no m)) .u x H3 (u12.trans u3) e3
    · rintro ⟨nm', c', e1, m, h⟩ x H3 u3 e3
      cases e1
      exact er _ _ _ (.i r) (.mvI m (of_decide_eq_false h)) .i x H3 (u12.trans u3) e3
    · rintro ⟨nm', c', r', e1, m, e2, h, nbm⟩ x H3 u3 e3
      cases e1; cases e2
      exact er _ _ _ (.i r) (.mvN m h nbm) .n x H3 (u12.trans u3) e3
    · rintro ⟨nm', c', r', e1, m, e2, h, nbm, hm⟩ x H3 u3 e3
      cases e1; cases e2
      exact er _ _ _ (.i r) (.mvE m h nbm hm) .e x H3 (u12.trans u3) e3
  | en nm r =>
    refine ⟨s, ac, xs, ys, false, rfl, se, .inr (.inl ⟨_, _, sq, ?_⟩)⟩
    refine ⟨s, _, _, xs, ys, rfl, se, fun H1 ac' u1 e1 => ⟨s, ac', st, xs, ys, false, rfl, se.same u1, la, nx, lx, ly, fun Q1 h1 => ?_⟩⟩
    obtain ⟨tp, f, c, t1, t2, kn⟩ := X.en
    refine ⟨st, ac', "enter", [.str nm, .int r], tp, f, c, _, rfl, SqT.of e1, t1, t2, kn, fun H2 u2 => ?_⟩
    have se1 := se.same u1
    have acc : ActAt H1 (.ref ac') (Act.l (.en nm r)) := ⟨ac', rfl, .inl e1⟩
    have fin : ∀ {n' : Int} {D' : List (Int × Int)} {P' G' : List (Str × Int)}, Eff n D PP G (.en nm r) (.ok n' D' P' G') → ∀ H3 u, Same H2 H3 → StAt H3 u n' D' P' G' → Q1 (.ref u) H3 := fun ef H3 u u3 hu => by
      have u13 := u2.trans u3
      obtain ⟨h, p, g, et, hu1⟩ := id hu
      refine h1 u h p g H3 u13 et fun H4 t' bt se4 et4 => ?_
      have tk := bt.tk (se1.same u13)
      obtain ⟨x1, x2, x3⟩ := hu1
      exact ok _ _ _ _ ef H4 t' (.ref ac') ((But1.of (u1.trans u13)).trans bt) se4 ⟨h, p, g, et4, x1.tk tk, x2.tk tk, x3.tk tk⟩ (acc.tk ((Tk.of u13).trans tk))
    have u12 := u1.trans u2
    have okn := oa.2 (.s nm) (by simp [Act.l])
    refine ⟨st, n, D, PP, G, .str nm, .str nm, .int r, .int r, 0, 0, 20, rfl, hs.same u12, s1, .str _, str_gdV okn.1 okn.2, by decide, fun _ _ => .int _, ?_, ?_, ?_, ?_, ?_, ?_⟩
    · rintro nm2 r2 e3 b no e4 m l H3 u P' G' u3 hu m1 m2
      cases e3; cases e4
      exact fin (.enO b no m l m1 m2) H3 u u3 hu
    · exact fun b x H3 u3 e3 => er _ _ _ (.s nm) (.enB b) .b x H3 (u12.trans u3) e3
    · rintro nm2 e1 b m x H3 u3 e3
      cases e1
      exact er _ _ _ (.s nm) (.enD b m) .d x H3 (u12.trans u3) e3
    · rintro nm2 e1 b m h x H3 u3 e3
      cases e1
      exact er _ _ _ (.i r) (.enI b m (of_decide_eq_false h)) .i x H3 (u12.trans u3) e3
    · rintro nm2 r2 e1 b m e2 h0 hn hm x H3 u3 e3
      cases e1; cases e2
      exact er _ _ _ (.i r) (.enE b m ⟨h0, hn⟩ hm) .e x H3 (u12.trans u3) e3
    · rintro nm2 r2 e1 b m e2 hm l x H3 u3 e3
      cases e1; cases e2
      exact er _ _ _ (.i 12) (.enL b m hm l) .l x H3 (u12.trans u3) e3
  | lv nm =>
    refine ⟨s, ac, xs, ys, false, rfl, se, .inr (.inr (.inl ⟨_, sq, ?_⟩))⟩
    refine ⟨s, _, xs, ys, rfl, se, fun H1 ac' u1 e1 => ⟨s, ac', st, xs, ys, false, rfl, se.same u1, la, nx, lx, ly, fun Q1 h1 => ?_⟩⟩
    obtain ⟨tp, f, c, t1, t2, kn⟩ := X.lv
    refine ⟨st, ac', "leave", [.str nm], tp, f, c, _, rfl, SqT.of e1, t1, t2, kn, fun H2 u2 => ?_⟩
    have se1 := se.same u1
    have acc : ActAt H1 (.ref ac') (Act.l (.lv nm)) := ⟨ac', rfl, .inl e1⟩
    have fin : ∀ {n' : Int} {D' : List (Int × Int)} {P' G' : List (Str × Int)}, Eff n D PP G (.lv nm) (.ok n' D' P' G') → ∀ H3 u, Same H2 H3 → StAt H3 u n' D' P' G' → Q1 (.ref u) H3 := fun ef H3 u u3 hu => by
      have u13 := u2.trans u3
      obtain ⟨h, p, g, et, hu1⟩ := id hu
      refine h1 u h p g H3 u13 et fun H4 t' bt se4 et4 => ?_
      have tk := bt.tk (se1.same u13)
      obtain ⟨x1, x2, x3⟩ := hu1
      exact ok _ _ _ _ ef H4 t' (.ref ac') ((But1.of (u1.trans u13)).trans bt) se4 ⟨h, p, g, et4, x1.tk tk, x2.tk tk, x3.tk tk⟩ (acc.tk ((Tk.of u13).trans tk))
    have u12 := u1.trans u2
    refine ⟨st, n, D, PP, G, .str nm, .str nm, rfl, hs.same u12, s1, .str _, ?_, ?_⟩
    · rintro nm2 c' g' e1 m mg' H3 u u3 hu
      cases e1
      rw [wo_eq s1.p.nodup m, wo_eq (by rw [s1.e]; exact s1.p.nodup) mg'] at hu
      exact fin (.lvO (List.mem_map_of_mem (f := (·.1)) m)) H3 u u3 hu
    · exact fun m x H3 u3 e3 => er _ _ _ (.s nm) (.lvU (strIs_no m)) .u x H3 (u12.trans u3) e3
  | tg nm r =>
    refine ⟨s, ac, xs, ys, false, rfl, se, .inr (.inr (.inr (⟨_, _, sq, ?_⟩)))⟩
    refine ⟨s, _, _, xs, ys, rfl, se, fun H1 ac' u1 e1 => ⟨s, ac', st, xs, ys, false, rfl, se.same u1, la, nx, lx, ly, fun Q1 h1 => ?_⟩⟩
    obtain ⟨tp, f, c, t1, t2, kn⟩ := X.tg
    refine ⟨st, ac', "set_target", [.str nm, .int r], tp, f, c, _, rfl, SqT.of e1, t1, t2, kn, fun H2 u2 => ?_⟩
    have se1 := se.same u1
    have acc : ActAt H1 (.ref ac') (Act.l (.tg nm r)) := ⟨ac', rfl, .inl e1⟩
    have fin : ∀ {n' : Int} {D' : List (Int × Int)} {P' G' : List (Str × Int)}, Eff n D PP G (.tg nm r) (.ok n' D' P' G') → ∀ H3 u, Same H2 H3 → StAt H3 u n' D' P' G' → Q1 (.ref u) H3 := fun ef H3 u u3 hu => by
      have u13 := u2.trans u3
      obtain ⟨h, p, g, et, hu1⟩ := id hu
      refine h1 u h p g H3 u13 et fun H4 t' bt se4 et4 => ?_
      have tk := bt.tk (se1.same u13)
      obtain ⟨x1, x2, x3⟩ := hu1
      exact ok _ _ _ _ ef H4 t' (.ref ac') ((But1.of (u1.trans u13)).trans bt) se4 ⟨h, p, g, et4, x1.tk tk, x2.tk tk, x3.tk tk⟩ (acc.tk ((Tk.of u13).trans tk))
    have u12 := u1.trans u2
    refine ⟨st, n, D, PP, G, .str nm, .str nm, .int r, .int r, rfl, hs.same u12, s1, .str _, .int _, ?_, ?_, ?_⟩
    · rintro nm2 r2 e1 m e2 h0 hn H3 u u3 hu
      cases e1; cases e2
      exact fin (.tgO m ⟨h0, hn⟩) H3 u u3 hu
    · exact fun m x H3 u3 e3 => er _ _ _ (.s nm) (.tgU (strIs_no m)) .u x H3 (u12.trans u3) e3
    · rintro nm2 e1 m h x H3 u3 e3
      cases e1
      exact er _ _ _ (.i r) (.tgI m (of_decide_eq_false h)) .i x H3 (u12.trans u3) e3
theorem pe_anyI {ι : Type} {X : Cx} {x : Expr} {ok : ι → Prop} {t : ι → TE} (h : ∀ i, ok i → PE X x (t i)) : PE X x (fun σ H Q => ∃ i, ok i ∧ t i σ H Q) := ⟨fun pins s σ H Q I ⟨i, c, z⟩ => (h i c).run pins s σ H Q I z⟩
abbrev nLFull : List Str := ["_law_session", "_law_action", "_law_found", "_law_e"]
theorem scLFull : FnScope nLFull ["_law_session", "_law_action"] (defScope sLFullResult) := ⟨rfl, rfl, rfl, by decide +kernel, rfl, by decide +kernel, by decide +kernel⟩
/-- what the handler knows of the errors -/
def ErTold (P : Program) (w : World) (K : PySem.W.Frag) (mg : Str → Option Value) (base : Heap) (k : Nat) (E CU CI CN CE CB CD CL : Addr) : Prop := ∀ z D' fld, ErOf CU CI CN CE CB CD CL z D' fld → Mro K E D' ∧ CalE P w K mg base k "_law_error_name" ["_law_e"] (spLEC D' z) ∧ CalE P w K mg base k "_law_error_field" ["_law_e"] (spLEF D' fld)
def spLFull (K : PySem.W.Frag) (C : Addr) : Sp := fun vs H Q _ => ∃ (s ac st : Addr) (xs ys : List V) (n : Int) (D : List (Int × Int)) (P G : List (Str × Int)) (a : Act), vs = [.ref s, .ref ac] ∧ ActAt H (.ref ac) a.l ∧ ActOk a.l ∧ SesAt K H C s xs ys false ∧ atI xs (-1) = some (.ref st) ∧ xs ≠ [] ∧ xs.length ≤ 100 ∧ ys.length < 60 ∧ StAt H st n D P G ∧ St1 n D P G ∧
  (∀ z v, Eff n D P G a (.er z v) → ∀ H' l, Same H H' → H' l = some (.lst [.str z, v.v]) → Q (.ref l) H') ∧
  (∀ n' D' P' G', Eff n D P G a (.ok n' D' P' G') → ∀ H' l st' va', But1 s H H' → SesAt K H' C s (xs ++ [.ref st']) (ys ++ [va']) false → StAt H' st' n' D' P' G' → ActAt H' va' a.l → H' l = some (.lst [.str "ok", .non]) → Q (.ref l) H')
theorem ok_lfull {f d C E CU CI CN CE CB CD CL : Addr} {fd : FuncData} {j k : Nat} (F : Fun K "_law_full_result" "_law_full_result" sLFullResult f fd) (T : Nm mg) (hE : HE K mg E) (X : Chg P w K mg base j d CU CI CN CE CB CD CL) (told : ErTold P w K mg base k E CU CI CN CE CB CD CL) (C_law_apply : CalX P w K mg base k "_law_apply" ["_law_session", "_law_action"] (spLAp P w K mg base j d C)) : FnOk P w K mg base CX0 (k + 1) f fd ["_law_session", "_law_action"] (spLFull K C) := by
  refine F.ok scLFull (fun vs H Q E h => ?_) (fun cdv A outer zz H vs Q E1 h0 h => ?_)
  · obtain ⟨s, ac, st, xs, ys, n, D, PP, G, a, rfl, _⟩ := h
    rfl
  · obtain ⟨s, ac, st, xs, ys, n, D, PP, G, a, rfl, ha, oa, se, la, nx, lx, ly, hs, s1, qE, qO⟩ := h
    have hr := h0
    refine ⟨_, (pss_cons (ps_set (i := 2) scLFull.nd rfl (.inl rfl) (pe_lst (pa_cons pe_str (pa_cons pe_non pa_nil))))
      (pss_cons (ps_try_as (i := 3) rfl rfl scLFull.nd rfl rfl ⟨by rfl, by decide, .inl hE.g⟩ takes0 (fun W pn xe tk _ => (pss_one (ps_set (i := 2) scLFull.nd rfl (.inl rfl) (pe_ix (ix_listK K rfl) (pe_lst (pa_cons (pe_lst (pa_cons pe_str (pa_cons pe_non pa_nil))) (pa_cons (pe_lst (pa_cons pe_str (pa_cons pe_non pa_nil))) pa_nil))) (pe_callTy call_int1 (by rfl) T.int (by decide +kernel) (pa_cons (pe_calX C_law_apply tk hr (by rfl) (pa_cons (pv 0) (pa_cons (pv 1) pa_nil))) pa_nil)) (fun _ _ => rfl)))))
      (fun a oe cls d pn hz hf => (pss_one (ps_set (i := 2) scLFull.nd rfl (.inl rfl) (pe_lst (pa_cons (pe_anyI (ok := fun i : Addr × Str => CalE P w K mg base k "_law_error_name" ["_law_e"] (spLEC i.1 i.2)) fun _ Ci => pe_calE hz hf Ci hr (by rfl) (pa_cons (pv 3) pa_nil)) (pa_cons (pe_anyI (ok := fun i : Addr × Str => CalE P w K mg base k "_law_error_field" ["_law_e"] (spLEF i.1 i.2)) fun _ Ci => pe_calE hz hf Ci hr (by rfl) (pa_cons (pv 3) pa_nil)) pa_nil)))))))
      (pss_one (ps_ret (pv 2))))), ?_⟩
    refine ⟨by show 2 ≤ sizeLine; decide, fun l0 f0 => ?_⟩
    have u0 := same_upd (o := .lst [.str "ok", .non]) f0
    generalize upd H l0 (.lst [.str "ok", .non]) = H0 at *
    refine ⟨by show 2 ≤ sizeLine; decide, fun l1 f1 => ?_⟩
    have u1 := u0.trans (same_upd (o := .lst [.str "not None", .non]) f1)
    generalize upd H0 l1 (.lst [.str "not None", .non]) = H1 at *
    refine ⟨by show 2 ≤ sizeLine; decide, fun l2 f2 => ?_⟩
    have v2 := same_upd (o := .lst [.str "ok", .non]) f2
    have u2 := u1.trans v2
    have a2 : (upd H1 l2 (.lst [.str "ok", .non])) l2 = some (.lst [.str "ok", .non]) := upd_same
    generalize upd H1 l2 (.lst [.str "ok", .non]) = H2 at *
    refine ⟨by show 2 ≤ sizeLine; decide, fun l3 f3 => ?_⟩
    have v3 := same_upd (o := .lst [.ref l1, .ref l2]) f3
    have u3 := u2.trans v3
    replace a2 := v3 _ _ a2
    have a3 : (upd H2 l3 (.lst [.ref l1, .ref l2])) l3 = some (.lst [.ref l1, .ref l2]) := upd_same
    generalize upd H2 l3 (.lst [.ref l1, .ref l2]) = H3 at *
    have se3 := se.same u3
    obtain ⟨dx, ts, td, tr, e3, _⟩ := id se3
    refine ⟨_, rfl, _, rfl, ?_⟩
    dsimp only [tNil]
    refine lap_run X (ha.tk (Tk.of u3)) oa se3 la nx lx ly (hs.same u3) s1 ?_ ?_
    · intro n' D' P' G' ef H4 st' va' bt se4 hs4 ac4
      refine .inr ⟨true, rfl, l3, _, 1, _, rfl, rfl, SqL.of (bt _ _ (ne_of a3 e3 (by intro z; cases z)) a3), atI1, _, rfl, ?_⟩
      exact qO n' D' P' G' ef H4 l2 st' va' ((But1.of u3).trans bt) se4 hs4 ac4 (bt _ _ (ne_of a2 e3 (by intro z; cases z)) a2)
    · intro z D' fld v ef eo x H4 u4 e4
      obtain ⟨mro, LN, LF⟩ := told z D' fld eo
      refine ⟨true, exm_he mro hE, fun _ a ha => ?_, fun z => nomatch z⟩
      refine ⟨(D', z), LN, _, rfl, rfl, rfl, fun dx hx => by cases hx; exact ⟨_, e4⟩, fun H5 u5 => ⟨(D', fld), LF, _, rfl, rfl, rfl, x, _, v.v, rfl, u5 _ _ e4, by simp [List.lookup], fun H6 u6 => ⟨by show 2 ≤ sizeLine; decide, fun l hl => ?_⟩⟩⟩
      exact ⟨_, rfl, qE z v ef _ l ((u3.trans u4).trans ((u5.trans u6).trans (same_upd hl))) upd_same⟩
end
end Fw
set_option maxHeartbeats 8000000
namespace Fw
open PySem PySem.Spec PyProof.Rows L2
/-! what the law expects of an action on a person -/
/-- a state of the law's: its placement goes into dict(..) -/
def StL (H : Hp) (t : Addr) (n : Int) (D : List (Int × Int)) (P G : List (Str × Int)) : Prop := ∃ h p g, H t = some (.tup [.ref h, .ref p, .ref g]) ∧ HouseAt H h n D ∧ PlD H p P ∧ PlAt H g G
theorem StL.st {H : Hp} {t : Addr} {n : Int} {D : List (Int × Int)} {P G : List (Str × Int)} (x : StL H t n D P G) : StAt H t n D P G := by
  obtain ⟨h, p, g, et, hH, hP, hG⟩ := x
  exact ⟨h, p, g, et, hH, hP.pl, hG⟩
theorem StL.tk {H H' : Hp} {t : Addr} {n : Int} {D : List (Int × Int)} {P G : List (Str × Int)} (x : StL H t n D P G) (u : Tk H H') : StL H' t n D P G := by
  obtain ⟨h, p, g, et, hH, hP, hG⟩ := x
  exact ⟨h, p, g, u.t et, hH.tk u, hP.tk u, hG.tk u⟩
theorem st_few {n : Int} {D : List (Int × Int)} {P G : List (Str × Int)} (s : St1 n D P G) : G.length = P.length := by
  have := congrArg List.length s.e
  rw [List.length_map, List.length_map] at this
  exact this
/-- tuple(list), by a name -/
def rTupN (K : PySem.W.Frag) : List V → Hp → VK → Prop := fun xs H Q => ∃ p ys, xs = [V.ref p] ∧ SqL K H p ys ∧ ∀ (l : Addr) (ob : Obj), H l = none → ob.dict = none → Q (.ref l) (upd H l (.frz ob (.tup ys)))
theorem call_tupleN {X : Cx} (K : PySem.W.Frag) (h : X.K = K) : CallR X (.type "tuple") (rTupN K) := call_tupleF K h
/-- tuple(sorted(pairs + one)) -/
theorem more_read {K : PySem.W.Frag} {H : Hp} {p t q : Addr} {P : List (Str × Int)} {x : Str × Int} {Q : VK} (hP : PlAt H p P) (lP : P.length ≤ 100) (et : SqT K H t [.ref q]) (eq : H q = some (.tup [.str x.1, .int x.2])) (done : ∀ H' u P', Same H H' → PlD H' u P' → Mor P x P' → Q (.ref u) H') :
    rCatS K (.ref p) (.ref t) H fun v H1 => rSortDat K [v] H1 fun v' H2 => rTupN K [v'] H2 Q := by
  obtain ⟨ps, p1, p2, p3⟩ := id hP
  have ln : ps.length = P.length := by rw [p2, List.length_map]
  refine ⟨p, t, _, _, rfl, rfl, p1.sq, et, ?_, fun H1 c s1 e1 => ?_⟩
  · rw [List.length_map, List.length_singleton]
    exact Nat.le_of_lt (small1000 (by omega))
  have hx : ∀ y ∈ ps ++ [(q, x.1, x.2)], H1 y.1 = some (.tup [.str y.2.1, .int y.2.2]) := fun y hy => by
    refine s1 _ _ ?_
    rcases List.mem_append.mp hy with hy | hy
    · exact p3 y hy
    · rw [List.mem_singleton.mp hy]
      exact eq
  refine sort_pl (K := K) (c := c) (ps := ps ++ [(q, x.1, x.2)]) (.inr (by rw [List.map_append]; exact e1)) hx fun s qs hs pm so => ?_
  have s2 := s1.trans (same_upd (o := .lst (qs.map fun y => V.ref y.1)) hs)
  refine ⟨s, _, rfl, SqL.of upd_same, fun u ob hu od => done _ u (qs.map (·.2)) (s2.trans (same_upd hu)) ⟨qs, ob, od, upd_same, rfl, fun y hy => same_upd hu _ _ (same_upd hs _ _ (hx y (pm.mem_iff.mp hy)))⟩ ⟨?_, ?_⟩⟩
  · have := pm.map (·.2)
    rw [List.map_append, ← p2] at this
    exact this
  · rw [List.pairwise_map]
    exact so
section
variable {P : Program} {w : World} {K : PySem.W.Frag} {mg : Str → Option Value} {base : Heap}
abbrev nLPeO : List Str := ["_law_state", "_law_action", "_law_house_here", "_law_placement_here", "_law_target", "_law_word", "_law_name", "_law_names_here", "_law_one", "_law_room"]
theorem scLPeO : FnScope nLPeO ["_law_state", "_law_action"] (defScope sLPeopleOutcome) := ⟨rfl, rfl, rfl, by decide +kernel, rfl, by decide +kernel, by decide +kernel⟩
def spLPeO (K : PySem.W.Frag) : Sp := fun vs H Q _ => ∃ (st ac : Addr) (n : Int) (D : List (Int × Int)) (P G : List (Str × Int)) (a : Act), vs = [.ref st, .ref ac] ∧ StL H st n D P G ∧ St1 n D P G ∧ P.length ≤ 12 ∧ ActAt H (.ref ac) a.l ∧ ActOk a.l ∧
  (∀ z v, Eff n D P G a (.er z v) → ∀ H' l, Same H H' → H' l = some (.lst [.str z, v.v]) → Q (.ref l) H') ∧
  (∀ n' D' P' G', Eff n D P G a (.ok n' D' P' G') → ∀ H' l t, Same H H' → H' l = some (.lst [.str "ok", .ref t]) → StL H' t n' D' P' G' → Q (.ref l) H')
theorem ok_lpeo {f : Addr} {fd : FuncData} {k : Nat} (F : Fun K "_law_people_outcome" "_law_people_outcome" sLPeopleOutcome f fd) (T : Nm mg) (Tdict : mg "dict" = none) (C_law_is_name : Cal P w K mg base k "_law_is_name" ["_law_value"] (spIsNameA K)) (C_law_is_integer : Cal P w K mg base k "_law_is_integer" ["_law_value", "_law_low", "_law_high"] (spLIntA K)) (C_law_neighbors : Cal P w K mg base k "_law_neighbors" ["_law_house_here", "_law_room"] spLNb) (C_law_moved : Cal P w K mg base k "_law_moved" pLMoved spLMoved) (C_law_without : Cal P w K mg base k "_law_without" ["_law_pairs", "_law_name"] spLWo) : FnOk P w K mg base CX0 (k + 1) f fd ["_law_state", "_law_action"] (spLPeO K) := by
  refine F.ok scLPeO (fun vs H Q E h => ?_) (fun cdv A outer zz H vs Q E hr h => ?_)
  · obtain ⟨st, ac, n, D, P, G, a, rfl, _⟩ := h
    rfl
  · obtain ⟨st, ac, n, D, P, G, a, rfl, hs, st1, lP, ha, oa, qE, qO⟩ := h
    refine ⟨_, (pss_cons (ps_asg (pv 0) (pg_tup (by rfl) (pgs_cons (pg_name (i := 2) scLPeO.nd rfl (.inl rfl)) (pgs_cons (pg_name (i := 3) scLPeO.nd rfl (.inl rfl)) (pgs_cons (pg_name (i := 4) scLPeO.nd rfl (.inl rfl)) pgs_nil)))))
      (pss_cons (ps_par (i := 5) (j := 6) (by rfl) scLPeO.nd rfl rfl (by decide) rfl rfl (pa_cons (pe_ix (ix_tupK K rfl) (pv 1) pe_int (fun _ _ => rfl)) (pa_cons (pe_ix (ix_tupK K rfl) (pv 1) pe_int (fun _ _ => rfl)) pa_nil)) (by rfl))
      (pss_cons (ps_setLc (i := 7) (own := [("_law_one", 8)]) (g := gName 8) (by rfl) scLPeO.nd rfl rfl (sw_true rfl rfl rfl (by decide +kernel)) (pi_tupK K rfl (pv 3))
 (blkOk_by (own := [("_law_one", 8)]) (N := nLPeO) (sc := defScope sLPeopleOutcome) (by decide +kernel))
 (fun _ _ _ _ _ => (pg_name (i := 8) scLPeO.nd rfl (.inl rfl))) (fun _ _ _ _ _ => pts_nil) (fun _ _ _ _ _ => (pe_ix (ix_tupK K rfl) (pv 8) pe_int (fun _ _ => rfl))))
      (pss_cons (ps_if (pt_cmpR op_eq (pv 5) pe_str (nomark _))
      (pss_cons (ps_if (pt_not (pt_val (pe_cal C_law_is_name hr (by rfl) (pa_cons (pv 6) pa_nil))))
       (pss_one (ps_ret (pe_lst (pa_cons pe_str (pa_cons (pv 6) pa_nil)))))
       pss_nil)
       (pss_one (ps_if (pt_cmpR (op_inK K rfl) (pv 6) (pv 7) (by rfl))
       (pss_one (ps_ret (pe_lst (pa_cons pe_str (pa_cons (pv 6) pa_nil)))))
       pss_nil)))
      (pss_one (ps_if (PW.pt (pw_or (pt_not (pt_val (pe_callB (call_isD (av := [])) (by rfl) T.isinstance (by decide +kernel) (pa_cons (pv 6) (pa_cons (pe_bltn (v := .ty "str") (by rfl) T.str (by decide +kernel) rfl) pa_nil))))) (pw_or1 (pt_cmpR (op_notInK K rfl) (pv 6) (pv 7) (by rfl)))))
       (pss_one (ps_ret (pe_lst (pa_cons pe_str (pa_cons (pv 6) pa_nil)))))
       pss_nil)))
      (pss_cons (ps_if (pt_cmpR op_eq (pv 5) pe_str (nomark _))
      (pss_one (ps_ret (pe_lst (pa_cons pe_str (pa_cons (pe_tup (pa_cons (pv 2) (pa_cons (pe_cal C_law_without hr (by rfl) (pa_cons (pv 3) (pa_cons (pv 6) pa_nil))) (pa_cons (pe_cal C_law_without hr (by rfl) (pa_cons (pv 4) (pa_cons (pv 6) pa_nil))) pa_nil)))) pa_nil)))))
      pss_nil)
      (pss_cons (ps_set (i := 9) scLPeO.nd rfl (.inl rfl) (pe_ix (ix_tupK K rfl) (pv 1) pe_int (fun _ _ => rfl)))
      (pss_cons (ps_if (pt_not (pt_val (pe_cal C_law_is_integer hr (by rfl) (pa_cons (pv 9) (pa_cons pe_int (pa_cons (pe_op op_sub (pe_ix (ix_tupK K rfl) (pv 2) pe_int (fun _ _ => rfl)) pe_int) pa_nil))))))
      (pss_one (ps_ret (pe_lst (pa_cons pe_str (pa_cons (pv 9) pa_nil)))))
      pss_nil)
      (pss_cons (ps_if (pt_cmpR op_eq (pv 5) pe_str (nomark _))
      (pss_one (ps_ret (pe_lst (pa_cons pe_str (pa_cons (pe_tup (pa_cons (pv 2) (pa_cons (pv 3) (pa_cons (pe_cal C_law_moved hr (by rfl) (pa_cons (pv 4) (pa_cons (pv 6) (pa_cons (pv 9) pa_nil)))) pa_nil)))) pa_nil)))))
      pss_nil)
      (pss_cons (ps_if (PW.pt (pw_and (pt_cmpR op_eq (pv 5) pe_str (nomark _)) (pw_and1 (pt_cmpR (op_notInK K rfl) (pv 9) (pe_cal C_law_neighbors hr (by rfl) (pa_cons (pv 2) (pa_cons (pe_dget (hu_of hr) (pe_callTy (call_dictT rfl) (by rfl) Tdict (by decide +kernel) (pa_cons (pv 3) pa_nil)) (pv 6) (fun _ _ => rfl)) pa_nil))) (by rfl)))))
      (pss_one (ps_ret (pe_lst (pa_cons pe_str (pa_cons (pv 9) pa_nil)))))
      pss_nil)
      (pss_cons (ps_if (pt_cmpR (op_notInK K rfl) (pv 9) (pe_lc (own := [("_law_one", 8)]) (g := gName 8) (by rfl) scLPeO.nd (pi_tupK K rfl (pv 3))
 (blkOk_by (own := [("_law_one", 8)]) (N := nLPeO) (sc := defScope sLPeopleOutcome) (by decide +kernel))
 (fun _ _ _ _ _ => (pg_name (i := 8) scLPeO.nd rfl (.inl rfl))) (fun _ _ _ _ _ => pts_nil) (fun _ _ _ _ _ => (pe_ix (ix_tupK K rfl) (pv 8) pe_int (fun _ _ => rfl)))) (by rfl))
      (pss_one (ps_ret (pe_lst (pa_cons pe_str (pa_cons (pv 9) pa_nil)))))
      pss_nil)
      (pss_cons (ps_if (pt_cmpR op_eq (pv 5) pe_str (nomark _))
      (pss_one (ps_ret (pe_lst (pa_cons pe_str (pa_cons (pe_tup (pa_cons (pv 2) (pa_cons (pe_cal C_law_moved hr (by rfl) (pa_cons (pv 3) (pa_cons (pv 6) (pa_cons (pv 9) pa_nil)))) (pa_cons (pv 4) pa_nil)))) pa_nil)))))
      pss_nil)
      (pss_cons (ps_if (pt_cmpR op_eq (pe_callB (call_lenK K rfl) (by rfl) T.len (by decide +kernel) (pa_cons (pv 3) pa_nil)) pe_int (nomark _))
      (pss_one (ps_ret (pe_lst (pa_cons pe_str (pa_cons pe_int pa_nil)))))
      pss_nil)
      (pss_cons (ps_set (i := 8) scLPeO.nd rfl (.inl rfl) (pe_tup (pa_cons (pe_slice sl_tupA (pv 1) (po_some pe_int) po_none) pa_nil)))
      (pss_one (ps_ret (pe_lst (pa_cons pe_str (pa_cons (pe_tup (pa_cons (pv 2) (pa_cons (pe_callTy (call_tupleN K rfl) (by rfl) T.tuple (by decide +kernel) (pa_cons (pe_callB (cr_sortedDat K rfl hr.units) (by rfl) T.sorted (by decide +kernel) (pa_cons (pe_op op_catS (pv 3) (pv 8)) pa_nil)) pa_nil)) (pa_cons (pe_callTy (call_tupleN K rfl) (by rfl) T.tuple (by decide +kernel) (pa_cons (pe_callB (cr_sortedDat K rfl hr.units) (by rfl) T.sorted (by decide +kernel) (pa_cons (pe_op op_catS (pv 4) (pv 8)) pa_nil)) pa_nil)) pa_nil)))) pa_nil)))))))))))))))))), ?_⟩
    obtain ⟨h, p, g, et, hH, hP, hG⟩ := hs
    obtain ⟨ac', eac, tac⟩ := ha
    cases eac
    have sq := tac.sq (K := K)
    have hF := st1.f
    have pl := st1.p
    have lG := st_few st1
    refine ⟨_, rfl, st, _, rfl, SqT.of et, rfl, _, _, rfl, _, _, rfl, _, _, rfl, rfl, ?_⟩
    dsimp only [gName]
    obtain ⟨wd, nm, rs, ea⟩ : ∃ wd nm rs, a.l = Ar.s wd :: Ar.s nm :: rs := by cases a <;> exact ⟨_, _, _, rfl⟩
    have sq0 : SqT K H ac (.str wd :: .str nm :: rs.map Ar.v) := by rw [ea] at sq; exact sq
    refine ⟨_, rfl, ac, _, 0, _, rfl, rfl, sq0, atI0, _, rfl, ac, _, 1, _, rfl, rfl, sq0, atI1, _, _, rfl, ?_⟩
    obtain ⟨ps, h1, h2, h3⟩ := id hP.pl
    obtain ⟨qd, eh⟩ := hH.room0
    have lps : ps.length ≤ 100 := by rw [h2, List.length_map] at lP; omega
    refine ⟨_, rfl, p, rfl, ⟨_, h1.sq⟩, fun L hL => lc_tup (K := K) (a := p) (xs := ps.map fun q => V.ref q.1) (fun k H' => Same H H' ∧ H' L = some (.lst (((P.take k).map (·.1)).map V.str))) ⟨same_upd hL, upd_same⟩ (fun k H' _ hh => (h1.same hh.1).sq) ?_ ?_⟩
    · rintro k x H' hx ⟨s', e'⟩
      obtain ⟨q', hq, rfl⟩ := get_pl hx
      have hk : P[k]? = some (q'.2.1, q'.2.2) := by rw [h2, List.getElem?_map, hq]; rfl
      refine ⟨rfl, ?_⟩
      unfold tYes
      refine iteT ⟨_, rfl, q'.1, _, _, _, rfl, rfl, SqT.of (s' _ _ (h3 q' (List.mem_of_getElem? hq))), atI0, _, e', ?_, same_put s' hL, ?_⟩
      · rw [List.length_map, List.length_map, List.length_take]
        exact small1000 (by omega)
      · rw [upd_same, names_snoc hk, vs_app]
        rfl
    rintro H1 ⟨s1, e1⟩
    rw [List.length_map, show ps.length = P.length by rw [h2, List.length_map], List.take_length] at e1
    cases a with
    | mv nm' r =>
      cases ea
      replace sq : SqT K H ac [.str "move", .str nm, .int r] := sq
      refine ⟨_, rfl, rfl, _, rfl, ?_⟩
      rw [str_dec, show decide (("move" : Str) = "enter") = false by decide +kernel]
      refine iteF ?_
      refine ⟨_, rfl, .str nm, "str", .str nm, rfl, by decide, .str _, _, rfl, ?_⟩
      rw [show isD "str" (.str nm) = true from rfl]
      refine iteF ?_
      refine ⟨_, rfl, _, rfl, L, _, rfl, .inl (SqL.of e1), rfl, flat_ss _, _, rfl, ?_⟩
      rw [if_pos rfl, inV_ss]
      by_cases mn : ¬ nm ∈ P.map (·.1)
      · rw [decide_eq_false mn]
        exact iteT ⟨_, rfl, by show 2 ≤ sizeLine; decide, fun l hl => qE _ (.s nm) (.mvU mn) _ l (s1.trans (same_upd hl)) upd_same⟩
      have mn := Decidable.not_not.mp mn
      rw [decide_eq_true mn]
      refine iteF ?_
      refine ⟨_, rfl, rfl, _, rfl, ?_⟩
      rw [str_dec, show decide (("move" : Str) = "leave") = false by decide +kernel]
      refine iteF ?_
      obtain ⟨xx, hxx, exx⟩ := List.mem_map.mp mn
      have hm : (nm, xx.2) ∈ P := by rw [← exx]; exact hxx
      refine ⟨_, rfl, ac, _, 2, _, rfl, rfl, sq.same' s1, atI2, ?_⟩
      refine ⟨_, rfl, _, rfl, h, _, _, _, rfl, rfl, SqT.of (s1 _ _ eh), atI0, _, _, rfl, rfl, .int r, .int r, 0, n - 1, rfl, .int _, _, rfl, ?_⟩
      rw [inR_rm]
      by_cases hr0 : ¬ (0 ≤ r ∧ r < n)
      · rw [show isRm n (.int r) = false from decide_eq_false hr0]
        exact iteT ⟨_, rfl, by show 2 ≤ sizeLine; decide, fun l hl => qE _ (.i r) (.mvI hm hr0) _ l (s1.trans (same_upd hl)) upd_same⟩
      have hr0 := Decidable.not_not.mp hr0
      rw [show isRm n (.int r) = true from decide_eq_true hr0]
      refine iteF ?_
      refine ⟨_, rfl, rfl, _, rfl, ?_⟩
      rw [str_dec, show decide (("move" : Str) = "set_target") = false by decide +kernel]
      refine iteF ?_
      refine ⟨_, rfl, rfl, _, rfl, ?_⟩
      rw [decide_eq_true rfl]
      refine iteT ⟨_, rfl, _, rfl, _, rfl, p, P, rfl, hP.same s1, pl.nodup, by omega, fun m hm' => ?_⟩
      have s2 := s1.trans (same_upd (o := .dK (dkI P)) hm')
      have g1 := DGet.k (k := Sum.inr nm) (show (upd H1 m (.dK (dkI P))) m = some (.dK (dkI P)) from upd_same)
      rw [valV_dkI pl.nodup hm] at g1
      generalize upd H1 m (.dK (dkI P)) = H2 at *
      refine ⟨_, rfl, m, _, rfl, g1, h, n, D, xx.2, rfl, hH.same s2, hF, fun H3 l s3 hl el => ⟨l, _, rfl, .inl (SqL.of el), rfl, flat_vi _, _, rfl, ?_⟩⟩
      have s3 := s2.trans s3
      rw [if_pos rfl, inV_vi]
      by_cases hr1 : ¬ r ∈ nb n D xx.2
      · rw [decide_eq_false hr1]
        exact iteT ⟨_, rfl, by show 2 ≤ sizeLine; decide, fun l hl => qE _ (.i r) (.mvN hm hr0 hr1) _ l (s3.trans (same_upd hl)) upd_same⟩
      have hr1 := Decidable.not_not.mp hr1
      rw [decide_eq_true hr1]
      refine iteF ?_
      refine ⟨_, rfl, _, rfl, p, rfl, ⟨_, (h1.same s3).sq⟩, fun L2 hL2 => lc_tup (K := K) (a := p) (xs := ps.map fun q => V.ref q.1) (fun k H' => Same H3 H' ∧ H' L2 = some (.lst (vi ((P.take k).map (·.2))))) ⟨same_upd hL2, upd_same⟩ (fun k H' _ hh => ((h1.same s3).same hh.1).sq) ?_ ?_⟩
      · rintro k x H' hx ⟨s', e'⟩
        obtain ⟨q', hq, rfl⟩ := get_pl hx
        have hk : P[k]? = some (q'.2.1, q'.2.2) := by rw [h2, List.getElem?_map, hq]; rfl
        refine ⟨rfl, ?_⟩
        unfold tYes
        refine iteT ⟨_, rfl, q'.1, _, _, _, rfl, rfl, SqT.of (s' _ _ (s3 _ _ (h3 q' (List.mem_of_getElem? hq)))), atI1, _, e', ?_, same_put s' hL2, ?_⟩
        · rw [List.length_map, List.length_map, List.length_take]
          exact small1000 (by omega)
        · rw [upd_same, take_snoc hk, List.map_append, vi_app]
          rfl
      rintro H4 ⟨s4, e4⟩
      rw [List.length_map, show ps.length = P.length by rw [h2, List.length_map], List.take_length] at e4
      have s4 := s3.trans s4
      refine ⟨L2, _, rfl, .inl (SqL.of e4), rfl, flat_vi _, _, rfl, ?_⟩
      rw [if_pos rfl, inV_vi]
      by_cases hr2 : ¬ r ∈ P.map (·.2)
      · rw [decide_eq_false hr2]
        exact iteT ⟨_, rfl, by show 2 ≤ sizeLine; decide, fun l hl => qE _ (.i r) (.mvE hm hr0 hr1 hr2) _ l (s4.trans (same_upd hl)) upd_same⟩
      have hr2 := Decidable.not_not.mp hr2
      rw [decide_eq_true hr2]
      refine iteF ?_
      refine ⟨_, rfl, rfl, _, rfl, ?_⟩
      rw [decide_eq_true rfl]
      refine iteT ?_
      refine ⟨_, rfl, _, rfl, _, rfl, _, rfl, p, P, nm, r, rfl, (hP.same s4).pl, by omega, fun H5 u s5 e5 => ⟨_, rfl, by show 3 ≤ sizeLine; decide, fun t ht => ⟨by show 2 ≤ sizeLine; decide, fun l hl => ?_⟩⟩⟩
      have s6 := (same_upd (o := .tup [.ref h, .ref u, .ref g]) ht).trans (same_upd (o := .lst [.str "ok", .ref t]) hl)
      have s7 := (s4.trans s5).trans s6
      exact qO _ _ _ _ (.mvO hm hr0 hr1 hr2) _ l t s7 upd_same ⟨h, u, g, same_upd hl _ _ upd_same, hH.same s7, e5.same s6, hG.same s7⟩
    | en nm' r =>
      cases ea
      replace sq : SqT K H ac [.str "enter", .str nm, .int r] := sq
      have okn := oa.2 (.s nm) (by simp [Act.l])
      refine ⟨_, rfl, rfl, _, rfl, ?_⟩
      rw [decide_eq_true rfl]
      refine iteT ?_
      refine ⟨_, rfl, .str nm, .str nm, 0, 0, 20, rfl, .str _, str_gdV okn.1 okn.2, by decide, fun H2 s2 => ⟨_, rfl, ?_⟩⟩
      have s2 := s1.trans s2
      cases eb : nmD (.str nm) with
      | false => exact iteT ⟨_, rfl, by show 2 ≤ sizeLine; decide, fun l hl => qE _ (.s nm) (.enB eb) _ l (s2.trans (same_upd hl)) upd_same⟩
      | true =>
      have hb := nam_of eb
      refine iteF ?_
      refine ⟨_, rfl, _, rfl, L, _, rfl, .inl (SqL.of ((show Same H1 H2 from by assumption) _ _ e1)), rfl, flat_ss _, _, rfl, ?_⟩
      rw [inV_ss]
      by_cases mn : nm ∈ P.map (·.1)
      · rw [decide_eq_true mn]
        exact iteT ⟨_, rfl, by show 2 ≤ sizeLine; decide, fun l hl => qE _ (.s nm) (.enD hb mn) _ l (s2.trans (same_upd hl)) upd_same⟩
      rw [decide_eq_false mn]
      refine iteF ?_
      refine ⟨_, rfl, rfl, _, rfl, ?_⟩
      rw [str_dec, show decide (("enter" : Str) = "leave") = false by decide +kernel]
      refine iteF ?_
      refine ⟨_, rfl, ac, _, 2, _, rfl, rfl, sq.same' s2, atI2, ?_⟩
      refine ⟨_, rfl, _, rfl, h, _, _, _, rfl, rfl, SqT.of (s2 _ _ eh), atI0, _, _, rfl, rfl, .int r, .int r, 0, n - 1, rfl, .int _, _, rfl, ?_⟩
      rw [inR_rm]
      by_cases hr0 : ¬ (0 ≤ r ∧ r < n)
      · rw [show isRm n (.int r) = false from decide_eq_false hr0]
        exact iteT ⟨_, rfl, by show 2 ≤ sizeLine; decide, fun l hl => qE _ (.i r) (.enI hb mn hr0) _ l (s2.trans (same_upd hl)) upd_same⟩
      have hr0 := Decidable.not_not.mp hr0
      rw [show isRm n (.int r) = true from decide_eq_true hr0]
      refine iteF ?_
      refine ⟨_, rfl, rfl, _, rfl, ?_⟩
      rw [str_dec, show decide (("enter" : Str) = "set_target") = false by decide +kernel]
      refine iteF ?_
      refine ⟨_, rfl, rfl, _, rfl, ?_⟩
      rw [str_dec, show decide (("enter" : Str) = "move") = false by decide +kernel]
      refine iteF ?_
      refine ⟨_, rfl, _, rfl, p, rfl, ⟨_, (h1.same s2).sq⟩, fun L2 hL2 => lc_tup (K := K) (a := p) (xs := ps.map fun q => V.ref q.1) (fun k H' => Same H2 H' ∧ H' L2 = some (.lst (vi ((P.take k).map (·.2))))) ⟨same_upd hL2, upd_same⟩ (fun k H' _ hh => ((h1.same s2).same hh.1).sq) ?_ ?_⟩
      · rintro k x H' hx ⟨s', e'⟩
        obtain ⟨q', hq, rfl⟩ := get_pl hx
        have hk : P[k]? = some (q'.2.1, q'.2.2) := by rw [h2, List.getElem?_map, hq]; rfl
        refine ⟨rfl, ?_⟩
        unfold tYes
        refine iteT ⟨_, rfl, q'.1, _, _, _, rfl, rfl, SqT.of (s' _ _ (s2 _ _ (h3 q' (List.mem_of_getElem? hq)))), atI1, _, e', ?_, same_put s' hL2, ?_⟩
        · rw [List.length_map, List.length_map, List.length_take]
          exact small1000 (by omega)
        · rw [upd_same, take_snoc hk, List.map_append, vi_app]
          rfl
      rintro H4 ⟨s4, e4⟩
      rw [List.length_map, show ps.length = P.length by rw [h2, List.length_map], List.take_length] at e4
      have s4 := s2.trans s4
      refine ⟨L2, _, rfl, .inl (SqL.of e4), rfl, flat_vi _, _, rfl, ?_⟩
      rw [if_pos rfl, inV_vi]
      by_cases hr2 : ¬ r ∈ P.map (·.2)
      · rw [decide_eq_false hr2]
        exact iteT ⟨_, rfl, by show 2 ≤ sizeLine; decide, fun l hl => qE _ (.i r) (.enE hb mn hr0 hr2) _ l (s4.trans (same_upd hl)) upd_same⟩
      have hr2 := Decidable.not_not.mp hr2
      rw [decide_eq_true hr2]
      refine iteF ?_
      refine ⟨_, rfl, rfl, _, rfl, ?_⟩
      rw [str_dec, show decide (("enter" : Str) = "move") = false by decide +kernel]
      refine iteF ?_
      refine ⟨_, rfl, p, _, rfl, .inr (h1.same s4).sq, rfl, _, rfl, ?_⟩
      rw [List.length_map, show ps.length = P.length by rw [h2, List.length_map]]
      refine ite2 (fun c => ?_) (fun c => ?_)
      · have c : ((P.length : Nat) : Int) = 12 := by simpa using c
        exact ⟨by show 2 ≤ sizeLine; decide, fun l hl => qE _ (.i 12) (.enL hb mn hr2 (by omega)) _ l (s4.trans (same_upd hl)) upd_same⟩
      have c : ¬ ((P.length : Nat) : Int) = 12 := by simpa using c
      have sqa : SqT K H4 ac [.str "enter", .str nm, .int r] := sq.same' s4
      refine ⟨_, rfl, 1, rfl, ac, _, rfl, sqa, fun z => absurd z.1 (show ¬ HT.sIx 3 0 (some 1) = 0 by decide), fun _ q fq => ?_⟩
      have cu : cutV [V.str "enter", V.str nm, V.int r] (some 1) none = [.str nm, .int r] := cut_from (xs := [V.str "enter", V.str nm, V.int r]) (i := 1) (by decide) (show (1 : Int) ≤ ((3 : Nat) : Int) by decide)
      rw [cu]
      have v5 := same_upd (o := .tup [.str nm, .int r]) fq
      have eq5 : (upd H4 q (.tup [.str nm, .int r])) q = some (.tup [.str nm, .int r]) := upd_same
      generalize upd H4 q (.tup [.str nm, .int r]) = H5 at *
      have s5 := s4.trans v5
      refine ⟨by show 1 ≤ sizeLine; decide, fun o fo => ?_⟩
      have v6 := same_upd (o := .tup [.ref q]) fo
      have eo6 : (upd H5 o (.tup [.ref q])) o = some (.tup [.ref q]) := upd_same
      have eq6 := v6 _ _ eq5
      generalize upd H5 o (.tup [.ref q]) = H6 at *
      have s6 := s5.trans v6
      refine ⟨_, rfl, _, rfl, _, rfl, ?_⟩
      dsimp only [tNil]
      refine more_read (hP.same s6).pl (by omega) (SqT.of eo6) (x := (nm, r)) eq6 fun H7 u P' s7 hu mP => ?_
      refine ⟨_, rfl, _, rfl, ?_⟩
      dsimp only [tNil]
      refine more_read (hG.same (s6.trans s7)) (by omega) (SqT.of (s7 _ _ eo6)) (x := (nm, r)) (s7 _ _ eq6) fun H8 v G' s8 hv mG => ?_
      refine ⟨by show 3 ≤ sizeLine; decide, fun t ht => ⟨by show 2 ≤ sizeLine; decide, fun l hl => ?_⟩⟩
      have s9 := (same_upd (o := .tup [.ref h, .ref u, .ref v]) ht).trans (same_upd (o := .lst [.str "ok", .ref t]) hl)
      have sT := ((s6.trans s7).trans s8).trans s9
      exact qO _ _ _ _ (.enO hb mn hr2 (by omega) mP mG) _ l t sT upd_same ⟨h, u, v, same_upd hl _ _ upd_same, hH.same sT, hu.same (s8.trans s9), (hv.same s9).pl⟩
    | lv nm' =>
      cases ea
      replace sq : SqT K H ac [.str "leave", .str nm] := sq
      refine ⟨_, rfl, rfl, _, rfl, ?_⟩
      rw [str_dec, show decide (("leave" : Str) = "enter") = false by decide +kernel]
      refine iteF ?_
      refine ⟨_, rfl, .str nm, "str", .str nm, rfl, by decide, .str _, _, rfl, ?_⟩
      rw [show isD "str" (.str nm) = true from rfl]
      refine iteF ?_
      refine ⟨_, rfl, _, rfl, L, _, rfl, .inl (SqL.of e1), rfl, flat_ss _, _, rfl, ?_⟩
      rw [if_pos rfl, inV_ss]
      by_cases mn : ¬ nm ∈ P.map (·.1)
      · rw [decide_eq_false mn]
        exact iteT ⟨_, rfl, by show 2 ≤ sizeLine; decide, fun l hl => qE _ (.s nm) (.lvU mn) _ l (s1.trans (same_upd hl)) upd_same⟩
      have mn := Decidable.not_not.mp mn
      rw [decide_eq_true mn]
      refine iteF ?_
      refine ⟨_, rfl, rfl, _, rfl, ?_⟩
      rw [decide_eq_true rfl]
      refine iteT ?_
      refine ⟨_, rfl, _, rfl, _, rfl, p, P, nm, rfl, (hP.same s1).pl, by omega, fun H2 u s2 e2 => ⟨_, rfl, _, rfl, g, G, nm, rfl, hG.same (s1.trans s2), by omega, fun H3 v s3 e3 => ⟨by show 3 ≤ sizeLine; decide, fun t ht => ⟨by show 2 ≤ sizeLine; decide, fun l hl => ?_⟩⟩⟩⟩
      have s6 := (same_upd (o := .tup [.ref h, .ref u, .ref v]) ht).trans (same_upd (o := .lst [.str "ok", .ref t]) hl)
      have s7 := ((s1.trans s2).trans s3).trans s6
      exact qO _ _ _ _ (.lvO mn) _ l t s7 upd_same ⟨h, u, v, same_upd hl _ _ upd_same, hH.same s7, e2.same (s3.trans s6), (e3.same s6).pl⟩
    | tg nm' r =>
      cases ea
      replace sq : SqT K H ac [.str "set_target", .str nm, .int r] := sq
      refine ⟨_, rfl, rfl, _, rfl, ?_⟩
      rw [str_dec, show decide (("set_target" : Str) = "enter") = false by decide +kernel]
      refine iteF ?_
      refine ⟨_, rfl, .str nm, "str", .str nm, rfl, by decide, .str _, _, rfl, ?_⟩
      rw [show isD "str" (.str nm) = true from rfl]
      refine iteF ?_
      refine ⟨_, rfl, _, rfl, L, _, rfl, .inl (SqL.of e1), rfl, flat_ss _, _, rfl, ?_⟩
      rw [if_pos rfl, inV_ss]
      by_cases mn : ¬ nm ∈ P.map (·.1)
      · rw [decide_eq_false mn]
        exact iteT ⟨_, rfl, by show 2 ≤ sizeLine; decide, fun l hl => qE _ (.s nm) (.tgU mn) _ l (s1.trans (same_upd hl)) upd_same⟩
      have mn := Decidable.not_not.mp mn
      rw [decide_eq_true mn]
      refine iteF ?_
      refine ⟨_, rfl, rfl, _, rfl, ?_⟩
      rw [str_dec, show decide (("set_target" : Str) = "leave") = false by decide +kernel]
      refine iteF ?_
      refine ⟨_, rfl, ac, _, 2, _, rfl, rfl, sq.same' s1, atI2, ?_⟩
      refine ⟨_, rfl, _, rfl, h, _, _, _, rfl, rfl, SqT.of (s1 _ _ eh), atI0, _, _, rfl, rfl, .int r, .int r, 0, n - 1, rfl, .int _, _, rfl, ?_⟩
      rw [inR_rm]
      by_cases hr0 : ¬ (0 ≤ r ∧ r < n)
      · rw [show isRm n (.int r) = false from decide_eq_false hr0]
        exact iteT ⟨_, rfl, by show 2 ≤ sizeLine; decide, fun l hl => qE _ (.i r) (.tgI mn hr0) _ l (s1.trans (same_upd hl)) upd_same⟩
      have hr0 := Decidable.not_not.mp hr0
      rw [show isRm n (.int r) = true from decide_eq_true hr0]
      refine iteF ?_
      refine ⟨_, rfl, rfl, _, rfl, ?_⟩
      rw [decide_eq_true rfl]
      refine iteT ?_
      refine ⟨_, rfl, _, rfl, _, rfl, _, rfl, _, rfl, g, G, nm, r, rfl, hG.same s1, by omega, fun H2 u s2 e2 => ⟨by show 3 ≤ sizeLine; decide, fun t ht => ⟨by show 2 ≤ sizeLine; decide, fun l hl => ?_⟩⟩⟩
      have s6 := (same_upd (o := .tup [.ref h, .ref p, .ref u]) ht).trans (same_upd (o := .lst [.str "ok", .ref t]) hl)
      have s7 := (s1.trans s2).trans s6
      exact qO _ _ _ _ (.tgO mn hr0) _ l t s7 upd_same ⟨h, p, u, same_upd hl _ _ upd_same, hH.same s7, hP.same s7, (e2.same s6).pl⟩
end
end Fw
set_option maxHeartbeats 8000000
namespace Fw
open PySem PySem.Spec PyProof.Rows L2
/-! what the law expects of an action; an action at random -/
theorem ws_at {ls : List Str} {i : Int} (h0 : 0 ≤ i) (h1 : i < (ls.length : Nat)) : ∃ l ∈ ls, atI (ls.map V.str) i = some (.str l) := by
  refine ⟨_, List.getElem_mem (show i.toNat < ls.length by omega), ?_⟩
  have := atI_nat (xs := ls.map V.str) (j := i.toNat) (v := .str (ls[i.toNat]'(by omega))) (by rw [List.getElem?_map, List.getElem?_eq_getElem (show i.toNat < ls.length by omega)]; rfl)
  rw [show ((i.toNat : Nat) : Int) = i by omega] at this
  exact this
theorem nam_arok {z : Str} (h : Nam z) : (Ar.s z).ok := by
  refine ⟨Nat.le_trans h.2.1 (by decide), ?_⟩
  rw [List.all_eq_true]
  intro c hc
  have := h.2.2 c hc
  exact decide_eq_true (by omega)
section
variable {P : Program} {w : World} {K : PySem.W.Frag} {mg : Str → Option Value} {base : Heap}
abbrev nLExO : List Str := ["_law_state", "_law_action"]
theorem scLExO : FnScope nLExO ["_law_state", "_law_action"] (defScope sLExpectedOutcome) := ⟨rfl, rfl, rfl, by decide +kernel, rfl, by decide +kernel, by decide +kernel⟩
theorem ok_lexo {f : Addr} {fd : FuncData} {k : Nat} (F : Fun K "_law_expected_outcome" "_law_expected_outcome" sLExpectedOutcome f fd) (C_law_people_outcome : Cal P w K mg base k "_law_people_outcome" ["_law_state", "_law_action"] (spLPeO K)) : FnOk P w K mg base CX0 (k + 1) f fd ["_law_state", "_law_action"] (spLPeO K) := by
  refine F.ok scLExO (fun vs H Q E h => ?_) (fun cdv A outer zz H vs Q E hr h => ?_)
  · obtain ⟨st, ac, n, D, P, G, a, rfl, _⟩ := h
    rfl
  · obtain ⟨st, ac, n, D, P, G, a, rfl, hs, st1, lP, ha, oa, qE, qO⟩ := h
    refine ⟨_, (pss_cons (ps_if (pt_cmpR (op_inK K rfl) (pe_ix (ix_tupK K rfl) (pv 1) pe_int (fun _ _ => rfl)) (pe_tup (pa_cons pe_str (pa_cons pe_str (pa_cons pe_str pa_nil)))) (by rfl))
      pss_never
      pss_nil)
      (pss_one (ps_ret (pe_cal C_law_people_outcome hr (by rfl) (pa_cons (pv 0) (pa_cons (pv 1) pa_nil)))))), ?_⟩
    obtain ⟨ac', eac, tac⟩ := id ha
    cases eac
    have sq := tac.sq (K := K)
    obtain ⟨wd, nm, rs, ea, no⟩ : ∃ wd nm rs, a.l = Ar.s wd :: Ar.s nm :: rs ∧ decide (wd ∈ (["add_door", "remove_door", "add_room"] : List Str)) = false := by cases a <;> exact ⟨_, _, _, rfl, by decide +kernel⟩
    rw [ea] at sq
    refine ⟨_, rfl, ac, _, 0, _, rfl, rfl, sq, atI0, by show 3 ≤ sizeLine; decide, fun t ht => ⟨t, (["add_door", "remove_door", "add_room"] : List Str).map V.str, rfl, .inr (SqT.of upd_same), rfl, flat_ss _, _, rfl, ?_⟩⟩
    have s1 := same_upd (o := .tup [.str "add_door", .str "remove_door", .str "add_room"]) ht
    rw [show (Ar.s wd).v = V.str wd from rfl, inV_ss, no]
    refine iteF ⟨_, rfl, _, rfl, st, ac, n, D, P, G, a, rfl, hs.tk (Tk.of s1), st1, lP, ha.tk (Tk.of s1), oa, fun z v ef H' l s' e' => qE z v ef H' l (s1.trans s') e', fun n' D' P' G' ef H' l t' s' e' h' => qO n' D' P' G' ef H' l t' (s1.trans s') e' h'⟩
abbrev nLRAc : List Str := ["_law_stream_here", "_law_state", "_law_words", "_law_house_here", "_law_placement_here", "_law_target", "_law_word", "_law_names_here", "_law_one", "_law_name", "_law_room", "_law_other", "_law_some", "_law_door"]
theorem scLRAc : FnScope nLRAc ["_law_stream_here", "_law_state", "_law_words"] (defScope sLRandomAction) := ⟨rfl, rfl, rfl, by decide +kernel, rfl, by decide +kernel, by decide +kernel⟩
def spLRAc (K : PySem.W.Frag) : Sp := fun vs H Q _ => ∃ (s A B st wl : Addr) (c : Nat) (n : Int) (D : List (Int × Int)) (P G : List (Str × Int)) (ws : List Str), vs = [.ref s, .ref st, .ref wl] ∧ StreamAt H s A B c ∧ c < 2 ^ 30 ∧ StL H st n D P G ∧ St1 n D P G ∧ 1 ≤ n ∧ P.length ≤ 12 ∧ H wl = some (.lst (ws.map V.str)) ∧ (s ≠ wl ∧ A ≠ wl ∧ B ≠ wl) ∧ ws ≠ [] ∧ ws.length ≤ 100 ∧ (∀ x ∈ ws, x = "move" ∨ x = "enter" ∨ x = "leave" ∨ x = "set_target") ∧
  ∀ H' t (a : Act), StreamAt H' s A B (c + 10) → Fr s A H H' → ActAt H' (.ref t) a.l → ActOk a.l → Q (.ref t) H'
theorem ok_lrac {f : Addr} {fd : FuncData} {k : Nat} (F : Fun K "_law_random_action" "_law_random_action" sLRandomAction f fd) (T : Nm mg) (Tdict : mg "dict" = none) (C_law_draw : Cal P w K mg base k "_law_draw" pDraw spDraw) (C_law_neighbors : Cal P w K mg base k "_law_neighbors" ["_law_house_here", "_law_room"] spLNb) : FnOk P w K mg base CX0 (k + 1) f fd ["_law_stream_here", "_law_state", "_law_words"] (spLRAc K) := by
  refine F.ok scLRAc (fun vs H Q E h => ?_) (fun cdv A0 outer zz H vs Q E hr h => ?_)
  · obtain ⟨s, A, B, st, wl, c, n, D, P, G, ws, rfl, _⟩ := h
    rfl
  · obtain ⟨s, A, B, st, wl, c, n, D, P, G, ws, rfl, hS, hc, hs, s1, n1, lP, ew, zw, nw, lw, aw, q⟩ := h
    refine ⟨_, (pss_cons (ps_asg (pv 1) (pg_tup (by rfl) (pgs_cons (pg_name (i := 3) scLRAc.nd rfl (.inl rfl)) (pgs_cons (pg_name (i := 4) scLRAc.nd rfl (.inl rfl)) (pgs_cons (pg_name (i := 5) scLRAc.nd rfl (.inl rfl)) pgs_nil)))))
      (pss_cons (ps_par (i := 6) (j := 7) (by rfl) scLRAc.nd rfl rfl (by decide) rfl rfl (pa_cons (pe_ix (ix_listK K rfl) (pv 2) (pe_cal C_law_draw hr (by rfl) (pa_cons (pv 0) (pa_cons (pe_callB (call_lenK K rfl) (by rfl) T.len (by decide +kernel) (pa_cons (pv 2) pa_nil)) pa_nil))) (fun _ _ => rfl)) (pa_cons (pe_op op_cat (pe_op op_rep (pe_lc (own := [("_law_one", 8)]) (g := gName 8) (by rfl) scLRAc.nd (pi_tupK K rfl (pv 4))
 (blkOk_by (own := [("_law_one", 8)]) (N := nLRAc) (sc := defScope sLRandomAction) (by decide +kernel))
 (fun _ _ _ _ _ => (pg_name (i := 8) scLRAc.nd rfl (.inl rfl))) (fun _ _ _ _ _ => pts_nil) (fun _ _ _ _ _ => (pe_ix (ix_tupK K rfl) (pv 8) pe_int (fun _ _ => rfl)))) pe_int) (pe_lst (pa_cons pe_str pa_nil))) pa_nil)) (by rfl))
      (pss_cons (ps_par3 (i := 9) (j := 10) (l := 11) (by rfl) scLRAc.nd rfl rfl rfl (by decide) (by decide) (by decide) rfl rfl rfl (pa_cons (pe_ix (ix_listK K rfl) (pv 7) (pe_cal C_law_draw hr (by rfl) (pa_cons (pv 0) (pa_cons (pe_callB (call_lenK K rfl) (by rfl) T.len (by decide +kernel) (pa_cons (pv 7) pa_nil)) pa_nil))) (fun _ _ => rfl)) (pa_cons (pe_cal C_law_draw hr (by rfl) (pa_cons (pv 0) (pa_cons (pe_ix (ix_tupK K rfl) (pv 3) pe_int (fun _ _ => rfl)) pa_nil))) (pa_cons (pe_cal C_law_draw hr (by rfl) (pa_cons (pv 0) (pa_cons (pe_ix (ix_tupK K rfl) (pv 3) pe_int (fun _ _ => rfl)) pa_nil))) pa_nil))) (by rfl))
      (pss_cons (ps_if (PW.pt (pw_and (pt_cmpR op_eq (pv 6) pe_str (nomark _)) (pw_and1 (pt_cmpR op_gt (pe_cal C_law_draw hr (by rfl) (pa_cons (pv 0) (pa_cons pe_int pa_nil))) pe_int (nomark _)))))
      (pss_one (ps_set (i := 9) scLRAc.nd rfl (.inl rfl) (pe_op op_add_str pe_str (pe_ix ix_str pe_str (pe_cal C_law_draw hr (by rfl) (pa_cons (pv 0) (pa_cons pe_int pa_nil))) (fun _ _ => rfl)))))
      pss_nil)
      (pss_cons (ps_if (pt_cmpR op_eq (pv 6) pe_str (nomark _))
      (pss_cons (ps_set (i := 12) scLRAc.nd rfl (.inl rfl) (pe_op op_cat (pe_cal C_law_neighbors hr (by rfl) (pa_cons (pv 3) (pa_cons (pe_dget2 (hu_of hr) (pe_callTy (call_dictT rfl) (by rfl) Tdict (by decide +kernel) (pa_cons (pv 4) pa_nil)) (pv 9) pe_int ⟨rfl, rfl, rfl, rfl⟩) pa_nil))) (pe_lst (pa_cons (pv 10) pa_nil))))
       (pss_one (ps_set (i := 10) scLRAc.nd rfl (.inl rfl) (pe_ix (ix_listK K rfl) (pv 12) (pe_cal C_law_draw hr (by rfl) (pa_cons (pv 0) (pa_cons (pe_callB (call_lenK K rfl) (by rfl) T.len (by decide +kernel) (pa_cons (pv 12) pa_nil)) pa_nil))) (fun _ _ => rfl)))))
      pss_nil)
      (pss_cons (ps_if (pt_cmpR (op_inK K rfl) (pv 6) (pe_tup (pa_cons pe_str (pa_cons pe_str pa_nil))) (by rfl))
      (pss_one (ps_ret (pe_tup (pa_cons (pv 6) (pa_cons (pv 9) pa_nil)))))
      pss_nil)
      (pss_cons (ps_if (pt_cmpR (op_inK K rfl) (pv 6) (pe_tup (pa_cons pe_str (pa_cons pe_str (pa_cons pe_str pa_nil)))) (by rfl))
      (pss_one (ps_ret (pe_tup (pa_cons (pv 6) (pa_cons (pv 9) (pa_cons (pv 10) pa_nil))))))
      pss_nil)
      pss_never))))))), ?_⟩
    obtain ⟨h, p, g, et, hH, hP, hG⟩ := hs
    have n8 := s1.n8
    have lw0 : 0 < ws.length := List.length_pos_iff.mpr nw
    refine ⟨_, rfl, st, _, rfl, SqT.of et, rfl, _, _, rfl, _, _, rfl, _, _, rfl, rfl, ?_⟩
    dsimp only [gName]
    refine ⟨_, rfl, _, rfl, _, rfl, wl, _, rfl, .inl (SqL.of ew), s, A, B, c, _, rfl, hS, by omega, by rw [List.length_map]; omega, by rw [List.length_map]; omega, fun H1 r1 hS1 fr1 r10 r11 => ?_⟩
    rw [List.length_map] at r11
    obtain ⟨wd, mw, atw⟩ := ws_at r10 r11
    have tk1 := Tk.fr fr1 hS
    have ew1 := fr1 _ _ zw.1.symm zw.2.1.symm ew
    refine ⟨wl, _, _, _, rfl, rfl, SqL.of ew1, atw, ?_⟩
    replace hP := hP.tk tk1
    replace hH := hH.tk tk1
    obtain ⟨ps, h1, h2, h3⟩ := id hP.pl
    have lps : ps.length ≤ 100 := by rw [h2, List.length_map] at lP; omega
    refine ⟨_, rfl, p, rfl, ⟨_, h1.sq⟩, fun L hL => lc_tup (K := K) (a := p) (xs := ps.map fun q => V.ref q.1) (fun k H' => Same H1 H' ∧ H' L = some (.lst (((P.take k).map (·.1)).map V.str))) ⟨same_upd hL, upd_same⟩ (fun k H' _ hh => (h1.same hh.1).sq) ?_ ?_⟩
    · rintro k x H' hx ⟨s', e'⟩
      obtain ⟨q', hq, rfl⟩ := get_pl hx
      have hk : P[k]? = some (q'.2.1, q'.2.2) := by rw [h2, List.getElem?_map, hq]; rfl
      refine ⟨rfl, ?_⟩
      unfold tYes
      refine iteT ⟨_, rfl, q'.1, _, _, _, rfl, rfl, SqT.of (s' _ _ (h3 q' (List.mem_of_getElem? hq))), atI0, _, e', ?_, same_put s' hL, ?_⟩
      · rw [List.length_map, List.length_map, List.length_take]
        exact small1000 (by omega)
      · rw [upd_same, names_snoc hk, vs_app]
        rfl
    rintro H2 ⟨s2, e2⟩
    rw [List.length_map, show ps.length = P.length by rw [h2, List.length_map], List.take_length] at e2
    have s2' := s2
    refine ⟨L, 4, _, rfl, rfl, e2, by decide, by decide, ?_, fun L4 hL4 => ?_⟩
    · rw [List.length_map, List.length_map]
      show P.length * 4 ≤ sizeLine
      exact Nat.le_of_lt (small1000 (by omega))
    rw [show (List.replicate (4 : Int).toNat ((P.map (·.1)).map V.str)).flatten = ((List.replicate 4 (P.map (·.1))).flatten).map V.str by rw [List.map_flatten, List.map_replicate]; rfl]
    have l4 : ((List.replicate 4 (P.map (·.1))).flatten).length = 4 * P.length := by simp [List.length_flatten]; omega
    have m4 : ∀ x ∈ (List.replicate 4 (P.map (·.1))).flatten, x ∈ P.map (·.1) := fun x hx => by
      obtain ⟨l, hl, hx⟩ := List.mem_flatten.mp hx
      rw [(List.mem_replicate.mp hl).2] at hx
      exact hx
    generalize (List.replicate 4 (P.map (·.1))).flatten = n4 at *
    have v3 := same_upd (o := .lst (n4.map V.str)) hL4
    have e3 : (upd H2 L4 (.lst (n4.map V.str))) L4 = some (.lst (n4.map V.str)) := upd_same
    generalize upd H2 L4 (.lst (n4.map V.str)) = H3 at *
    refine ⟨by show 1 ≤ sizeLine; decide, fun Lz hLz => ?_⟩
    have v4 := same_upd (o := .lst [.str "zz"]) hLz
    have e4 : (upd H3 Lz (.lst [.str "zz"])) Lz = some (.lst [.str "zz"]) := upd_same
    replace e3 := v4 _ _ e3
    generalize upd H3 Lz (.lst [.str "zz"]) = H4 at *
    refine ⟨L4, Lz, _, _, rfl, rfl, e3, e4, ?_, fun N hN => ?_⟩
    · rw [List.length_map, List.length_singleton]
      exact Nat.le_of_lt (small1000 (by omega))
    have v5 := same_upd (o := .lst (n4.map V.str ++ [.str "zz"])) hN
    have hS4 := hS1.same ((s2.trans v3).trans v4)
    have zN := hS4.ne hN
    have e5 : (upd H4 N (.lst (n4.map V.str ++ [.str "zz"]))) N = some (.lst ((n4 ++ [("zz" : Str)]).map V.str)) := by rw [upd_same, List.map_append]; rfl
    generalize upd H4 N (.lst (n4.map V.str ++ [.str "zz"])) = H5 at *
    have okN : ∀ x ∈ n4 ++ [("zz" : Str)], (Ar.s x).ok := fun x hx => by
      rcases List.mem_append.mp hx with hx | hx
      · exact nam_arok (s1.p.nm.nam x (m4 x hx))
      · rw [List.mem_singleton.mp hx]
        exact ⟨by decide +kernel, by decide +kernel⟩
    have lN : (n4 ++ [("zz" : Str)]).length ≤ 100 ∧ 0 < (n4 ++ [("zz" : Str)]).length := by rw [List.length_append, List.length_singleton]; omega
    generalize n4 ++ [("zz" : Str)] = nl at *
    have s5 := (((s2.trans v3).trans v4).trans v5)
    replace hS1 := hS1.same s5
    replace fr1 := fr1.trans (Fr.of s5)
    replace hP := hP.same s5
    replace hH := hH.same s5
    clear e3 e4 v3 v4 v5 s2 s2' e2 hS4
    refine ⟨_, _, rfl, ?_⟩
    refine ⟨_, rfl, _, rfl, _, rfl, N, _, rfl, .inl (SqL.of e5), s, A, B, c + 1, _, rfl, hS1, by omega, by rw [List.length_map]; omega, by rw [List.length_map]; omega, fun H6 r6 hS6 fr6 r60 r61 => ?_⟩
    rw [List.length_map] at r61
    obtain ⟨nm, mn, atn⟩ := ws_at r60 r61
    have okn := okN nm mn
    refine ⟨N, _, _, _, rfl, rfl, SqL.of (fr6 _ _ zN.1.symm zN.2.1.symm e5), atn, ?_⟩
    have tk6 := Tk.fr fr6 hS1
    replace hP := hP.tk tk6
    replace hH := hH.tk tk6
    replace fr1 := fr1.trans fr6
    obtain ⟨qd, eh⟩ := id hH.room0
    refine ⟨_, rfl, _, rfl, h, _, _, _, rfl, rfl, SqT.of eh, atI0, s, A, B, c + 1 + 1, n, rfl, hS6, by omega, by omega, by omega, fun H7 room hS7 fr7 q70 q71 => ?_⟩
    have tk7 := Tk.fr fr7 hS6
    replace hP := hP.tk tk7
    replace hH := hH.tk tk7
    replace fr1 := fr1.trans fr7
    obtain ⟨qd', eh'⟩ := id hH.room0
    refine ⟨_, rfl, _, rfl, h, _, _, _, rfl, rfl, SqT.of eh', atI0, s, A, B, c + 1 + 1 + 1, n, rfl, hS7, by omega, by omega, by omega, fun H8 oth hS8 fr8 q80 q81 => ⟨_, _, _, rfl, ?_⟩⟩
    have tk8 := Tk.fr fr8 hS7
    replace hP := hP.tk tk8
    replace hH := hH.tk tk8
    replace fr1 := fr1.trans fr8
    clear hS hS1 hS6 hS7 tk1 tk6 tk7 tk8 fr6 fr7 fr8 eh eh' h1 h3 ew1
    have done : ∀ {J : Hp} {c' : Nat} {t : Addr} (a : Act), StreamAt J s A B c' → c' ≤ c + 10 → Fr s A H J → (∀ x ∈ a.l, x.ok) → J t = none → Q (.ref t) (upd J t (.tup (a.l.map Ar.v))) := fun {J c' t} a hSJ hc' frJ oka ht => by
      have u := same_upd (o := .tup (a.l.map Ar.v)) ht
      exact q _ t a ((hSJ.same u).mono hc') (frJ.trans (Fr.of u)) ⟨t, rfl, .inl upd_same⟩ ⟨by cases a <;> simp [Act.l], oka⟩
    have okr : ∀ {r : Int}, 0 ≤ r → r < n → (Ar.i r).ok := fun h0 h1 => ⟨by omega, by omega⟩
    have ok3 : ∀ {wd nm : Str} {r : Int}, (Ar.s wd).ok → (Ar.s nm).ok → 0 ≤ r → r < n → ∀ x ∈ [Ar.s wd, Ar.s nm, Ar.i r], x.ok := fun {wd nm r} a b h0 h1 x hx => by
      simp only [List.mem_cons, List.not_mem_nil, or_false] at hx
      rcases hx with rfl | rfl | rfl
      · exact a
      · exact b
      · exact okr h0 h1
    rcases aw wd mw with rfl | rfl | rfl | rfl
    · -- move
      refine ⟨_, rfl, rfl, _, rfl, ?_⟩
      rw [str_dec, show decide (("move" : Str) = "enter") = false by decide +kernel]
      refine iteF ?_
      refine ⟨_, rfl, rfl, _, rfl, ?_⟩
      rw [decide_eq_true rfl]
      refine iteT ?_
      refine ⟨_, rfl, _, rfl, p, P, rfl, hP, s1.p.nodup, by omega, fun m hm => ?_⟩
      have v9 := same_upd (o := .dK (dkI P)) hm
      have e9 : (upd H8 m (.dK (dkI P))) m = some (.dK (dkI P)) := upd_same
      generalize upd H8 m (.dK (dkI P)) = H9 at *
      obtain ⟨oo, r', g1, eo⟩ : ∃ (oo : Option V) (r' : Int), DGet H9 m (.str nm) oo ∧ oo.getD (.int 0) = .int r' := by
        have g1 := DGet.k (k := Sum.inr nm) e9
        by_cases mm : nm ∈ P.map (·.1)
        · obtain ⟨y, hy, rfl⟩ := List.mem_map.mp mm
          rw [valV_dkI s1.p.nodup (nm := y.1) (r := y.2) hy] at g1
          exact ⟨_, y.2, g1, rfl⟩
        · rw [valV_dkI_none mm] at g1
          exact ⟨_, 0, g1, rfl⟩
      refine ⟨m, rfl, .inl ⟨_, .inl e9⟩, _, rfl, oo, g1, ?_⟩
      rw [eo]
      refine ⟨h, n, D, r', rfl, hH.same v9, s1.f, fun H10 l s10 hl el => ⟨_, rfl, by show 1 ≤ sizeLine; decide, fun l2 hl2 => ?_⟩⟩
      have v11 := same_upd (o := .lst [.int room]) hl2
      have e11 : (upd H10 l2 (.lst [.int room])) l2 = some (.lst [.int room]) := upd_same
      replace el := v11 _ _ el
      generalize upd H10 l2 (.lst [.int room]) = H11 at *
      refine ⟨l, l2, _, _, rfl, rfl, el, e11, ?_, fun l3 hl3 => ?_⟩
      · have := nb_len n D r'
        rw [List.length_map, List.length_singleton]
        exact Nat.le_of_lt (small1000 (by omega))
      have v12 := same_upd (o := .lst (vi (nb n D r') ++ [.int room])) hl3
      have hS11 := hS8.same ((v9.trans s10).trans v11)
      have z3 := hS11.ne hl3
      have e12 : (upd H11 l3 (.lst (vi (nb n D r') ++ [.int room]))) l3 = some (.lst (vi (nb n D r' ++ [room]))) := by rw [upd_same, vi_app]; rfl
      generalize upd H11 l3 (.lst (vi (nb n D r') ++ [.int room])) = H12 at *
      have s12 := ((v9.trans s10).trans v11).trans v12
      have hS12 := hS8.same s12
      have lnb : (vi (nb n D r' ++ [room])).length ≤ 100 ∧ 0 < (vi (nb n D r' ++ [room])).length := by
        have := nb_len n D r'
        rw [List.length_map, List.length_append, List.length_singleton]
        omega
      refine ⟨_, rfl, _, rfl, _, rfl, l3, _, rfl, .inl (SqL.of e12), s, A, B, c + 1 + 1 + 1 + 1, _, rfl, hS12, by omega, by omega, by omega, fun H13 r13 hS13 fr13 q0 q1 => ?_⟩
      rw [List.length_map] at q1
      obtain ⟨rr, mrr, atr⟩ := atI_in q0 q1
      refine ⟨l3, _, _, _, rfl, rfl, SqL.of (fr13 _ _ z3.1.symm z3.2.1.symm e12), atr, ?_⟩
      have rin : 0 ≤ rr ∧ rr < n := by
        rcases List.mem_append.mp mrr with hx | hx
        · exact (mem_nb.mp hx).1
        · rw [List.mem_singleton.mp hx]
          exact ⟨q70, q71⟩
      replace fr1 := (fr1.trans (Fr.of s12)).trans fr13
      have fb := Same.refl H13
      refine ⟨_, rfl, by show 2 ≤ sizeLine; decide, fun tq htq => ⟨tq, (["leave", "add_room"] : List Str).map V.str, rfl, .inr (SqT.of upd_same), rfl, flat_ss _, _, rfl, ?_⟩⟩
      rw [inV_ss, show decide (("move" : Str) ∈ (["leave", "add_room"] : List Str)) = false by decide +kernel]
      refine iteF ?_
      have fb' := fb.trans (same_upd (o := .tup [.str "leave", .str "add_room"]) htq)
      generalize upd _ tq (.tup [.str "leave", .str "add_room"]) = fbHA at *
      refine ⟨_, rfl, by show 3 ≤ sizeLine; decide, fun tq htq => ⟨tq, (["move", "enter", "set_target"] : List Str).map V.str, rfl, .inr (SqT.of upd_same), rfl, flat_ss _, _, rfl, ?_⟩⟩
      rw [inV_ss, show decide (("move" : Str) ∈ (["move", "enter", "set_target"] : List Str)) = true by decide +kernel]
      refine iteT ?_
      have fb'' := fb'.trans (same_upd (o := .tup [.str "move", .str "enter", .str "set_target"]) htq)
      generalize upd _ tq (.tup [.str "move", .str "enter", .str "set_target"]) = fbHB at *
      exact ⟨_, rfl, _, rfl, _, rfl, by show 3 ≤ sizeLine; decide, fun t ht => done (.mv nm rr) (hS13.same fb'') (by omega) (fr1.trans (Fr.of fb'')) (ok3 ⟨by decide +kernel, by decide +kernel⟩ okn rin.1 rin.2) ht⟩
    · -- enter
      dsimp only
      refine seq_by (fun σ' H' => ∃ (nm2 : Str) (c' : Nat), σ' = [some (.ref s), some (.ref st), some (.ref wl), some (.ref h), some (.ref p), some (.ref g), some (.str "enter"), some (.ref N), none, some (.str nm2), some (.int room), some (.int oth), none, none] ∧ (Ar.s nm2).ok ∧ StreamAt H' s A B c' ∧ c' ≤ c + 6 ∧ Fr s A H H') ?_ ?_
      · intro NN hM
        refine ⟨_, rfl, rfl, _, rfl, ?_⟩
        rw [decide_eq_true rfl]
        refine iteT ?_
        refine ⟨_, rfl, s, A, B, c + 1 + 1 + 1 + 1, 6, rfl, hS8, by omega, by decide, by decide, fun H9 r9 hS9 fr9 q90 q91 => ?_⟩
        replace fr1 := fr1.trans fr9
        refine ⟨_, _, rfl, rfl, _, rfl, ?_⟩
        refine ite2 (fun _ => ?_) (fun _ => ?_)
        · refine ⟨_, rfl, s, A, B, c + 1 + 1 + 1 + 1 + 1, 26, rfl, hS9, by omega, by decide, by decide, fun H10 x hS10 fr10 x0 x1 => ?_⟩
          have abc : (Str.ofString "abcdefghijklmnopqrstuvwxyz").cps.toList = (List.range 26).map (97 + ·) := by decide +kernel
          have ll := let1_low x0 x1
          have l1 : ("n" : Str).length = 1 := by decide +kernel
          refine ⟨_, x, _, rfl, rfl, by decide +kernel, abc_at abc x0 x1, _, _, rfl, rfl, ?_, ?_⟩
          · show ("n" : Str).length + 1 ≤ sizeLine
            rw [l1]
            decide
          · refine hM _ _ ⟨("n" : Str) ++ let1 x, _, rfl, ?_, hS10, by omega, fr1.trans fr10⟩
            have la : Low 1 ("n" : Str) := by
              refine ⟨by decide +kernel, ?_⟩
              decide +kernel
            have := la.app ll
            refine nam_arok ⟨?_, this.mono (by decide)⟩
            rw [app_len, l1]
            omega
        · exact hM _ _ ⟨nm, _, rfl, okn, hS9, by omega, fr1⟩
      · rintro σ' H9 ⟨nm2, c9, rfl, okn2, hS9, hc9, fr9⟩
        refine ⟨_, rfl, rfl, _, rfl, ?_⟩
        rw [str_dec, show decide (("enter" : Str) = "move") = false by decide +kernel]
        refine iteF ?_
        have fb := Same.refl H9
        refine ⟨_, rfl, by show 2 ≤ sizeLine; decide, fun tq htq => ⟨tq, (["leave", "add_room"] : List Str).map V.str, rfl, .inr (SqT.of upd_same), rfl, flat_ss _, _, rfl, ?_⟩⟩
        rw [inV_ss, show decide (("enter" : Str) ∈ (["leave", "add_room"] : List Str)) = false by decide +kernel]
        refine iteF ?_
        have fb' := fb.trans (same_upd (o := .tup [.str "leave", .str "add_room"]) htq)
        generalize upd _ tq (.tup [.str "leave", .str "add_room"]) = fbHA at *
        refine ⟨_, rfl, by show 3 ≤ sizeLine; decide, fun tq htq => ⟨tq, (["move", "enter", "set_target"] : List Str).map V.str, rfl, .inr (SqT.of upd_same), rfl, flat_ss _, _, rfl, ?_⟩⟩
        rw [inV_ss, show decide (("enter" : Str) ∈ (["move", "enter", "set_target"] : List Str)) = true by decide +kernel]
        refine iteT ?_
        have fb'' := fb'.trans (same_upd (o := .tup [.str "move", .str "enter", .str "set_target"]) htq)
        generalize upd _ tq (.tup [.str "move", .str "enter", .str "set_target"]) = fbHB at *
        exact ⟨_, rfl, _, rfl, _, rfl, by show 3 ≤ sizeLine; decide, fun t ht => done (.en nm2 room) (hS9.same fb'') (by omega) (fr9.trans (Fr.of fb'')) (ok3 ⟨by decide +kernel, by decide +kernel⟩ okn2 q70 q71) ht⟩
    · -- leave
      refine ⟨_, rfl, rfl, _, rfl, ?_⟩
      rw [str_dec, show decide (("leave" : Str) = "enter") = false by decide +kernel]
      refine iteF ?_
      refine ⟨_, rfl, rfl, _, rfl, ?_⟩
      rw [str_dec, show decide (("leave" : Str) = "move") = false by decide +kernel]
      refine iteF ?_
      have fb := Same.refl H8
      refine ⟨_, rfl, by show 2 ≤ sizeLine; decide, fun tq htq => ⟨tq, (["leave", "add_room"] : List Str).map V.str, rfl, .inr (SqT.of upd_same), rfl, flat_ss _, _, rfl, ?_⟩⟩
      rw [inV_ss, show decide (("leave" : Str) ∈ (["leave", "add_room"] : List Str)) = true by decide +kernel]
      refine iteT ?_
      have fb' := fb.trans (same_upd (o := .tup [.str "leave", .str "add_room"]) htq)
      generalize upd _ tq (.tup [.str "leave", .str "add_room"]) = fbHA at *
      exact ⟨_, rfl, _, rfl, by show 2 ≤ sizeLine; decide, fun t ht => done (.lv nm) (hS8.same fb') (by omega) (fr1.trans (Fr.of fb')) (fun x hx => by
        simp only [Act.l, List.mem_cons, List.not_mem_nil, or_false] at hx
        rcases hx with rfl | rfl
        · exact ⟨by decide +kernel, by decide +kernel⟩
        · exact okn) ht⟩
    · -- set_target
      refine ⟨_, rfl, rfl, _, rfl, ?_⟩
      rw [str_dec, show decide (("set_target" : Str) = "enter") = false by decide +kernel]
      refine iteF ?_
      refine ⟨_, rfl, rfl, _, rfl, ?_⟩
      rw [str_dec, show decide (("set_target" : Str) = "move") = false by decide +kernel]
      refine iteF ?_
      have fb := Same.refl H8
      refine ⟨_, rfl, by show 2 ≤ sizeLine; decide, fun tq htq => ⟨tq, (["leave", "add_room"] : List Str).map V.str, rfl, .inr (SqT.of upd_same), rfl, flat_ss _, _, rfl, ?_⟩⟩
      rw [inV_ss, show decide (("set_target" : Str) ∈ (["leave", "add_room"] : List Str)) = false by decide +kernel]
      refine iteF ?_
      have fb' := fb.trans (same_upd (o := .tup [.str "leave", .str "add_room"]) htq)
      generalize upd _ tq (.tup [.str "leave", .str "add_room"]) = fbHA at *
      refine ⟨_, rfl, by show 3 ≤ sizeLine; decide, fun tq htq => ⟨tq, (["move", "enter", "set_target"] : List Str).map V.str, rfl, .inr (SqT.of upd_same), rfl, flat_ss _, _, rfl, ?_⟩⟩
      rw [inV_ss, show decide (("set_target" : Str) ∈ (["move", "enter", "set_target"] : List Str)) = true by decide +kernel]
      refine iteT ?_
      have fb'' := fb'.trans (same_upd (o := .tup [.str "move", .str "enter", .str "set_target"]) htq)
      generalize upd _ tq (.tup [.str "move", .str "enter", .str "set_target"]) = fbHB at *
      exact ⟨_, rfl, _, rfl, _, rfl, by show 3 ≤ sizeLine; decide, fun t ht => done (.tg nm room) (hS8.same fb'') (by omega) (fr1.trans (Fr.of fb'')) (ok3 ⟨by decide +kernel, by decide +kernel⟩ okn q70 q71) ht⟩
end
end Fw
set_option maxHeartbeats 8000000
namespace Fw
open PySem PySem.Spec PyProof.Rows L2
/-! a session and what the law knows of it -/
theorem sqT_tk {K : PySem.W.Frag} {H H' : Hp} {a : Addr} {xs : List V} (x : SqT K H a xs) (t : Tk H H') : SqT K H' a xs := by
  rcases x with (x | ⟨u, x⟩) | x
  · exact .inl (.inl (t.t x))
  · exact .inl (.inr ⟨u, t.f x⟩)
  · exact .inr x
theorem SesAt.mv {K : PySem.W.Frag} {H H' : Hp} {C s : Addr} {xs ys : List V} {b : Bool} (x : SesAt K H C s xs ys b) (t : Tk H H') (e : ∀ o, H s = some o → H' s = some o) : SesAt K H' C s xs ys b := by
  obtain ⟨dx, ts, td, tr, e0, e1, e2⟩ := x
  exact ⟨dx, ts, td, tr, e _ e0, sqT_tk e1 t, sqT_tk e2 t⟩
theorem Eff.n1 {n n' : Int} {D D' : List (Int × Int)} {P G P' G' : List (Str × Int)} {a : Act} (x : Eff n D P G a (.ok n' D' P' G')) (h : 1 ≤ n) : 1 ≤ n' := by cases x <;> exact h
theorem Eff.err {n : Int} {D : List (Int × Int)} {P G : List (Str × Int)} {a : Act} {z : Str} {v : Ar} (x : Eff n D P G a (.er z v)) : decide (V.str z = V.str "ok") = false ∧ z.length ≤ 20 ∧ (z.cps.toList.all fun c => decide (c < 1114112)) = true := by
  cases x <;> exact ⟨by rw [str_dec]; decide +kernel, by decide +kernel, by decide +kernel⟩
theorem Eff.val {n : Int} {D : List (Int × Int)} {P G : List (Str × Int)} {a : Act} {z : Str} {v : Ar} (x : Eff n D P G a (.er z v)) (h : ActOk a.l) : v.ok := by
  cases x with
  | enL => exact ⟨by decide, by decide⟩
  | _ => exact h.2 _ (by simp [Act.l])
/-- between two actions -/
structure SW (K : PySem.W.Frag) (H : Hp) (C s A B : Addr) (c : Nat) (sn ls ld : Addr) (n : Int) (D : List (Int × Int)) (P G : List (Str × Int)) (acts : List (List Ar)) : Prop where
  str : StreamAt H s A B c
  ses : ∃ xs ys st, SesAt K H C sn xs ys false ∧ atI xs (-1) = some (.ref st) ∧ xs ≠ [] ∧ xs.length = acts.length + 1 ∧ StAt H st n D P G ∧ AcsAt H ys acts
  sts : ∃ zs t, H ls = some (.lst zs) ∧ atI zs (-1) = some (.ref t) ∧ zs.length = acts.length + 1 ∧ StL H t n D P G
  dn : ∃ ws, H ld = some (.lst ws) ∧ AcsAt H ws acts
  s1 : St1 n D P G
  n1 : 1 ≤ n
  l12 : P.length ≤ 12
  ok : ∀ l ∈ acts, ActOk l
  z1 : s ≠ sn ∧ A ≠ sn ∧ B ≠ sn
  z2 : s ≠ ls ∧ A ≠ ls ∧ B ≠ ls
  z3 : s ≠ ld ∧ A ≠ ld ∧ B ≠ ld
  nn : ls ≠ ld
def errD (z : Str) (v : Ar) : PyData := .list [.list [.str z, v.d], .list [.str z, v.d]]
theorem err_dp {K : PySem.W.Frag} {H : Hp} {l : Addr} {z : Str} {v : Ar} (e : H l = some (.lst [.str z, v.v])) : Dp K H (.ref l) (.list [.str z, v.d]) := by
  cases v with
  | s x => exact .lst (SqL.of e) (.cons (.str _) (.cons (.str _) .nil))
  | i r => exact .lst (SqL.of e) (.cons (.str _) (.cons (.int _) .nil))
theorem err_shows {z : Str} {v : Ar} (h : z.length ≤ 20) (k : (z.cps.toList.all fun c => decide (c < 1114112)) = true) (o : v.ok) : (errD z v).showable = true ∧ (errD z v).hasDict = false ∧ (errD z v).depth ≤ 60 ∧ (errD z v).shown.length ≤ sizeLine := by
  have gv : Gd 0 0 20 v.d := by
    cases v with
    | s x => exact str_gdV o.1 o.2
    | i r => exact (int_gdV o.1 o.2).up (Nat.le_refl _) (Nat.le_refl _) (by omega)
  have g1 : Gd 0 1 50 (.list [.str z, v.d]) := (Gd.lst (GdA.cons (str_gdV h k) (GdA.cons gv (GdA.nil (n := 0))))).up (Nat.le_refl _) (Nat.le_refl _) (by omega)
  have g2 : Gd 0 2 200 (errD z v) := (Gd.lst (GdA.cons g1 (GdA.cons g1 (GdA.nil (n := 0))))).up (Nat.le_refl _) (Nat.le_refl _) (by omega)
  have sh := g2.shows (by decide) (by decide) (by decide)
  refine ⟨sh.1, ?_, sh.2.1, sh.2.2⟩
  cases v <;> simp [errD, Ar.d, PyData.hasDict, PyData.hasDictAll]
section
variable {K : PySem.W.Frag} {H H' : Hp} {C s A B : Addr} {c c' : Nat} {sn ls ld : Addr} {n : Int} {D : List (Int × Int)} {P G : List (Str × Int)} {acts : List (List Ar)}
theorem SW.same (x : SW K H C s A B c sn ls ld n D P G acts) (u : Same H H') : SW K H' C s A B c sn ls ld n D P G acts := by
  obtain ⟨a1, ⟨xs, ys, st, b1, b2, b3, b4, b5, b6⟩, ⟨zs, t, c1, c2, c3, c4⟩, ⟨ws, d1, d2⟩, e1, e2, e3, e4, e5, e6, e7, e8⟩ := x
  exact ⟨a1.same u, ⟨xs, ys, st, b1.same u, b2, b3, b4, b5.same u, b6.tk (Tk.of u)⟩, ⟨zs, t, u _ _ c1, c2, c3, c4.tk (Tk.of u)⟩, ⟨ws, u _ _ d1, d2.tk (Tk.of u)⟩, e1, e2, e3, e4, e5, e6, e7, e8⟩
theorem SW.fr (x : SW K H C s A B c sn ls ld n D P G acts) (f : Fr s A H H') (hS : StreamAt H' s A B c') : SW K H' C s A B c' sn ls ld n D P G acts := by
  obtain ⟨a1, ⟨xs, ys, st, b1, b2, b3, b4, b5, b6⟩, ⟨zs, t, c1, c2, c3, c4⟩, ⟨ws, d1, d2⟩, e1, e2, e3, e4, e5, e6, e7, e8⟩ := x
  have u := Tk.fr f a1
  exact ⟨hS, ⟨xs, ys, st, b1.mv u fun o e => f _ _ e5.1.symm e5.2.1.symm e, b2, b3, b4, b5.tk u, b6.tk u⟩, ⟨zs, t, f _ _ e6.1.symm e6.2.1.symm c1, c2, c3, c4.tk u⟩, ⟨ws, f _ _ e7.1.symm e7.2.1.symm d1, d2.tk u⟩, e1, e2, e3, e4, e5, e6, e7, e8⟩
end
/-- all but the session and the law's two lists stays -/
def But3 (a b c : Addr) (H H' : Hp) : Prop := ∀ x o, x ≠ a → x ≠ b → x ≠ c → H x = some o → H' x = some o
section
variable {P : Program} {w : World} {K : PySem.W.Frag} {mg : Str → Option Value} {base : Heap}
/-- Session(..) -/
def CalI (P : Program) (w : World) (K : PySem.W.Frag) (mg : Str → Option Value) (base : Heap) (k : Nat) (C : Addr) (ps : List Str) (sp : Sp) : Prop := ∃ f fd, Mk K C f ∧ Binds K fd ps [] ∧ FnOk P w K mg base CX0 k f fd ps sp
theorem pe_calI {X : Cx} {k : Nat} {C : Addr} {x : Str} {ps : List Str} {sp : Sp} {e : Expr} {es : List Expr} {t : TA} {p pos : Pos} (M : CalI X.prog X.w X.K X.mg X.base k C ps sp) (hr : Room (k + 1) X.A) (hg : Gl X x) (hm : X.mg x = some (.ref C))
    (ha : PA X (e :: es) t) (hdb : (x == ("__debug__" : Str)) = false := by decide) (he : starEach (e :: es) X.env = (false, eval e X.env) :: starEach es X.env := by rfl) (hpl : (backTo pos (starEach es X.env)).any (·.1) = false := by rfl) :
    PE X (.Call (.Name x p) (e :: es) [] pos) (tMake C sp [] (fun _ _ _ => False) t) := by
  obtain ⟨f, fd, m, b, F⟩ := M
  exact pe_make m F hr hg hm b .nil (fun _ _ _ _ _ _ _ z => z.elim) ha hdb he hpl
abbrev nLIni : List Str := ["_law_stream_here", "_law_most", "_law_many", "_law_house_here", "_law_placement_here"]
theorem scLIni : FnScope nLIni ["_law_stream_here", "_law_most", "_law_many"] (defScope sLInitial) := ⟨rfl, rfl, rfl, by decide +kernel, rfl, by decide +kernel, by decide +kernel⟩
def spLIni (K : PySem.W.Frag) (C : Addr) : Sp := fun vs H Q _ => ∃ (s A B : Addr) (c : Nat) (most many : Int), vs = [.ref s, .int most, .int many] ∧ StreamAt H s A B c ∧ c < 2 ^ 28 ∧ 1 ≤ most ∧ most ≤ 8 ∧ 0 ≤ many ∧ many ≤ 12 ∧
  ∀ H' l sn ls ld n D P, SW K H' C s A B (c + 100) sn ls ld n D P P [] → H' l = some (.lst [.ref sn, .ref ls, .ref ld]) → n ≤ most → P.length ≤ many.toNat → Fr s A H H' → H ls = none → H ld = none → Q (.ref l) H'
theorem ok_lini {f C : Addr} {fd : FuncData} {k : Nat} (F : Fun K "_law_initial" "_law_initial" sLInitial f fd) (Z : SesK K mg C) (C_law_house : Cal P w K mg base (k + 1) "_law_house" ["_law_stream_here", "_law_least", "_law_most"] spHouse) (C_law_placement : Cal P w K mg base (k + 1) "_law_placement" pPl spPl) (Cinit : CalI P w K mg base k C ["self", "house", "placement"] (spSeIn K C)) : FnOk P w K mg base CX0 (k + 2) f fd ["_law_stream_here", "_law_most", "_law_many"] (spLIni K C) := by
  refine F.ok scLIni (fun vs H Q E h => ?_) (fun cdv A0 outer zz H vs Q E hr h => ?_)
  · obtain ⟨s, A, B, c, most, many, rfl, _⟩ := h
    rfl
  · obtain ⟨s, A, B, c, most, many, rfl, hS, hc, m1, m8, y0, y12, q⟩ := h
    refine ⟨_, (pss_cons (ps_set (i := 3) scLIni.nd rfl (.inl rfl) (pe_cal C_law_house hr (by rfl) (pa_cons (pv 0) (pa_cons pe_int (pa_cons (pv 1) pa_nil)))))
      (pss_cons (ps_set (i := 4) scLIni.nd rfl (.inl rfl) (pe_cal C_law_placement hr (by rfl) (pa_cons (pv 0) (pa_cons (pv 3) (pa_cons (pv 2) pa_nil)))))
      (pss_one (ps_ret (pe_lst (pa_cons (pe_calI Cinit hr (by rfl) Z.g (pa_cons (pv 3) (pa_cons (pv 4) pa_nil))) (pa_cons (pe_lst (pa_cons (pe_tup (pa_cons (pv 3) (pa_cons (pv 4) (pa_cons (pv 4) pa_nil)))) pa_nil)) (pa_cons (pe_lst pa_nil) pa_nil)))))))), ?_⟩
    refine ⟨_, rfl, _, rfl, s, A, B, c, 1, most, rfl, hS, by omega, by omega, m1, m8, fun H1 h n D hS1 fr1 hH hF n1 nm => ?_⟩
    refine ⟨_, rfl, _, rfl, _, rfl, s, A, B, h, c + 40, n, D, many, rfl, hS1, by omega, hH, n1, by omega, y0, y12, fun H2 p P hS2 fr2 hP pl lP => ?_⟩
    have hH2 := hH.tk (Tk.fr fr2 hS1)
    have fr12 := fr1.trans fr2
    refine ⟨_, rfl, _, rfl, fun sn dx hx hdx ne => ?_⟩
    have zn := hS2.ne hx
    have u3 : Same H2 (upd (upd H2 dx (.own sn)) sn (.ins C dx [])) := (same_upd hdx).trans (same_upd (by rw [upd_ne ne.symm]; exact hx))
    refine ⟨sn, h, p, dx, n, D, P, rfl, upd_same, hH2.same u3, hF, n1, by omega, (hP.same u3).pl, pl, by omega, fun H4 t bt se et => ⟨rfl, ?_⟩⟩
    have u4 : Same H2 H4 := fun b o e => bt b o (fun z => by rw [z, hx] at e; cases e) (u3 b o e)
    clear bt u3
    have hst : StAt H4 t n D P P := ⟨h, p, p, et, hH2.same u4, (hP.same u4).pl, (hP.same u4).pl⟩
    refine ⟨_, rfl, _, rfl, _, rfl, by show 3 ≤ sizeLine; decide, fun t2 ht2 => ?_⟩
    have v5 := same_upd (o := .tup [.ref h, .ref p, .ref p]) ht2
    have e5 : (upd H4 t2 (.tup [.ref h, .ref p, .ref p])) t2 = some (.tup [.ref h, .ref p, .ref p]) := upd_same
    generalize upd H4 t2 (.tup [.ref h, .ref p, .ref p]) = H5 at *
    refine ⟨by show 1 ≤ sizeLine; decide, fun ls hls => ?_⟩
    have v6 := same_upd (o := .lst [.ref t2]) hls
    have e6 : (upd H5 ls (.lst [.ref t2])) ls = some (.lst [.ref t2]) := upd_same
    have u5 := u4.trans v5
    have z2 := (hS2.same u5).ne hls
    generalize upd H5 ls (.lst [.ref t2]) = H6 at *
    refine ⟨Nat.zero_le _, fun ld hld => ?_⟩
    have v7 := same_upd (o := .lst []) hld
    have e7 : (upd H6 ld (.lst [])) ld = some (.lst []) := upd_same
    have u6 := u5.trans v6
    have z3 := (hS2.same u6).ne hld
    have nn : ls ≠ ld := fun z => by rw [z, hld] at e6; cases e6
    generalize upd H6 ld (.lst []) = H7 at *
    refine ⟨by show 3 ≤ sizeLine; decide, fun l hl => ?_⟩
    have v8 := same_upd (o := .lst [.ref sn, .ref ls, .ref ld]) hl
    have u7 := u6.trans v7
    have u8 := u7.trans v8
    have w4 := ((v5.trans v6).trans v7).trans v8
    have w6 := (v6.trans v7).trans v8
    have fls : H ls = none := by
      cases e : H ls with
      | none => rfl
      | some o => rw [u5 _ _ (fr12 _ _ z2.1.symm z2.2.1.symm e)] at hls; cases hls
    have fld : H ld = none := by
      cases e : H ld with
      | none => rfl
      | some o => rw [u6 _ _ (fr12 _ _ z3.1.symm z3.2.1.symm e)] at hld; cases hld
    refine q _ l sn ls ld n D P ⟨(hS2.same u8).mono (by omega), ⟨[.ref t], [], t, se.same w4, rfl, by simp, rfl, hst.same w4, .nil⟩, ⟨[.ref t2], t2, (v7.trans v8) _ _ e6, rfl, rfl, ⟨h, p, p, w6 _ _ e5, hH2.same u8, hP.same u8, (hP.same u8).pl⟩⟩, ⟨[], v8 _ _ e7, .nil⟩, ⟨hF, by omega, by omega, pl, pl, by omega, rfl⟩, n1, by omega, (fun _ z => nomatch z), zn, z2, z3, nn⟩ upd_same nm lP (fr12.trans (Fr.of u8)) fls fld
abbrev nLTurn : List Str := ["_law_session", "_law_states", "_law_done", "_law_action", "_law_expected", "_law_found", "_law_again"]
theorem scLTurn : FnScope nLTurn ["_law_session", "_law_states", "_law_done", "_law_action"] (defScope sLRepeatedTurnHolds) := ⟨rfl, rfl, rfl, by decide +kernel, rfl, by decide +kernel, by decide +kernel⟩
def spLTurn (K : PySem.W.Frag) (C : Addr) : Sp := fun vs H Q _ => ∃ (s A B sn ls ld ac : Addr) (c : Nat) (n : Int) (D : List (Int × Int)) (P G : List (Str × Int)) (acts : List (List Ar)) (a : Act), vs = [.ref sn, .ref ls, .ref ld, .ref ac] ∧ SW K H C s A B c sn ls ld n D P G acts ∧ acts.length < 60 ∧ ActAt H (.ref ac) a.l ∧ ActOk a.l ∧
  ∀ H' n' D' P' G' acts', SW K H' C s A B c sn ls ld n' D' P' G' acts' → acts'.length ≤ acts.length + 1 → But3 sn ls ld H H' → Q (.bl true) H'
theorem ok_lturn {f C : Addr} {fd : FuncData} {k : Nat} (F : Fun K "_law_repeated_turn_holds" "_law_repeated_turn_holds" sLRepeatedTurnHolds f fd) (T : Nm mg) (C_law_expected_outcome : Cal P w K mg base k "_law_expected_outcome" ["_law_state", "_law_action"] (spLPeO K)) (C_law_full_result : Cal P w K mg base k "_law_full_result" ["_law_session", "_law_action"] (spLFull K C)) (C_law_snapshot : CalG P w K mg base k "_law_snapshot" ["_law_session"] (spLSn K C)) (C_law_expected_snapshot : CalG P w K mg base k "_law_expected_snapshot" ["_law_state", "_law_done"] (spLESn K)) : FnG P w K mg base (k + 1) f fd ["_law_session", "_law_states", "_law_done", "_law_action"] (spLTurn K C) := by
  refine Fun.okG F scLTurn (fun vs H Q E h => ?_) (fun cdv A0 outer zz H vs Q gd hr h => ?_)
  · obtain ⟨s, A, B, sn, ls, ld, ac, c, n, D, P, G, acts, a, rfl, _⟩ := h
    rfl
  · obtain ⟨s, A, B, sn, ls, ld, ac, c, n, D, P, G, acts, a, rfl, sw, l60, ha, oa, q⟩ := h
    refine ⟨_, (pss_cons (ps_set (i := 4) scLTurn.nd rfl (.inl rfl) (pe_cal C_law_expected_outcome hr (by rfl) (pa_cons (pe_ix (ix_listK K rfl) (pv 1) (pe_un un_neg pe_int) (fun _ _ => rfl)) (pa_cons (pv 3) pa_nil))))
      (pss_cons (ps_set (i := 5) scLTurn.nd rfl (.inl rfl) (pe_cal C_law_full_result hr (by rfl) (pa_cons (pv 0) (pa_cons (pv 3) pa_nil))))
      (pss_cons (ps_if (pt_cmpR op_eq (pe_ix (ix_listK K rfl) (pv 4) pe_int (fun _ _ => rfl)) pe_str (nomark _))
      (pss_cons (ps_expr (pe_bm PySem.F.plainAttrs_list PySem.F.slot_list_append PySem.F.type_list_append mt_append (pv 1) (pa_cons (pe_ix (ix_listK K rfl) (pv 4) pe_int (fun _ _ => rfl)) pa_nil)))
       (pss_cons (ps_expr (pe_bm PySem.F.plainAttrs_list PySem.F.slot_list_append PySem.F.type_list_append mt_append (pv 2) (pa_cons (pv 3) pa_nil)))
       (pss_one (ps_ret (pe_and (pe_cmpR (op_eqDK K rfl hr.units) (pv 5) (pe_lst (pa_cons pe_str (pa_cons pe_non pa_nil))) (nomark _)) (pe_one (pe_cmpR op_eq (pe_calG C_law_snapshot gd hr (by rfl) (pa_cons (pv 0) pa_nil)) (pe_calG C_law_expected_snapshot gd hr (by rfl) (pa_cons (pe_ix (ix_listK K rfl) (pv 1) (pe_un un_neg pe_int) (fun _ _ => rfl)) (pa_cons (pv 2) pa_nil))) (nomark _))))))))
      pss_nil)
      (pss_cons (ps_set (i := 6) scLTurn.nd rfl (.inl rfl) (pe_cal C_law_full_result hr (by rfl) (pa_cons (pv 0) (pa_cons (pv 3) pa_nil))))
      (pss_cons (ps_if (pt_cmpR op_ne (pe_callB (call_repr gd (units65 hr)) (by rfl) T.repr (by decide +kernel) (pa_cons (pe_lst (pa_cons (pv 5) (pa_cons (pv 6) pa_nil))) pa_nil)) (pe_callB (call_repr gd (units65 hr)) (by rfl) T.repr (by decide +kernel) (pa_cons (pe_lst (pa_cons (pv 4) (pa_cons (pv 4) pa_nil))) pa_nil)) (nomark _))
      (pss_one (ps_ret pe_bl))
      pss_nil)
      (pss_one (ps_ret (pe_cmpR op_eq (pe_calG C_law_snapshot gd hr (by rfl) (pa_cons (pv 0) pa_nil)) (pe_calG C_law_expected_snapshot gd hr (by rfl) (pa_cons (pe_ix (ix_listK K rfl) (pv 1) (pe_un un_neg pe_int) (fun _ _ => rfl)) (pa_cons (pv 2) pa_nil))) (nomark _))))))))), ?_⟩
    obtain ⟨zs, t, els, zla, lzs, hL⟩ := sw.sts
    have s1 := sw.s1
    refine ⟨_, rfl, _, rfl, ls, _, -1, _, rfl, rfl, SqL.of els, zla, _, rfl, t, ac, n, D, P, G, a, rfl, hL, s1, sw.l12, ha, oa, ?_, ?_⟩
    · intro z v ef H1 l1 u1 e1
      obtain ⟨xs, ys, st, ses, la, nx, lx, hs, acy⟩ := (sw.same u1).ses
      have ly := acy.len
      refine ⟨_, rfl, _, rfl, sn, ac, st, xs, ys, n, D, P, G, a, rfl, ha.tk (Tk.of u1), oa, ses, la, nx, by omega, by omega, hs, s1, ?_, ?_⟩
      · intro z' v' ef' H2 l2 u2 e2
        cases ef.one s1 ef'
        have e12 := u2 _ _ e1
        refine ⟨_, rfl, l1, _, 0, _, rfl, rfl, SqL.of e12, atI0, rfl, _, rfl, ?_⟩
        rw [ef.err.1]
        refine iteF ?_
        have u12 := u1.trans u2
        obtain ⟨xs, ys, st, ses, la, nx, lx, hs, acy⟩ := (sw.same u12).ses
        have ly := acy.len
        refine ⟨_, rfl, _, rfl, sn, ac, st, xs, ys, n, D, P, G, a, rfl, ha.tk (Tk.of u12), oa, ses, la, nx, by omega, by omega, hs, s1, ?_, ?_⟩
        · intro z3 v3 ef3 H3 l3 u3 e3
          cases ef.one s1 ef3
          have e13 := u3 _ _ e12
          have e23 := u3 _ _ e2
          refine ⟨_, rfl, _, rfl, by show 2 ≤ sizeLine; decide, fun la1 fa1 => ?_⟩
          have v4 := same_upd (o := .lst [.ref l2, .ref l3]) fa1
          have e4 : (upd H3 la1 (.lst [.ref l2, .ref l3])) la1 = some (.lst [.ref l2, .ref l3]) := upd_same
          have e34 := v4 _ _ e3
          have e24 := v4 _ _ e23
          have e14 := v4 _ _ e13
          generalize upd H3 la1 (.lst [.ref l2, .ref l3]) = H4 at *
          have sh := err_shows ef.err.2.1 ef.err.2.2 (ef.val oa)
          refine ⟨la1, errD z v, rfl, .lst (SqL.of e4) (.cons (err_dp e24) (.cons (err_dp e34) .nil)), sh.1, sh.2.1, sh.2.2.1, sh.2.2.2, _, rfl, _, rfl, by show 2 ≤ sizeLine; decide, fun lb fb => ?_⟩
          have v5 := same_upd (o := .lst [.ref l1, .ref l1]) fb
          have e5 : (upd H4 lb (.lst [.ref l1, .ref l1])) lb = some (.lst [.ref l1, .ref l1]) := upd_same
          have e15 := v5 _ _ e14
          generalize upd H4 lb (.lst [.ref l1, .ref l1]) = H5 at *
          refine ⟨lb, errD z v, rfl, .lst (SqL.of e5) (.cons (err_dp e15) (.cons (err_dp e15) .nil)), sh.1, sh.2.1, sh.2.2.1, sh.2.2.2, rfl, _, rfl, ?_⟩
          rw [decide_eq_true rfl]
          refine iteF ?_
          have uT := ((u12.trans u3).trans v4).trans v5
          have swT := sw.same uT
          obtain ⟨xs, ys, st, ses, la, nx, lx, hs, acy⟩ := swT.ses
          obtain ⟨zs, t, els, zla, lzs, hL⟩ := swT.sts
          obtain ⟨ws, eld, acw⟩ := swT.dn
          have aok := sw.ok
          refine ⟨_, rfl, sn, st, xs, ys, false, n, D, P, G, acts, rfl, ses, la, hs, s1, acy, aok, by omega, fun H8 u8 => ⟨_, rfl, _, rfl, ls, _, -1, _, rfl, rfl, SqL.of (u8 _ _ els), zla, _, rfl, t, ld, ws, n, D, P, G, acts, rfl, (hL.tk (Tk.of u8)).st, s1, u8 _ _ eld, acw.tk (Tk.of u8), aok, by omega, fun H9 u9 => ⟨rfl, ?_⟩⟩⟩
          rw [decide_eq_true rfl]
          exact q _ n D P G acts (swT.same (u8.trans u9)) (by omega) fun b o _ _ _ e => (uT.trans (u8.trans u9)) b o e
        · intro n' D' P' G' ef3
          cases ef.one s1 ef3
      · intro n' D' P' G' ef3
        cases ef.one s1 ef3
    · intro n' D' P' G' ef H1 l1 t1 u1 e1 hL1
      obtain ⟨xs, ys, st, ses, la, nx, lx, hs, acy⟩ := (sw.same u1).ses
      have ly := acy.len
      refine ⟨_, rfl, _, rfl, sn, ac, st, xs, ys, n, D, P, G, a, rfl, ha.tk (Tk.of u1), oa, ses, la, nx, by omega, by omega, hs, s1, ?_, ?_⟩
      · intro z' v' ef3
        cases ef.one s1 ef3
      intro n2 D2 P2 G2 ef' H2 l2 st' va' bt ses2 hs2 va2 e2
      cases ef.one s1 ef'
      obtain ⟨dxs, tsx, tdx, trx, esn, _⟩ := id ses
      have e12 := bt _ _ (ne_of e1 esn (by intro z; cases z)) e1
      have tk2 := bt.tk ses
      have els1 := u1 _ _ els
      have els2 := bt _ _ (ne_of els1 esn (by intro z; cases z)) els1
      have lsn : ls ≠ sn := ne_of els1 esn (by intro z; cases z)
      obtain ⟨ws, eld, acw⟩ := sw.dn
      have eld1 := u1 _ _ eld
      have ldn : ld ≠ sn := ne_of eld1 esn (by intro z; cases z)
      have eld2 := bt _ _ ldn eld1
      have tk12 := (Tk.of u1).trans tk2
      have lws := acw.len
      refine ⟨_, rfl, l1, _, 0, _, rfl, rfl, SqL.of e12, atI0, rfl, _, rfl, ?_⟩
      rw [decide_eq_true rfl]
      refine iteT ?_
      refine ⟨_, rfl, .inl ⟨rfl, _, SqL.of els2⟩, _, rfl, l1, _, 1, _, rfl, rfl, SqL.of e12, atI1, ls, _, _, rfl, rfl, els2, by rw [lzs]; exact small1000 (by omega), ?_⟩
      have tk3 : Tk H2 (upd H2 ls (.lst (zs ++ [.ref t1]))) := Tk.put Tk.refl els2
      have els3 : (upd H2 ls (.lst (zs ++ [.ref t1]))) ls = some (.lst (zs ++ [.ref t1])) := upd_same
      have eld3 : (upd H2 ls (.lst (zs ++ [.ref t1]))) ld = some (.lst ws) := by rw [upd_ne sw.nn.symm]; exact eld2
      have l2s : l2 ≠ ls := fun z => by
        rw [z, els2] at e2
        cases e2
        cases zla
      have l2d : l2 ≠ ld := fun z => by
        rw [z, eld2] at e2
        cases e2
        cases acw with
        | cons a _ =>
          obtain ⟨_, z, _⟩ := a
          cases z
      have e23 : (upd H2 ls (.lst (zs ++ [.ref t1]))) l2 = some (.lst [.str "ok", .non]) := by rw [upd_ne l2s]; exact e2
      have keep3 : ∀ b o, b ≠ ls → H2 b = some o → (upd H2 ls (.lst (zs ++ [.ref t1]))) b = some o := fun b o n e => by rw [upd_ne n]; exact e
      generalize upd H2 ls (.lst (zs ++ [.ref t1])) = H3 at *
      refine ⟨_, rfl, .inl ⟨rfl, _, SqL.of eld3⟩, _, rfl, ld, _, _, rfl, rfl, eld3, by rw [lws]; exact small1000 (by omega), ?_⟩
      have tk4 : Tk H3 (upd H3 ld (.lst (ws ++ [.ref ac]))) := Tk.put Tk.refl eld3
      have eld4 : (upd H3 ld (.lst (ws ++ [.ref ac]))) ld = some (.lst (ws ++ [.ref ac])) := upd_same
      have els4 : (upd H3 ld (.lst (ws ++ [.ref ac]))) ls = some (.lst (zs ++ [.ref t1])) := by rw [upd_ne sw.nn]; exact els3
      have e24 : (upd H3 ld (.lst (ws ++ [.ref ac]))) l2 = some (.lst [.str "ok", .non]) := by rw [upd_ne l2d]; exact e23
      have keep4 : ∀ b o, b ≠ ld → H3 b = some o → (upd H3 ld (.lst (ws ++ [.ref ac]))) b = some o := fun b o n e => by rw [upd_ne n]; exact e
      generalize upd H3 ld (.lst (ws ++ [.ref ac])) = H4 at *
      have tk24 := tk3.trans tk4
      refine ⟨_, rfl, by show 2 ≤ sizeLine; decide, fun le fe => ?_⟩
      have v5 := same_upd (o := .lst [.str "ok", .non]) fe
      have e5 : (upd H4 le (.lst [.str "ok", .non])) le = some (.lst [.str "ok", .non]) := upd_same
      have e25 := v5 _ _ e24
      have els5 := v5 _ _ els4
      have eld5 := v5 _ _ eld4
      generalize upd H4 le (.lst [.str "ok", .non]) = H5 at *
      refine ⟨.list [.str "ok", .none], .list [.str "ok", .none], .lst (SqL.of e25) (.cons (.str _) (.cons .non .nil)), .lst (SqL.of e5) (.cons (.str _) (.cons .non .nil)), by decide +kernel, by decide +kernel, _, rfl, ?_⟩
      rw [show PyData.eqv (.list [.str "ok", .none]) (.list [.str "ok", .none]) = true by decide +kernel]
      refine iteT ?_
      have ses5 : SesAt K H5 C sn (xs ++ [.ref st']) (ys ++ [va']) false := ses2.mv (tk24.trans (Tk.of v5)) fun o e => v5 _ _ (keep4 _ _ ldn.symm (keep3 _ _ lsn.symm e))
      have tk25 := tk24.trans (Tk.of v5)
      have tk15 := tk2.trans tk25
      have tkT := (Tk.of u1).trans tk15
      have aok : ∀ l ∈ acts ++ [a.l], ActOk l := fun l hl => by
        rcases List.mem_append.mp hl with hl | hl
        · exact sw.ok l hl
        · rw [List.mem_singleton.mp hl]
          exact oa
      have acy5 : AcsAt H5 (ys ++ [va']) (acts ++ [a.l]) := AcsAt.snoc (va2.tk tk25) (acy.tk tk15)
      have acw5 : AcsAt H5 (ws ++ [.ref ac]) (acts ++ [a.l]) := AcsAt.snoc (ha.tk tkT) (acw.tk tkT)
      have la5 : atI (xs ++ [V.ref st']) (-1) = some (.ref st') := atI_last _ _
      have zla5 : atI (zs ++ [V.ref t1]) (-1) = some (.ref t1) := atI_last _ _
      have hL5 := hL1.tk tk15
      have hs5 := hs2.tk tk25
      have st5 := ef.st s1
      have few : (acts ++ [a.l]).length ≤ 60 := by rw [List.length_append, List.length_singleton]; omega
      have sw5 : SW K H5 C s A B c sn ls ld n' D' P' G' (acts ++ [a.l]) := by
        refine ⟨?_, ⟨_, _, st', ses5, la5, by simp, ?_, hs5, acy5⟩, ⟨_, t1, els5, zla5, ?_, hL5⟩, ⟨_, eld5, acw5⟩, st5, ef.n1 sw.n1, ef.few sw.l12, aok, sw.z1, sw.z2, sw.z3, sw.nn⟩
        · obtain ⟨big, cells, cnt, h1, h2, h3, h4⟩ := (sw.str.same u1).ex
          have k : ∀ {b : Addr} {o : HO}, b ≠ sn → b ≠ ls → b ≠ ld → H1 b = some o → H5 b = some o := fun n1 n2 n3 e => v5 _ _ (keep4 _ _ n3 (keep3 _ _ n2 (bt _ _ n1 e)))
          exact ⟨⟨big, cells, cnt, k sw.z1.1 sw.z2.1 sw.z3.1 h1, k sw.z1.2.1 sw.z2.2.1 sw.z3.2.1 h2, k sw.z1.2.2 sw.z2.2.2 sw.z3.2.2 h3, h4⟩, sw.str.nAB, sw.str.nsA, sw.str.nsB⟩
        · rw [List.length_append, List.length_append, List.length_singleton, List.length_singleton, lx]
        · rw [List.length_append, List.length_append, List.length_singleton, List.length_singleton, lzs]
      have but : But3 sn ls ld H H5 := fun b o n1 n2 n3 e => v5 _ _ (keep4 _ _ n3 (keep3 _ _ n2 (bt _ _ n1 (u1 _ _ e))))
      refine ⟨_, rfl, sn, st', _, _, false, n', D', P', G', _, rfl, ses5, la5, hs5, st5, acy5, aok, few, fun H8 u8 => ⟨_, rfl, _, rfl, ls, _, -1, _, rfl, rfl, SqL.of (u8 _ _ els5), zla5, _, rfl, t1, ld, _, n', D', P', G', _, rfl, (hL5.tk (Tk.of u8)).st, st5, u8 _ _ eld5, acw5.tk (Tk.of u8), aok, few, fun H9 u9 => ⟨rfl, ?_⟩⟩⟩
      rw [decide_eq_true rfl]
      exact q _ n' D' P' G' _ (sw5.same (u8.trans u9)) (by rw [List.length_append, List.length_singleton]; omega) fun b o n1 n2 n3 e => (u8.trans u9) b o (but b o n1 n2 n3 e)
end
end Fw
set_option maxHeartbeats 4000000
namespace Fw
open PySem PySem.Spec PyProof.Rows L2
/-! what the laws of sessions know of the class and of CHANGES -/
section
variable {K : PySem.W.Frag} {mg : Str → Option Value}
theorem kw1_binds {x qual : Str} {st : Stmt} {f : Addr} {fd : FuncData} (F : FunD K x qual (defArgs st) (defBody st) (defScope st) [] [("moment", V.non)] f fd)
    (h : ∀ (D : Addr) (doc pm : Value) (an : Option Addr) (cdv ct : Value) (us ks : List Value), us.length = 1 → ks.length = 1 → KwChain D ([("moment" : Str)].zip ks) (bindArgs (PySem.W.fnOf x qual (defArgs st) (defBody st) (defScope st) .none (.ref D) doc pm an cdv ct) ⟨us, []⟩) ((["self", "moment"] : List Str).zip (us ++ ks))) :
    ∃ ds, Vals [V.non] ds ∧ Binds K fd ["self", "moment"] ds := F.binds0 1 (by simp) rfl h
theorem met_mk {C f : Addr} {m q : Str} {st : Stmt} {fd : FuncData} {ps : List Str} (at_ : PySem.W.findIn K (.ref C) m = some (some (.ref f))) (fn : PySem.W.isFn K (.ref f) = true) (F : Fun K m q st f fd) (b : Binds K fd ps []) : MetE K C m q st ps := ⟨f, fd, ⟨at_, fn, F.kp⟩, b, F⟩
theorem metd_mk {C f D : Addr} {od an : Option Addr} {sl : Array (Option Value)} {oc dc pm cd ct : Value} {m q : Str} {st : Stmt} (at_ : PySem.W.findIn K (.ref C) m = some (some (.ref f))) (fn : PySem.W.isFn K (.ref f) = true) (l : K.lookup f = some ⟨oc, od, .func (PySem.W.fnOf m q (defArgs st) (defBody st) (defScope st) .none (.ref D) dc pm an cd ct), sl⟩) (c : PySem.W.codeIn K cd q = true) (k : PySem.W.keepIn K (.ref f) = true) (d : PySem.W.nsIn K D "moment" = some (some .none))
    (h : ∀ (D : Addr) (doc pm : Value) (an : Option Addr) (cdv ct : Value) (us ks : List Value), us.length = 1 → ks.length = 1 → KwChain D ([("moment" : Str)].zip ks) (bindArgs (PySem.W.fnOf m q (defArgs st) (defBody st) (defScope st) .none (.ref D) doc pm an cdv ct) ⟨us, []⟩) ((["self", "moment"] : List Str).zip (us ++ ks))) : MetD K C m q st ["self", "moment"] [V.non] := by
  obtain ⟨ds, a, b⟩ := kw1_binds (F := ⟨⟨oc, od, .none, .ref D, dc, pm, an, cd, ct, sl, rfl, l, c, .inl ⟨rfl, rfl⟩, .inr ⟨D, rfl, fun z hz => by
    rw [List.mem_singleton.mp hz]
    exact ⟨_, d, rfl⟩⟩⟩, k⟩) h
  exact ⟨f, _, ds, ⟨at_, fn, k⟩, b, a, fun_mk (st := st) l c k⟩
theorem kw_house (D : Addr) (doc pm : Value) (an : Option Addr) (cdv ct : Value) (us ks : List Value) (l1 : us.length = 1) (l2 : ks.length = 1) : KwChain D ([("moment" : Str)].zip ks) (bindArgs (PySem.W.fnOf "house" "Session.house" (defArgs iSession_house) (defBody iSession_house) (defScope iSession_house) .none (.ref D) doc pm an cdv ct) ⟨us, []⟩) ((["self", "moment"] : List Str).zip (us ++ ks)) := match us, ks, l1, l2 with
  | [_], [_], _, _ => ⟨_, _, _, _, _, _, rfl, rfl, rfl⟩
theorem kw_placement (D : Addr) (doc pm : Value) (an : Option Addr) (cdv ct : Value) (us ks : List Value) (l1 : us.length = 1) (l2 : ks.length = 1) : KwChain D ([("moment" : Str)].zip ks) (bindArgs (PySem.W.fnOf "placement" "Session.placement" (defArgs iSession_placement) (defBody iSession_placement) (defScope iSession_placement) .none (.ref D) doc pm an cdv ct) ⟨us, []⟩) ((["self", "moment"] : List Str).zip (us ++ ks)) := match us, ks, l1, l2 with
  | [_], [_], _, _ => ⟨_, _, _, _, _, _, rfl, rfl, rfl⟩
theorem kw_targets (D : Addr) (doc pm : Value) (an : Option Addr) (cdv ct : Value) (us ks : List Value) (l1 : us.length = 1) (l2 : ks.length = 1) : KwChain D ([("moment" : Str)].zip ks) (bindArgs (PySem.W.fnOf "targets" "Session.targets" (defArgs iSession_targets) (defBody iSession_targets) (defScope iSession_targets) .none (.ref D) doc pm an cdv ct) ⟨us, []⟩) ((["self", "moment"] : List Str).zip (us ++ ks)) := match us, ks, l1, l2 with
  | [_], [_], _, _ => ⟨_, _, _, _, _, _, rfl, rfl, rfl⟩
/-- the class Session -/
structure SesC (K : PySem.W.Frag) (mg : Str → Option Value) (C : Addr) : Prop where
  z : SesK K mg C
  g : Con K C "GUARDED" (.bl false) (.bool false)
  i : ∃ f fd, Mk K C f ∧ Binds K fd ["self", "house", "placement"] [] ∧ Fun K "__init__" "Session.__init__" iSession f fd
  move : MetE K C "move" "Session.move" iSession_move ["self", "name", "room"]
  enter : MetE K C "enter" "Session.enter" iSession_enter ["self", "name", "room"]
  leave : MetE K C "leave" "Session.leave" iSession_leave ["self", "name"]
  set_target : MetE K C "set_target" "Session.set_target" iSession_set_target ["self", "name", "room"]
  act : MetE K C "act" "Session.act" iSession_act ["self", "action"]
  refuse_if_busy : MetE K C "refuse_if_busy" "Session.refuse_if_busy" iSession_refuse_if_busy ["self"]
  apply_action : MetE K C "apply_action" "Session.apply_action" iSession_apply_action ["self", "action"]
  state_at : MetE K C "state_at" "Session.state_at" iSession_state_at ["self", "moment"]
  actions : MetE K C "actions" "Session.actions" iSession_actions ["self"]
  len : MetE K C "__len__" "Session.__len__" iSession___len__ ["self"]
  str : MetE K C "__str__" "Session.__str__" iSession___str__ ["self"]
  house : MetD K C "house" "Session.house" iSession_house ["self", "moment"] [V.non]
  placement : MetD K C "placement" "Session.placement" iSession_placement ["self", "moment"] [V.non]
  targets : MetD K C "targets" "Session.targets" iSession_targets ["self", "moment"] [V.non]
/-- an entry of CHANGES -/
def Chd (K : PySem.W.Frag) (d : Addr) (wd x : Str) (st : Stmt) (ps : List Str) : Prop := ∃ tp f c fd, PySem.W.nsIn K d wd = some (some (.ref tp)) ∧ (∀ H', SqT K H' tp [.ref f, .int c]) ∧ Fun K x x st f fd ∧ Binds K fd ps []
theorem chd_mk {d tp f : Addr} {wd x : Str} {st : Stmt} {ps : List Str} {fd : FuncData} {c : Int} {tk : Tok} {od : Option Addr} {n : Nat} {sl : Array (Option Value)} (a : PySem.W.nsIn K d wd = some (some (.ref tp))) (l : K.lookup tp = some ⟨.type "tuple", od, .seq #[.ref f, .int c tk] n, sl⟩) (F : Fun K x x st f fd) (b : Binds K fd ps []) : Chd K d wd x st ps :=
  ⟨tp, f, c, fd, a, fun H' => .inr ⟨_, _, _, l, rfl, rfl, by show 2 ≤ sizeLine; decide, .cons rfl (.cons ⟨_, rfl⟩ .nil)⟩, F, b⟩
/-- CHANGES -/
def ChE (w : World) (K : PySem.W.Frag) (mg : Str → Option Value) : Prop := ∃ d en m, mg "CHANGES" = some (.ref d) ∧ KDict K w d en m ∧ Chd K d "move" "after_move" sAfterMove pAfM ∧ Chd K d "enter" "after_enter" sAfterEnter pAfM ∧ Chd K d "leave" "after_leave" sAfterLeave pAfL ∧ Chd K d "set_target" "after_set_target" sAfterSetTarget pAfM
end
end Fw
namespace Fw
open PySem PySem.Spec PyProof.Rows L2
set_option maxHeartbeats 8000000
theorem doors_dxV {K : PySem.W.Frag} {av : List Addr} {H : Hp} : ∀ {ps : List (Addr × Int × Int)}, (∀ p ∈ ps, H p.1 = some (.tup [.int p.2.1, .int p.2.2])) → DxAll K av H (ps.map fun p => V.ref p.1) ((ps.map (·.2)).map pd)
  | [], _ => .nil
  | p :: ps, h => .cons (.tup (SqT.of (h p List.mem_cons_self)) (.cons (.int _) (.cons (.int _) .nil))) (doors_dxV fun x hx => h x (List.mem_cons_of_mem _ hx))
theorem HouseAt.dxV {K : PySem.W.Frag} {av : List Addr} {H : Hp} {h : Addr} {n : Int} {D : List (Int × Int)} (x : HouseAt H h n D) : Dx K av H (.ref h) (hd n D) := by
  obtain ⟨q, ps, h1, h2, rfl, h4⟩ := x
  exact .tup (SqT.of h1) (.cons (.int _) (.cons (.tup (SqT.of h2) (doors_dxV h4)) .nil))
theorem yesH {P : Program} {w : World} {K : PySem.W.Frag} {mg : Str → Option Value} {base : Heap} {k : Nat} (C : Cal P w K mg base k "is_house" ["value"] (spHouseA K)) : Cal P w K mg base k "is_house" ["value"] spYesH :=
  C.imp fun vs H Q E h => by
    obtain ⟨h, n, D, rfl, hH, hF, n1, n8, q⟩ := h
    refine ⟨.ref h, hd n D, 0, 3, 40, rfl, hH.dxV, hs_gdV hF (by omega) n8, by decide, fun H' s => ?_⟩
    rw [show hsB (hd n D) = true from hsB_iff.mpr ⟨n, D, rfl, n1, n8, hF⟩]
    exact q H' s
section
variable {P : Program} {w : World} {K : PySem.W.Frag} {mg : Str → Option Value} {base : Heap}
def spLaw (K : PySem.W.Frag) : Sp := fun vs H Q _ => ∃ (a : Addr) (ns : List Int), vs = [.ref a] ∧ SqL K H a (vi ns) ∧ ns.length ≤ 63 ∧ ∀ H', Q (.bl true) H'
abbrev nLaw : List Str := ["_law_script", "_law_stream_here", "_law_words", "_law_turn", "_law_session", "_law_states", "_law_done", "_law_k", "_law_action"]
theorem scLaw : FnScope nLaw ["_law_script"] (defScope sLaw) := ⟨rfl, rfl, rfl, by decide +kernel, rfl, by decide +kernel, by decide +kernel⟩
def Errs (K : PySem.W.Frag) (mg : Str → Option Value) : Prop := ∃ E, HE K mg E ∧ CEE K mg E "UnknownPerson" "UnknownPerson.__init__" "name" iUnknownPerson ∧ CEE K mg E "InvalidRoom" "InvalidRoom.__init__" "room" iInvalidRoom ∧ CEE K mg E "NotAdjacent" "NotAdjacent.__init__" "room" iNotAdjacent ∧ CEE K mg E "EmptyRoom" "EmptyRoom.__init__" "room" iEmptyRoom ∧ CEE K mg E "InvalidName" "InvalidName.__init__" "name" iInvalidName ∧ CEE K mg E "DuplicateName" "DuplicateName.__init__" "name" iDuplicateName ∧ CEE K mg E "LimitReached" "LimitReached.__init__" "limit" iLimitReached ∧ CEE K mg E "AlreadyAdjacent" "AlreadyAdjacent.__init__" "room" iAlreadyAdjacent ∧ CEE K mg E "WouldFormCycle" "WouldFormCycle.__init__" "room" iWouldFormCycle ∧ CE0 K mg E "NothingToUndo" "NothingToUndo.__init__" iNothingToUndo ∧ CE0 K mg E "HistoryFull" "HistoryFull.__init__" iHistoryFull ∧ CE0 K mg E "SessionBusy" "SessionBusy.__init__" iSessionBusy ∧ CE0 K mg E "InvalidActions" "InvalidActions.__init__" iInvalidActions ∧ CEE K mg E "BatchFailed" "BatchFailed.__init__" "position" iBatchFailed ∧ CEE K mg E "InvalidMoment" "InvalidMoment.__init__" "position" iInvalidMoment ∧ CEE K mg E "Blocked" "Blocked.__init__" "block" iBlocked
/-- the defs of the text -/
structure All (w : World) (K : PySem.W.Frag) (mg : Str → Option Value) : Prop where
  T : Nm mg
  ValueError : mg "ValueError" = none
  dict : mg "dict" = none
  enumerate : mg "enumerate" = none
  cMAX_ROOMS : ∃ tk, mg "MAX_ROOMS" = some (.int 8 tk)
  cMAX_PEOPLE : ∃ tk, mg "MAX_PEOPLE" = some (.int 12 tk)
  cMAX_ACTIONS : ∃ tk, mg "MAX_ACTIONS" = some (.int 60 tk)
  cLONGEST_NAME : ∃ tk, mg "LONGEST_NAME" = some (.int 8 tk)
  er : Errs K mg
  dis_integer : DefE K mg "is_integer" sIsInt ["value"]
  dis_name : DefE K mg "is_name" sIsName ["value"]
  dis_pair : DefE K mg "is_pair" sIsPair ["value"]
  dis_ascending : DefE K mg "is_ascending" sIsAsc ["sequence"]
  dis_house : DefE K mg "is_house" sIsHouse ["value"]
  dis_room : DefE K mg "is_room" sIsRoom ["house", "value"]
  dis_door : DefE K mg "is_door" sIsDoor ["rooms", "value"]
  dhas_cycle : DefE K mg "has_cycle" sHasCyc ["rooms", "doors"]
  dneighbors : DefE K mg "neighbors" sNb ["house", "room"]
  dpath_between : DefE K mg "path_between" sPath ["house", "a", "b"]
  dsteps_toward : DefE K mg "steps_toward" sSteps ["house", "goal", "rooms"]
  dis_placement : DefE K mg "is_placement" sIsPl ["house", "value"]
  dis_person_in_room : DefE K mg "is_person_in_room" sIsPR ["house", "value"]
  dnames_of : DefE K mg "names_of" sNamesOf ["placement"]
  droom_of : DefE K mg "room_of" sRoomOf ["placement", "name"]
  dwith_person_in : DefE K mg "with_person_in" sWith ["placement", "name", "room"]
  dpeople_in : DefE K mg "people_in" sPIn ["placement", "room"]
  dpeople_within : DefE K mg "people_within" sPWi ["placement", "rooms"]
  dmove_person : DefE K mg "move_person" sMove ["house", "placement", "name", "room"]
  drefuse_no_room : DefE K mg "refuse_no_room" sRefuseNoRoom ["house", "room"]
  dwith_more : DefE K mg "with_more" sWithMore ["pairs", "pair"]
  dwithout : DefE K mg "without" sWithout ["pairs", "pair"]
  dstate_after : DefE K mg "state_after" sStateAfter ["state", "action"]
  dhouse_size : DefE K mg "house_size" sHouseSize ["house"]
  d_law_stream : DefE K mg "_law_stream" sStream ["_law_script"]
  d_law_names : DefE K mg "_law_names" sNames ["_law_stream_here", "_law_many"]
  d_law_draw : DefE K mg "_law_draw" sDraw ["_law_stream_here", "_law_many"]
  d_law_house : DefE K mg "_law_house" sHouse ["_law_stream_here", "_law_least", "_law_most"]
  d_law_placement : DefE K mg "_law_placement" sPl ["_law_stream_here", "_law_house_here", "_law_most"]
  d_law_neighbors : DefE K mg "_law_neighbors" sLNb ["_law_house_here", "_law_room"]
  d_law_moved : DefE K mg "_law_moved" sLMoved ["_law_placement_here", "_law_name", "_law_room"]
  d_law_is_integer : DefE K mg "_law_is_integer" sLInt ["_law_value", "_law_low", "_law_high"]
  d_law_is_name : DefE K mg "_law_is_name" sLIsName ["_law_value"]
  d_law_apply : DefE K mg "_law_apply" sLApply ["_law_session", "_law_action"]
  d_law_error_name : DefE K mg "_law_error_name" sLErrorName ["_law_e"]
  d_law_error_field : DefE K mg "_law_error_field" sLErrorField ["_law_e"]
  d_law_full_result : DefE K mg "_law_full_result" sLFullResult ["_law_session", "_law_action"]
  d_law_without : DefE K mg "_law_without" sLWithout ["_law_pairs", "_law_name"]
  d_law_people_outcome : DefE K mg "_law_people_outcome" sLPeopleOutcome ["_law_state", "_law_action"]
  d_law_expected_outcome : DefE K mg "_law_expected_outcome" sLExpectedOutcome ["_law_state", "_law_action"]
  d_law_snapshot : DefE K mg "_law_snapshot" sLSnapshot ["_law_session"]
  d_law_expected_snapshot : DefE K mg "_law_expected_snapshot" sLExpectedSnapshot ["_law_state", "_law_done"]
  d_law_random_action : DefE K mg "_law_random_action" sLRandomAction ["_law_stream_here", "_law_state", "_law_words"]
  d_law_initial : DefE K mg "_law_initial" sLInitial ["_law_stream_here", "_law_most", "_law_many"]
  d_law_repeated_turn_holds : DefE K mg "_law_repeated_turn_holds" sLRepeatedTurnHolds ["_law_session", "_law_states", "_law_done", "_law_action"]
  cs : ∃ C, SesC K mg C
  ch : ChE w K mg
theorem ok_law {f : Addr} {fd : FuncData} (F : Fun K "law" "law" sLaw f fd) (Z : All w K mg) : FnG P w K mg base 13 f fd ["_law_script"] (spLaw K) := by
  have T := Z.T
  obtain ⟨E, hE, eUnknownPerson, eInvalidRoom, eNotAdjacent, eEmptyRoom, eInvalidName, eDuplicateName, eLimitReached, eAlreadyAdjacent, eWouldFormCycle, eNothingToUndo, eHistoryFull, eSessionBusy, eInvalidActions, eBatchFailed, eInvalidMoment, eBlocked⟩ := Z.er
  obtain ⟨CUnknownPerson, RUnknownPerson⟩ := er1_UnknownPerson (P := P) (w := w) (base := base) eUnknownPerson
  obtain ⟨CInvalidRoom, RInvalidRoom⟩ := er1_InvalidRoom (P := P) (w := w) (base := base) eInvalidRoom
  obtain ⟨CNotAdjacent, RNotAdjacent⟩ := er1_NotAdjacent (P := P) (w := w) (base := base) eNotAdjacent
  obtain ⟨CEmptyRoom, REmptyRoom⟩ := er1_EmptyRoom (P := P) (w := w) (base := base) eEmptyRoom
  obtain ⟨CInvalidName, RInvalidName⟩ := er1_InvalidName (P := P) (w := w) (base := base) eInvalidName
  obtain ⟨CDuplicateName, RDuplicateName⟩ := er1_DuplicateName (P := P) (w := w) (base := base) eDuplicateName
  obtain ⟨CLimitReached, RLimitReached⟩ := er1_LimitReached (P := P) (w := w) (base := base) eLimitReached
  obtain ⟨CAlreadyAdjacent, RAlreadyAdjacent⟩ := er1_AlreadyAdjacent (P := P) (w := w) (base := base) eAlreadyAdjacent
  obtain ⟨CWouldFormCycle, RWouldFormCycle⟩ := er1_WouldFormCycle (P := P) (w := w) (base := base) eWouldFormCycle
  obtain ⟨CNothingToUndo, RNothingToUndo⟩ := eNothingToUndo.er
  obtain ⟨CHistoryFull, RHistoryFull⟩ := eHistoryFull.er
  obtain ⟨CSessionBusy, RSessionBusy⟩ := eSessionBusy.er
  obtain ⟨CInvalidActions, RInvalidActions⟩ := eInvalidActions.er
  obtain ⟨CBatchFailed, RBatchFailed⟩ := er1_BatchFailed (P := P) (w := w) (base := base) eBatchFailed
  obtain ⟨CInvalidMoment, RInvalidMoment⟩ := er1_InvalidMoment (P := P) (w := w) (base := base) eInvalidMoment
  obtain ⟨CBlocked, RBlocked⟩ := er1_Blocked (P := P) (w := w) (base := base) eBlocked
  have C_law_stream : Cal P w K mg base 1 "_law_stream" ["_law_script"] (spStream K) := Z.d_law_stream.cal fun _ _ d => ok_stream d.F T
  obtain ⟨tkR, mR⟩ := Z.cMAX_ROOMS
  obtain ⟨tkP, mP⟩ := Z.cMAX_PEOPLE
  obtain ⟨tkA, mA⟩ := Z.cMAX_ACTIONS
  obtain ⟨tkL, mL⟩ := Z.cLONGEST_NAME
  have Es : E16 K mg E := { UnknownPerson := ⟨_, RUnknownPerson.er⟩, InvalidRoom := ⟨_, RInvalidRoom.er⟩, NotAdjacent := ⟨_, RNotAdjacent.er⟩, EmptyRoom := ⟨_, REmptyRoom.er⟩, InvalidName := ⟨_, RInvalidName.er⟩, DuplicateName := ⟨_, RDuplicateName.er⟩, LimitReached := ⟨_, RLimitReached.er⟩, AlreadyAdjacent := ⟨_, RAlreadyAdjacent.er⟩, WouldFormCycle := ⟨_, RWouldFormCycle.er⟩, NothingToUndo := ⟨_, RNothingToUndo⟩, HistoryFull := ⟨_, RHistoryFull⟩, SessionBusy := ⟨_, RSessionBusy⟩, InvalidActions := ⟨_, RInvalidActions⟩, BatchFailed := ⟨_, RBatchFailed.er⟩, InvalidMoment := ⟨_, RInvalidMoment.er⟩, Blocked := ⟨_, RBlocked.er⟩ }
  obtain ⟨fn, fnd, dN⟩ := Z.dneighbors
  obtain ⟨fs, fsd, dS⟩ := Z.dsteps_toward
  have Cneighbors : Cal P w K mg base 1 "neighbors" ["house", "room"] spNb := Z.dneighbors.cal fun _ _ d => ok_nb d.F T
  have Cwith_person_in : Cal P w K mg base 1 "with_person_in" ["placement", "name", "room"] spWith := Z.dwith_person_in.cal fun _ _ d => ok_with d.F T
  have Cpeople_within : Cal P w K mg base 1 "people_within" ["placement", "rooms"] (spPWi K) := Z.dpeople_within.cal fun _ _ d => ok_pwi d.F T
  have Cpeople_in : Cal P w K mg base 2 "people_in" ["placement", "room"] spPIn := Z.dpeople_in.cal fun _ _ d => ok_pin d.F T (Cpeople_within.up (by decide))
  have CroomX : CalX P w K mg base 3 "room_of" pRoomOf (spRoomAny K CUnknownPerson) := Z.droom_of.calX fun _ _ d => ok_roomany d.F RUnknownPerson.r
  have CnumA : Cal P w K mg base 1 "is_integer" pIsInt (spIsNum K) := Z.dis_integer.cal fun _ _ d => ok_isnum d.F T
  have CroomA : Cal P w K mg base 2 "is_room" pIsRoom (spIsRoomA K) := Z.dis_room.cal fun _ _ d => ok_isrooma d.F T CnumA
  have CmoveX : CalX P w K mg base 4 "move_person" pMove (spMoveAll K CUnknownPerson CInvalidRoom CNotAdjacent CEmptyRoom) := Z.dmove_person.calX fun _ _ d => ok_moveall (E0 := E) d.F T CroomX (CroomA.up (by decide)) (Cneighbors.up (by decide)) (Cpeople_in.up (by decide)) (Cwith_person_in.up (by decide)) RInvalidRoom.r RNotAdjacent.r REmptyRoom.r
  have CnameA : Cal P w K mg base 1 "is_name" pIsInt (spIsNameA K) := Z.dis_name.cal fun _ _ d => ok_isnamea d.F T mL
  have Cnames_of : Cal P w K mg base 1 "names_of" pNamesOf spNamesOf := Z.dnames_of.cal fun _ _ d => ok_namesof d.F T
  have CrnrX : CalX P w K mg base 4 "refuse_no_room" ["house", "room"] (spRNR K CInvalidRoom) := Z.drefuse_no_room.calX fun _ _ d => ok_rnr (k := 0) d.F (CroomA.up (by decide)) RInvalidRoom.r
  have Cwith_more : Cal P w K mg base 1 "with_more" pWout spWMore := Z.dwith_more.cal fun _ _ d => ok_wmore d.F T
  have Cwithout : Cal P w K mg base 1 "without" pWout spWout := Z.dwithout.cal fun _ _ d => ok_wout d.F T
  obtain ⟨d, en, m, hC, kd, ⟨tp1, f1, n1, fd1, a1, q1, F1, b1⟩, ⟨tp2, f2, n2, fd2, a2, q2, F2, b2⟩, ⟨tp3, f3, n3, fd3, a3, q3, F3, b3⟩, ⟨tp4, f4, n4, fd4, a4, q4, F4, b4⟩⟩ := Z.ch
  have X : Chg P w K mg base 5 d CUnknownPerson CInvalidRoom CNotAdjacent CEmptyRoom CInvalidName CDuplicateName CLimitReached :=
    ⟨⟨tp1, f1, n1, a1, q1, fd1, _, ok_afm F1 T CmoveX, F1.kp, b1⟩,
     ⟨tp2, f2, n2, a2, q2, fd2, _, ok_afe (k := 1) F2 T mP (CnameA.up (by decide)) (Cnames_of.up (by decide)) CrnrX (Cpeople_in.up (by decide)) (Cwith_more.up (by decide)) RInvalidName.r RDuplicateName.r REmptyRoom.r RLimitReached.r, F2.kp, b2⟩,
     ⟨tp3, f3, n3, a3, q3, fd3, _, ok_afl (k := 4) F3 T (CroomX.up (by decide)) (Cwithout.up (by decide)), F3.kp, b3⟩,
     ⟨tp4, f4, n4, a4, q4, fd4, _, ok_aft (k := 4) F4 T (CroomX.up (by decide)) CrnrX (Cwith_person_in.up (by decide)), F4.kp, b4⟩⟩
  have CstafX : CalX P w K mg base 6 "state_after" pStAf (spStAf P w K mg base 5 d) := Z.dstate_after.calX fun _ _ dd => ok_staf dd.F hC kd
  obtain ⟨CS, SC⟩ := Z.cs
  have ZS := SC.z
  have Mrefuse : CalM P w K mg base CX0 7 CS "refuse_if_busy" ["self"] (spSeRf K CS) := SC.refuse_if_busy.cal fun _ _ F => ok_serf F ZS
  have Mapply : CalM P w K mg base (L2.CX P w) 7 CS "apply_action" ["self", "action"] (spSeAp P w K mg base 5 d CS) := SC.apply_action.cal fun _ _ F => ok_seap F T ZS mA SC.g CstafX
  have Mact : CalM P w K mg base (L2.CX P w) 8 CS "act" ["self", "action"] (spSeAct P w K mg base 5 d CS) := SC.act.cal fun _ _ F => ok_seact F ZS Mrefuse Mapply
  have Mmove : CalM P w K mg base (L2.CX P w) 9 CS "move" ["self", "name", "room"] (spSeMv P w K mg base 5 d CS) := SC.move.cal fun _ _ F => ok_semv F ZS Mact
  have Menter : CalM P w K mg base (L2.CX P w) 9 CS "enter" ["self", "name", "room"] (spSeEn P w K mg base 5 d CS) := SC.enter.cal fun _ _ F => ok_seen F ZS Mact
  have Mleave : CalM P w K mg base (L2.CX P w) 9 CS "leave" ["self", "name"] (spSeLv P w K mg base 5 d CS) := SC.leave.cal fun _ _ F => ok_selv F ZS Mact
  have Mset_target : CalM P w K mg base (L2.CX P w) 9 CS "set_target" ["self", "name", "room"] (spSeTg P w K mg base 5 d CS) := SC.set_target.cal fun _ _ F => ok_setg F ZS Mact
  have C_law_apply : CalX P w K mg base 10 "_law_apply" ["_law_session", "_law_action"] (spLAp P w K mg base 5 d CS) := Z.d_law_apply.calX fun _ _ d => ok_lap d.F ZS Mmove Menter Mleave Mset_target
  have told : ErTold P w K mg base 10 E CUnknownPerson CInvalidRoom CNotAdjacent CEmptyRoom CInvalidName CDuplicateName CLimitReached := fun z D' fld h => by
    cases h with
    | u => exact ⟨RUnknownPerson.r.mro, Z.d_law_error_name.calE fun _ _ d => ok_len16 d.F T Z.ValueError hE Es (by simp [L16]) RUnknownPerson.er, Z.d_law_error_field.calE fun _ _ d => ok_lef_name d.F T hE Es (by simp) RUnknownPerson⟩
    | i => exact ⟨RInvalidRoom.r.mro, Z.d_law_error_name.calE fun _ _ d => ok_len16 d.F T Z.ValueError hE Es (by simp [L16]) RInvalidRoom.er, Z.d_law_error_field.calE fun _ _ d => ok_lef_room d.F T hE Es (by simp) RInvalidRoom⟩
    | n => exact ⟨RNotAdjacent.r.mro, Z.d_law_error_name.calE fun _ _ d => ok_len16 d.F T Z.ValueError hE Es (by simp [L16]) RNotAdjacent.er, Z.d_law_error_field.calE fun _ _ d => ok_lef_room d.F T hE Es (by simp) RNotAdjacent⟩
    | e => exact ⟨REmptyRoom.r.mro, Z.d_law_error_name.calE fun _ _ d => ok_len16 d.F T Z.ValueError hE Es (by simp [L16]) REmptyRoom.er, Z.d_law_error_field.calE fun _ _ d => ok_lef_room d.F T hE Es (by simp) REmptyRoom⟩
    | b => exact ⟨RInvalidName.r.mro, Z.d_law_error_name.calE fun _ _ d => ok_len16 d.F T Z.ValueError hE Es (by simp [L16]) RInvalidName.er, Z.d_law_error_field.calE fun _ _ d => ok_lef_name d.F T hE Es (by simp) RInvalidName⟩
    | d => exact ⟨RDuplicateName.r.mro, Z.d_law_error_name.calE fun _ _ d => ok_len16 d.F T Z.ValueError hE Es (by simp [L16]) RDuplicateName.er, Z.d_law_error_field.calE fun _ _ d => ok_lef_name d.F T hE Es (by simp) RDuplicateName⟩
    | l => exact ⟨RLimitReached.r.mro, Z.d_law_error_name.calE fun _ _ d => ok_len16 d.F T Z.ValueError hE Es (by simp [L16]) RLimitReached.er, Z.d_law_error_field.calE fun _ _ d => ok_lef_limit d.F T hE Es (by simp) RLimitReached⟩
  have C_law_full_result : Cal P w K mg base 11 "_law_full_result" ["_law_session", "_law_action"] (spLFull K CS) := Z.d_law_full_result.cal fun _ _ d => ok_lfull d.F T hE X told C_law_apply
  have C_law_neighbors : Cal P w K mg base 1 "_law_neighbors" ["_law_house_here", "_law_room"] spLNb := Z.d_law_neighbors.cal fun _ _ d => ok_lnb d.F T
  have C_law_moved : Cal P w K mg base 1 "_law_moved" pLMoved spLMoved := Z.d_law_moved.cal fun _ _ d => ok_lmoved d.F T
  have C_law_without : Cal P w K mg base 1 "_law_without" ["_law_pairs", "_law_name"] spLWo := Z.d_law_without.cal fun _ _ d => ok_lwo d.F T
  have ClintA : Cal P w K mg base 1 "_law_is_integer" ["_law_value", "_law_low", "_law_high"] (spLIntA K) := Z.d_law_is_integer.cal fun _ _ d => ok_linta d.F T
  have ClnameA : Cal P w K mg base 1 "_law_is_name" ["_law_value"] (spIsNameA K) := Z.d_law_is_name.cal fun _ _ d => ok_lisnamea d.F T
  have C_law_people_outcome : Cal P w K mg base 2 "_law_people_outcome" ["_law_state", "_law_action"] (spLPeO K) := Z.d_law_people_outcome.cal fun _ _ d => ok_lpeo d.F T Z.dict ClnameA ClintA C_law_neighbors C_law_moved C_law_without
  have C_law_expected_outcome : Cal P w K mg base 3 "_law_expected_outcome" ["_law_state", "_law_action"] (spLPeO K) := Z.d_law_expected_outcome.cal fun _ _ d => ok_lexo d.F C_law_people_outcome
  have Chouse_size : Cal P w K mg base 1 "house_size" ["house"] spHSz := Z.dhouse_size.cal fun _ _ d => ok_hsz d.F T
  have Mstate_at : CalM P w K mg base CX0 1 CS "state_at" ["self", "moment"] (spSeSt K CS) := SC.state_at.cal fun _ _ F => ok_sest F T ZS
  have Mhouse : CalMd P w K mg base CX0 2 CS "house" [.non] (spSeHo K CS) := SC.house.cal fun _ _ F => ok_seho F ZS Mstate_at
  have Mplacement : CalMd P w K mg base CX0 2 CS "placement" [.non] (spSePl K CS) := SC.placement.cal fun _ _ F => ok_sepl F ZS Mstate_at
  have Mtargets : CalMd P w K mg base CX0 2 CS "targets" [.non] (spSeTa K CS) := SC.targets.cal fun _ _ F => ok_seta F ZS Mstate_at
  have Mactions : CalM P w K mg base CX0 1 CS "actions" ["self"] (spSeAc K CS) := SC.actions.cal fun _ _ F => ok_seac F ZS
  have Mlen : CalR P w K mg base CX0 1 CS "__len__" (spSeLn K CS) := (SC.len.cal fun _ _ F => ok_seln F T ZS).raw
  have Mstr : CalR P w K mg base CX0 3 CS "__str__" (spSeStr K CS) := (SC.str.cal fun _ _ F => ok_sestr F T ZS (Chouse_size.up (by decide)) Mhouse Mplacement).raw
  have C_law_snapshot : CalG P w K mg base 11 "_law_snapshot" ["_law_session"] (spLSn K CS) := Z.d_law_snapshot.calG fun _ _ d => ok_lsn (k := 8) d.F T ZS (Mhouse.up (by decide)) (Mplacement.up (by decide)) (Mtargets.up (by decide)) (Mactions.up (by decide)) (Mlen.up (by decide)) (Mstr.up (by decide))
  have C_law_expected_snapshot : CalG P w K mg base 11 "_law_expected_snapshot" ["_law_state", "_law_done"] (spLESn K) := Z.d_law_expected_snapshot.calG fun _ _ d => ok_lesn (k := 10) d.F T
  have Cpair2 : Cal P w K mg base 1 "is_pair" pIsInt (spPair2 K) := Z.dis_pair.cal fun _ _ d => ok_pair2 d.F T
  have CascA : Cal P w K mg base 1 "is_ascending" pIsAsc (spAscD K) := Z.dis_ascending.cal fun _ _ d => ok_ascd d.F T
  have CdoorA : Cal P w K mg base 2 "is_door" ["rooms", "value"] (spDoor K) := Z.dis_door.cal fun _ _ d => ok_door d.F Cpair2 CnumA
  have CpathA : Cal P w K mg base 3 "path_between" ["house", "a", "b"] (spPathQ K) := Z.dpath_between.cal fun _ _ d => ok_pathQ d.F T dN dS
  have ChascA : Cal P w K mg base 4 "has_cycle" ["rooms", "doors"] (spHasC K) := Z.dhas_cycle.cal fun _ _ d => ok_hasc d.F Z.enumerate CpathA
  have Cis_houseA : Cal P w K mg base 5 "is_house" ["value"] (spHouseA K) := Z.dis_house.cal fun _ _ d => ok_housea d.F T mR (Cpair2.up (by decide)) (CnumA.up (by decide)) (CdoorA.up (by decide)) (CascA.up (by decide)) ChascA
  have Cis_house : Cal P w K mg base 5 "is_house" ["value"] spYesH := yesH Cis_houseA
  have Cis_integer : Cal P w K mg base 1 "is_integer" pIsInt spIsIntI := Z.dis_integer.cal fun _ _ d => ok_isint d.F T
  have Cip : Cal P w K mg base 1 "is_pair" _ spIsPairT := Z.dis_pair.cal fun _ _ d => ok_ispair d.F T
  have Cin : Cal P w K mg base 1 "is_name" _ spIsNameT := Z.dis_name.cal fun _ _ d => ok_isname d.F T mL
  have Cir : Cal P w K mg base 2 "is_room" _ spIsRoom := Z.dis_room.cal fun _ _ d => ok_isroom d.F T Cis_integer
  have Cipr : Cal P w K mg base 3 "is_person_in_room" _ spIsPRT := Z.dis_person_in_room.cal fun _ _ d => ok_ispr d.F (Cip.up (by decide)) (Cin.up (by decide)) Cir
  have Cia : Cal P w K mg base 1 "is_ascending" _ spIsAscS := Z.dis_ascending.cal fun _ _ d => ok_isasc d.F T
  have Cis_placement : Cal P w K mg base 4 "is_placement" _ spIsPlT := Z.dis_placement.cal fun _ _ d => ok_ispl d.F T mP Cipr (Cnames_of.up (by decide)) (Cia.up (by decide))
  have Cinit : CalI P w K mg base 6 CS ["self", "house", "placement"] (spSeIn K CS) := by
    obtain ⟨f, fd, mk, b, F⟩ := SC.i
    exact ⟨f, fd, mk, b, ok_sein F ZS Cis_house (Cis_placement.up (by decide))⟩
  have C_law_draw : Cal P w K mg base 1 "_law_draw" ["_law_stream_here", "_law_many"] spDraw := Z.d_law_draw.cal fun _ _ d => ok_draw d.F T
  have C_law_house : Cal P w K mg base 2 "_law_house" ["_law_stream_here", "_law_least", "_law_most"] spHouse := Z.d_law_house.cal fun _ _ d => by
    obtain ⟨af2, bf2, f2⟩ := Z.d_law_draw
    exact ok_house d.F T f2
  have C_law_names : Cal P w K mg base 2 "_law_names" ["_law_stream_here", "_law_many"] spNames := Z.d_law_names.cal fun _ _ d => ok_names d.F T (C_law_draw.up (by decide))
  have C_law_placement : Cal P w K mg base 3 "_law_placement" ["_law_stream_here", "_law_house_here", "_law_most"] spPl := Z.d_law_placement.cal fun _ _ d => ok_pl d.F T (C_law_draw.up (by decide)) (C_law_names.up (by decide))
  have C_law_initial : Cal P w K mg base 8 "_law_initial" ["_law_stream_here", "_law_most", "_law_many"] (spLIni K CS) := Z.d_law_initial.cal fun _ _ d => ok_lini d.F ZS (C_law_house.up (by decide)) (C_law_placement.up (by decide)) Cinit
  have C_law_random_action : Cal P w K mg base 2 "_law_random_action" ["_law_stream_here", "_law_state", "_law_words"] (spLRAc K) := Z.d_law_random_action.cal fun _ _ d => ok_lrac d.F T Z.dict C_law_draw C_law_neighbors
  have C_law_repeated_turn_holds : CalG P w K mg base 12 "_law_repeated_turn_holds" ["_law_session", "_law_states", "_law_done", "_law_action"] (spLTurn K CS) := Z.d_law_repeated_turn_holds.calG fun _ _ d => ok_lturn d.F T (C_law_expected_outcome.up (by decide)) C_law_full_result C_law_snapshot C_law_expected_snapshot
  refine Fun.okG F scLaw (fun vs H Q E h => ?_) (fun cdv A outer s H vs Q gd hr h => ?_)
  · obtain ⟨a, ns, rfl, _⟩ := h
    rfl
  · obtain ⟨a, ns, rfl, hS, hlen, q⟩ := h
    refine ⟨_, (pss_cons (ps_set (i := 1) scLaw.nd rfl (.inl rfl) (pe_cal C_law_stream (hr.mono (by decide)) (by rfl) (pa_cons (pv 0) pa_nil)))
      (pss_cons (ps_set (i := 2) scLaw.nd rfl (.inl rfl) (pe_lst (pa_cons pe_str (pa_cons pe_str (pa_cons pe_str (pa_cons pe_str (pa_cons pe_str (pa_cons pe_str (pa_cons pe_str (pa_cons pe_str pa_nil))))))))))
      (pss_cons (ps_for PassesOwn.never rfl (pi_range1 (by rfl) T.range (pa_cons pe_int pa_nil)) (pg_name (i := 3) scLaw.nd rfl (.inl rfl))
      (pss_cons (ps_asg (pe_cal C_law_initial (hr.mono (by decide)) (by rfl) (pa_cons (pv 1) (pa_cons pe_int (pa_cons pe_int pa_nil)))) (pg_unl (by rfl) (pgs_cons (pg_name (i := 4) scLaw.nd rfl (.inl rfl)) (pgs_cons (pg_name (i := 5) scLaw.nd rfl (.inl rfl)) (pgs_cons (pg_name (i := 6) scLaw.nd rfl (.inl rfl)) pgs_nil)))))
       (pss_cons (ps_if (pt_cmpR op_ne (pe_calG C_law_snapshot gd (hr.mono (by decide)) (by rfl) (pa_cons (pv 4) pa_nil)) (pe_calG C_law_expected_snapshot gd (hr.mono (by decide)) (by rfl) (pa_cons (pe_ix (ix_listK K rfl) (pv 5) (pe_un un_neg pe_int) (fun _ _ => rfl)) (pa_cons (pv 6) pa_nil))) (nomark _))
       pss_never
       pss_nil)
       (pss_one (ps_for PassesOwn.never rfl (pi_range1 (by rfl) T.range (pa_cons (pe_op op_add pe_int (pe_cal C_law_draw (hr.mono (by decide)) (by rfl) (pa_cons (pv 1) (pa_cons pe_int pa_nil)))) pa_nil)) (pg_name (i := 7) scLaw.nd rfl (.inl rfl))
       (pss_cons (ps_set (i := 8) scLaw.nd rfl (.inl rfl) (pe_cal C_law_random_action (hr.mono (by decide)) (by rfl) (pa_cons (pv 1) (pa_cons (pe_ix (ix_listK K rfl) (pv 5) (pe_un un_neg pe_int) (fun _ _ => rfl)) (pa_cons (pv 2) pa_nil)))))
        (pss_one (ps_if (pt_not (pt_val (pe_calG C_law_repeated_turn_holds gd (hr.mono (by decide)) (by rfl) (pa_cons (pv 4) (pa_cons (pv 5) (pa_cons (pv 6) (pa_cons (pv 8) pa_nil)))))))
        pss_never
        pss_nil))))))))
      (pss_one (ps_ret pe_bl))))), ?_⟩
    refine ⟨_, rfl, a, ns, rfl, hS, hlen, fun H1 s A B sm1 _ _ hS1 => ?_⟩
    refine ⟨by show 8 ≤ sizeLine; decide, fun wl hwl => ?_⟩
    have zw := hS1.ne hwl
    have hS2 := hS1.same (same_upd (o := .lst [.str "move", .str "move", .str "move", .str "enter", .str "enter", .str "leave", .str "set_target", .str "set_target"]) hwl)
    have ew : (upd H1 wl (.lst [.str "move", .str "move", .str "move", .str "enter", .str "enter", .str "leave", .str "set_target", .str "set_target"])) wl = some (.lst ((["move", "move", "move", "enter", "enter", "leave", "set_target", "set_target"] : List Str).map V.str)) := upd_same
    have aw : ∀ x ∈ (["move", "move", "move", "enter", "enter", "leave", "set_target", "set_target"] : List Str), x = "move" ∨ x = "enter" ∨ x = "leave" ∨ x = "set_target" := by decide +kernel
    have nw : (["move", "move", "move", "enter", "enter", "leave", "set_target", "set_target"] : List Str) ≠ [] := by simp
    have lw : (["move", "move", "move", "enter", "enter", "leave", "set_target", "set_target"] : List Str).length ≤ 100 := by decide
    generalize upd H1 wl (.lst [.str "move", .str "move", .str "move", .str "enter", .str "enter", .str "leave", .str "set_target", .str "set_target"]) = H2 at *
    generalize (["move", "move", "move", "enter", "enter", "leave", "set_target", "set_target"] : List Str) = ws at *
    refine ⟨2, rfl, by decide, by decide, for_range (lo := 0) (n := 2) (fun i σ H' => ∃ y3 y4 y5 y6 y7 y8, σ = [some (.ref a), some (.ref s), some (.ref wl), y3, y4, y5, y6, y7, y8] ∧ StreamAt H' s A B (2000 * i) ∧ H' wl = some (.lst (ws.map V.str))) ⟨_, _, _, _, _, _, rfl, hS2, ew⟩ ?_ ?_⟩
    · rintro i σ H3 hi ⟨y3, y4, y5, y6, y7, y8, rfl, hS3, ew3⟩
      refine ⟨_, rfl, s, A, B, 2000 * i, 8, 12, rfl, hS3, by omega, by decide, by decide, by decide, by decide, fun H4 l sn ls ld n D PP sw el n8 lP fr4 fls fld => ?_⟩
      have nls : wl ≠ ls := fun z => by rw [z, fls] at ew3; cases ew3
      have nld : wl ≠ ld := fun z => by rw [z, fld] at ew3; cases ew3
      have ew4 := fr4 _ _ zw.1.symm zw.2.1.symm ew3
      obtain ⟨xs, ys, st, ses, la, nx, lx, hs, acy⟩ := sw.ses
      obtain ⟨zs, t, els, zla, lzs, hL⟩ := sw.sts
      obtain ⟨ws', eld, acw⟩ := sw.dn
      have nsn : wl ≠ sn := by
        obtain ⟨dx, ts, td, tr, e, _⟩ := ses
        exact ne_of ew4 e (by intro z; cases z)
      refine ⟨l, _, rfl, SqL.of el, rfl, _, _, rfl, _, _, rfl, _, _, rfl, rfl, ?_⟩
      dsimp only [gName]
      refine ⟨_, rfl, sn, st, xs, ys, false, n, D, PP, PP, [], rfl, ses, la, hs, sw.s1, acy, sw.ok, by decide, fun H5 u5 => ⟨_, rfl, _, rfl, ls, _, -1, _, rfl, rfl, SqL.of (u5 _ _ els), zla, _, rfl, t, ld, ws', n, D, PP, PP, [], rfl, (hL.tk (Tk.of u5)).st, sw.s1, u5 _ _ eld, acw.tk (Tk.of u5), sw.ok, by decide, fun H6 u6 => ⟨rfl, _, rfl, ?_⟩⟩⟩
      rw [decide_eq_true rfl]
      refine iteF ?_
      have u56 := u5.trans u6
      have sw6 := sw.same u56
      have ew6 := u56 _ _ ew4
      refine ⟨_, rfl, s, A, B, 2000 * i + 100, 31, rfl, sw6.str, by omega, by decide, by decide, fun H7 r hS7 fr7 r0 r1 => ?_⟩
      have sw7 := sw6.fr fr7 hS7
      have ew7 := fr7 _ _ zw.1.symm zw.2.1.symm ew6
      refine ⟨_, _, rfl, rfl, 10 + r, rfl, by omega, by omega, for_range (lo := 0) (n := (10 + r).toNat) (fun k σ' H' => ∃ y7 y8 n' D' P' G' acts, σ' = [some (.ref a), some (.ref s), some (.ref wl), some (.int (0 + (i : Int))), some (.ref sn), some (.ref ls), some (.ref ld), y7, y8] ∧ SW K H' CS s A B (2000 * i + 101 + 10 * k) sn ls ld n' D' P' G' acts ∧ acts.length ≤ k ∧ H' wl = some (.lst (ws.map V.str))) ⟨_, _, n, D, PP, PP, [], rfl, sw7, Nat.le_refl _, ew7⟩ ?_ ?_⟩
      · rintro k σ' H8 hk ⟨y7, y8, n', D', P', G', acts, rfl, sw8, la8, ew8⟩
        obtain ⟨zs8, t8, els8, zla8, lzs8, hL8⟩ := sw8.sts
        refine ⟨_, rfl, _, rfl, _, rfl, ls, _, -1, _, rfl, rfl, SqL.of els8, zla8, _, rfl, s, A, B, t8, wl, 2000 * i + 101 + 10 * k, n', D', P', G', ws, rfl, sw8.str, by omega, hL8, sw8.s1, sw8.n1, sw8.l12, ew8, zw, nw, lw, aw, fun H9 t9 a9 hS9 fr9 ha9 oa9 => ?_⟩
        have sw9 := sw8.fr fr9 hS9
        have ew9 := fr9 _ _ zw.1.symm zw.2.1.symm ew8
        refine ⟨_, rfl, _, rfl, _, rfl, _, rfl, s, A, B, sn, ls, ld, t9, _, n', D', P', G', acts, a9, rfl, sw9, by omega, ha9, oa9, fun H10 n2 D2 P2 G2 acts2 sw10 le10 but => ⟨_, rfl, iteF ?_⟩⟩
        exact ⟨_, _, n2, D2, P2, G2, acts2, rfl, sw10, by omega, but _ _ nsn nls nld ew9⟩
      · rintro σ' H8 ⟨y7, y8, n', D', P', G', acts, rfl, sw8, la8, ew8⟩
        exact ⟨_, _, _, _, _, _, rfl, sw8.str.mono (by omega), ew8⟩
    · rintro σ H3 ⟨y3, y4, y5, y6, y7, y8, rfl, hS3, ew3⟩
      exact q _
end
end Fw
set_option maxHeartbeats 8000000
namespace Fw
open PySem L2
theorem all_mk {P : Program} {w : World} {K : PySem.W.Frag} {h : Heap} {mg : Str → Option Value} {fa : Addr} (X : K.In h) (G : h.Ns mainGlobals mg) (hfa : mg "law" = some (.ref fa))
    {tk0 : Tok} (q0 : PySem.W.nsIn K mainGlobals "MAX_ROOMS" = some (some (.int 8 tk0)))
    {tk1 : Tok} (q1 : PySem.W.nsIn K mainGlobals "MAX_PEOPLE" = some (some (.int 12 tk1)))
    {tk2 : Tok} (q2 : PySem.W.nsIn K mainGlobals "MAX_ACTIONS" = some (some (.int 60 tk2)))
    {tk3 : Tok} (q3 : PySem.W.nsIn K mainGlobals "LONGEST_NAME" = some (some (.int 8 tk3)))
    {EE NH : Addr} {nmH qnH : Str} {bsH subH : List Value} {snH : List Str} {abH : Bool} {colH : Option Bool} {ddH : Option Addr} {pH qH rH sH tH : Option Value} (uHEa : PySem.W.nsIn K mainGlobals "HouseError" = some (some (.ref EE))) (uHEb : PySem.W.subIn K (.ref EE) (.type "BaseException") = some true) (uHEc : K.lookup EE = some (excClassObj nmH qnH EE NH bsH [.type "ValueError", .type "Exception", .type "BaseException", .type "object"] true snH subH abH colH ddH pH qH rH sH tH "ValueError.__new__")) (uHEd : PySem.W.typeIn K (.ref EE) = some (.type "type"))
    {CUnknownPerson gUnknownPerson NUnknownPerson : Addr} {nmUnknownPerson qnUnknownPerson : Str} {bsUnknownPerson subUnknownPerson : List Value} {snUnknownPerson : List Str} {abUnknownPerson : Bool} {colUnknownPerson : Option Bool} {ddUnknownPerson : Option Addr} {pUnknownPerson qUnknownPerson rUnknownPerson sUnknownPerson tUnknownPerson : Option Value} {gdUnknownPerson gaUnknownPerson : Option Addr} {gsUnknownPerson : Array (Option Value)} {goUnknownPerson gkUnknownPerson gvUnknownPerson gpUnknownPerson gcUnknownPerson gtUnknownPerson : Value}
    (uUnknownPersona : PySem.W.nsIn K mainGlobals "UnknownPerson" = some (some (.ref CUnknownPerson)))
    (uUnknownPersonb : K.lookup CUnknownPerson = some (excClassObj nmUnknownPerson qnUnknownPerson CUnknownPerson NUnknownPerson bsUnknownPerson (above EE) true snUnknownPerson subUnknownPerson abUnknownPerson colUnknownPerson ddUnknownPerson pUnknownPerson qUnknownPerson rUnknownPerson sUnknownPerson tUnknownPerson "ValueError.__new__"))
    (uUnknownPersonc : PySem.W.findIn K (.ref CUnknownPerson) "__setattr__" = some (some (.builtin "object.__setattr__"))) (uUnknownPersond : PySem.W.findIn K (.ref CUnknownPerson) "__getattribute__" = some (some (.builtin "BaseException.__getattribute__"))) (uUnknownPersone : PySem.W.findIn K (.ref CUnknownPerson) "__getattr__" = some none)
    (uUnknownPersonf : PySem.W.findIn K (.ref CUnknownPerson) "__init__" = some (some (.ref gUnknownPerson))) (uUnknownPersong : PySem.W.typeIn K (.ref gUnknownPerson) = some (.type "function"))
    (uUnknownPersonh : K.lookup gUnknownPerson = some ⟨goUnknownPerson, gdUnknownPerson, .func (PySem.W.fnOf "__init__" "UnknownPerson.__init__" (defArgs iUnknownPerson) (defBody iUnknownPerson) (defScope iUnknownPerson) .none gkUnknownPerson gvUnknownPerson gpUnknownPerson gaUnknownPerson gcUnknownPerson gtUnknownPerson), gsUnknownPerson⟩)
    (uUnknownPersoni : PySem.W.codeIn K gcUnknownPerson "UnknownPerson.__init__" = true) (uUnknownPersonj : PySem.W.keepIn K (.ref gUnknownPerson) = true) (uUnknownPersonk : PySem.W.keepIn K (.ref CUnknownPerson) = true) (uUnknownPersonl : PySem.W.typeIn K (.ref CUnknownPerson) = some (.type "type")) (uUnknownPersonm : PySem.W.hasDictIn K CUnknownPerson = true)
    (uUnknownPersonn : PySem.W.findIn K (.ref CUnknownPerson) "__class__" = some (some (.builtin "object.__class__"))) (uUnknownPersono : PySem.W.findIn K (.ref CUnknownPerson) "name" = some none)
    (uUnknownPersonp : PySem.W.specialIn K (.builtin "object.__class__") "__get__" = some (some (.builtin "getset_descriptor.__get__"))) (uUnknownPersonq : PySem.W.takesIn K (.builtin "object.__class__") = some true)
    {CInvalidRoom gInvalidRoom NInvalidRoom : Addr} {nmInvalidRoom qnInvalidRoom : Str} {bsInvalidRoom subInvalidRoom : List Value} {snInvalidRoom : List Str} {abInvalidRoom : Bool} {colInvalidRoom : Option Bool} {ddInvalidRoom : Option Addr} {pInvalidRoom qInvalidRoom rInvalidRoom sInvalidRoom tInvalidRoom : Option Value} {gdInvalidRoom gaInvalidRoom : Option Addr} {gsInvalidRoom : Array (Option Value)} {goInvalidRoom gkInvalidRoom gvInvalidRoom gpInvalidRoom gcInvalidRoom gtInvalidRoom : Value}
    (uInvalidRooma : PySem.W.nsIn K mainGlobals "InvalidRoom" = some (some (.ref CInvalidRoom)))
    (uInvalidRoomb : K.lookup CInvalidRoom = some (excClassObj nmInvalidRoom qnInvalidRoom CInvalidRoom NInvalidRoom bsInvalidRoom (above EE) true snInvalidRoom subInvalidRoom abInvalidRoom colInvalidRoom ddInvalidRoom pInvalidRoom qInvalidRoom rInvalidRoom sInvalidRoom tInvalidRoom "ValueError.__new__"))
    (uInvalidRoomc : PySem.W.findIn K (.ref CInvalidRoom) "__setattr__" = some (some (.builtin "object.__setattr__"))) (uInvalidRoomd : PySem.W.findIn K (.ref CInvalidRoom) "__getattribute__" = some (some (.builtin "BaseException.__getattribute__"))) (uInvalidRoome : PySem.W.findIn K (.ref CInvalidRoom) "__getattr__" = some none)
    (uInvalidRoomf : PySem.W.findIn K (.ref CInvalidRoom) "__init__" = some (some (.ref gInvalidRoom))) (uInvalidRoomg : PySem.W.typeIn K (.ref gInvalidRoom) = some (.type "function"))
    (uInvalidRoomh : K.lookup gInvalidRoom = some ⟨goInvalidRoom, gdInvalidRoom, .func (PySem.W.fnOf "__init__" "InvalidRoom.__init__" (defArgs iInvalidRoom) (defBody iInvalidRoom) (defScope iInvalidRoom) .none gkInvalidRoom gvInvalidRoom gpInvalidRoom gaInvalidRoom gcInvalidRoom gtInvalidRoom), gsInvalidRoom⟩)
    (uInvalidRoomi : PySem.W.codeIn K gcInvalidRoom "InvalidRoom.__init__" = true) (uInvalidRoomj : PySem.W.keepIn K (.ref gInvalidRoom) = true) (uInvalidRoomk : PySem.W.keepIn K (.ref CInvalidRoom) = true) (uInvalidRooml : PySem.W.typeIn K (.ref CInvalidRoom) = some (.type "type")) (uInvalidRoomm : PySem.W.hasDictIn K CInvalidRoom = true)
    (uInvalidRoomn : PySem.W.findIn K (.ref CInvalidRoom) "__class__" = some (some (.builtin "object.__class__"))) (uInvalidRoomo : PySem.W.findIn K (.ref CInvalidRoom) "room" = some none)
    (uInvalidRoomp : PySem.W.specialIn K (.builtin "object.__class__") "__get__" = some (some (.builtin "getset_descriptor.__get__"))) (uInvalidRoomq : PySem.W.takesIn K (.builtin "object.__class__") = some true)
    {CNotAdjacent gNotAdjacent NNotAdjacent : Addr} {nmNotAdjacent qnNotAdjacent : Str} {bsNotAdjacent subNotAdjacent : List Value} {snNotAdjacent : List Str} {abNotAdjacent : Bool} {colNotAdjacent : Option Bool} {ddNotAdjacent : Option Addr} {pNotAdjacent qNotAdjacent rNotAdjacent sNotAdjacent tNotAdjacent : Option Value} {gdNotAdjacent gaNotAdjacent : Option Addr} {gsNotAdjacent : Array (Option Value)} {goNotAdjacent gkNotAdjacent gvNotAdjacent gpNotAdjacent gcNotAdjacent gtNotAdjacent : Value}
    (uNotAdjacenta : PySem.W.nsIn K mainGlobals "NotAdjacent" = some (some (.ref CNotAdjacent)))
    (uNotAdjacentb : K.lookup CNotAdjacent = some (excClassObj nmNotAdjacent qnNotAdjacent CNotAdjacent NNotAdjacent bsNotAdjacent (above EE) true snNotAdjacent subNotAdjacent abNotAdjacent colNotAdjacent ddNotAdjacent pNotAdjacent qNotAdjacent rNotAdjacent sNotAdjacent tNotAdjacent "ValueError.__new__"))
    (uNotAdjacentc : PySem.W.findIn K (.ref CNotAdjacent) "__setattr__" = some (some (.builtin "object.__setattr__"))) (uNotAdjacentd : PySem.W.findIn K (.ref CNotAdjacent) "__getattribute__" = some (some (.builtin "BaseException.__getattribute__"))) (uNotAdjacente : PySem.W.findIn K (.ref CNotAdjacent) "__getattr__" = some none)
    (uNotAdjacentf : PySem.W.findIn K (.ref CNotAdjacent) "__init__" = some (some (.ref gNotAdjacent))) (uNotAdjacentg : PySem.W.typeIn K (.ref gNotAdjacent) = some (.type "function"))
    (uNotAdjacenth : K.lookup gNotAdjacent = some ⟨goNotAdjacent, gdNotAdjacent, .func (PySem.W.fnOf "__init__" "NotAdjacent.__init__" (defArgs iNotAdjacent) (defBody iNotAdjacent) (defScope iNotAdjacent) .none gkNotAdjacent gvNotAdjacent gpNotAdjacent gaNotAdjacent gcNotAdjacent gtNotAdjacent), gsNotAdjacent⟩)
    (uNotAdjacenti : PySem.W.codeIn K gcNotAdjacent "NotAdjacent.__init__" = true) (uNotAdjacentj : PySem.W.keepIn K (.ref gNotAdjacent) = true) (uNotAdjacentk : PySem.W.keepIn K (.ref CNotAdjacent) = true) (uNotAdjacentl : PySem.W.typeIn K (.ref CNotAdjacent) = some (.type "type")) (uNotAdjacentm : PySem.W.hasDictIn K CNotAdjacent = true)
    (uNotAdjacentn : PySem.W.findIn K (.ref CNotAdjacent) "__class__" = some (some (.builtin "object.__class__"))) (uNotAdjacento : PySem.W.findIn K (.ref CNotAdjacent) "room" = some none)
    (uNotAdjacentp : PySem.W.specialIn K (.builtin "object.__class__") "__get__" = some (some (.builtin "getset_descriptor.__get__"))) (uNotAdjacentq : PySem.W.takesIn K (.builtin "object.__class__") = some true)
    {CEmptyRoom gEmptyRoom NEmptyRoom : Addr} {nmEmptyRoom qnEmptyRoom : Str} {bsEmptyRoom subEmptyRoom : List Value} {snEmptyRoom : List Str} {abEmptyRoom : Bool} {colEmptyRoom : Option Bool} {ddEmptyRoom : Option Addr} {pEmptyRoom qEmptyRoom rEmptyRoom sEmptyRoom tEmptyRoom : Option Value} {gdEmptyRoom gaEmptyRoom : Option Addr} {gsEmptyRoom : Array (Option Value)} {goEmptyRoom gkEmptyRoom gvEmptyRoom gpEmptyRoom gcEmptyRoom gtEmptyRoom : Value}
    (uEmptyRooma : PySem.W.nsIn K mainGlobals "EmptyRoom" = some (some (.ref CEmptyRoom)))
    (uEmptyRoomb : K.lookup CEmptyRoom = some (excClassObj nmEmptyRoom qnEmptyRoom CEmptyRoom NEmptyRoom bsEmptyRoom (above EE) true snEmptyRoom subEmptyRoom abEmptyRoom colEmptyRoom ddEmptyRoom pEmptyRoom qEmptyRoom rEmptyRoom sEmptyRoom tEmptyRoom "ValueError.__new__"))
    (uEmptyRoomc : PySem.W.findIn K (.ref CEmptyRoom) "__setattr__" = some (some (.builtin "object.__setattr__"))) (uEmptyRoomd : PySem.W.findIn K (.ref CEmptyRoom) "__getattribute__" = some (some (.builtin "BaseException.__getattribute__"))) (uEmptyRoome : PySem.W.findIn K (.ref CEmptyRoom) "__getattr__" = some none)
    (uEmptyRoomf : PySem.W.findIn K (.ref CEmptyRoom) "__init__" = some (some (.ref gEmptyRoom))) (uEmptyRoomg : PySem.W.typeIn K (.ref gEmptyRoom) = some (.type "function"))
    (uEmptyRoomh : K.lookup gEmptyRoom = some ⟨goEmptyRoom, gdEmptyRoom, .func (PySem.W.fnOf "__init__" "EmptyRoom.__init__" (defArgs iEmptyRoom) (defBody iEmptyRoom) (defScope iEmptyRoom) .none gkEmptyRoom gvEmptyRoom gpEmptyRoom gaEmptyRoom gcEmptyRoom gtEmptyRoom), gsEmptyRoom⟩)
    (uEmptyRoomi : PySem.W.codeIn K gcEmptyRoom "EmptyRoom.__init__" = true) (uEmptyRoomj : PySem.W.keepIn K (.ref gEmptyRoom) = true) (uEmptyRoomk : PySem.W.keepIn K (.ref CEmptyRoom) = true) (uEmptyRooml : PySem.W.typeIn K (.ref CEmptyRoom) = some (.type "type")) (uEmptyRoomm : PySem.W.hasDictIn K CEmptyRoom = true)
    (uEmptyRoomn : PySem.W.findIn K (.ref CEmptyRoom) "__class__" = some (some (.builtin "object.__class__"))) (uEmptyRoomo : PySem.W.findIn K (.ref CEmptyRoom) "room" = some none)
    (uEmptyRoomp : PySem.W.specialIn K (.builtin "object.__class__") "__get__" = some (some (.builtin "getset_descriptor.__get__"))) (uEmptyRoomq : PySem.W.takesIn K (.builtin "object.__class__") = some true)
    {CInvalidName gInvalidName NInvalidName : Addr} {nmInvalidName qnInvalidName : Str} {bsInvalidName subInvalidName : List Value} {snInvalidName : List Str} {abInvalidName : Bool} {colInvalidName : Option Bool} {ddInvalidName : Option Addr} {pInvalidName qInvalidName rInvalidName sInvalidName tInvalidName : Option Value} {gdInvalidName gaInvalidName : Option Addr} {gsInvalidName : Array (Option Value)} {goInvalidName gkInvalidName gvInvalidName gpInvalidName gcInvalidName gtInvalidName : Value}
    (uInvalidNamea : PySem.W.nsIn K mainGlobals "InvalidName" = some (some (.ref CInvalidName)))
    (uInvalidNameb : K.lookup CInvalidName = some (excClassObj nmInvalidName qnInvalidName CInvalidName NInvalidName bsInvalidName (above EE) true snInvalidName subInvalidName abInvalidName colInvalidName ddInvalidName pInvalidName qInvalidName rInvalidName sInvalidName tInvalidName "ValueError.__new__"))
    (uInvalidNamec : PySem.W.findIn K (.ref CInvalidName) "__setattr__" = some (some (.builtin "object.__setattr__"))) (uInvalidNamed : PySem.W.findIn K (.ref CInvalidName) "__getattribute__" = some (some (.builtin "BaseException.__getattribute__"))) (uInvalidNamee : PySem.W.findIn K (.ref CInvalidName) "__getattr__" = some none)
    (uInvalidNamef : PySem.W.findIn K (.ref CInvalidName) "__init__" = some (some (.ref gInvalidName))) (uInvalidNameg : PySem.W.typeIn K (.ref gInvalidName) = some (.type "function"))
    (uInvalidNameh : K.lookup gInvalidName = some ⟨goInvalidName, gdInvalidName, .func (PySem.W.fnOf "__init__" "InvalidName.__init__" (defArgs iInvalidName) (defBody iInvalidName) (defScope iInvalidName) .none gkInvalidName gvInvalidName gpInvalidName gaInvalidName gcInvalidName gtInvalidName), gsInvalidName⟩)
    (uInvalidNamei : PySem.W.codeIn K gcInvalidName "InvalidName.__init__" = true) (uInvalidNamej : PySem.W.keepIn K (.ref gInvalidName) = true) (uInvalidNamek : PySem.W.keepIn K (.ref CInvalidName) = true) (uInvalidNamel : PySem.W.typeIn K (.ref CInvalidName) = some (.type "type")) (uInvalidNamem : PySem.W.hasDictIn K CInvalidName = true)
    (uInvalidNamen : PySem.W.findIn K (.ref CInvalidName) "__class__" = some (some (.builtin "object.__class__"))) (uInvalidNameo : PySem.W.findIn K (.ref CInvalidName) "name" = some none)
    (uInvalidNamep : PySem.W.specialIn K (.builtin "object.__class__") "__get__" = some (some (.builtin "getset_descriptor.__get__"))) (uInvalidNameq : PySem.W.takesIn K (.builtin "object.__class__") = some true)
    {CDuplicateName gDuplicateName NDuplicateName : Addr} {nmDuplicateName qnDuplicateName : Str} {bsDuplicateName subDuplicateName : List Value} {snDuplicateName : List Str} {abDuplicateName : Bool} {colDuplicateName : Option Bool} {ddDuplicateName : Option Addr} {pDuplicateName qDuplicateName rDuplicateName sDuplicateName tDuplicateName : Option Value} {gdDuplicateName gaDuplicateName : Option Addr} {gsDuplicateName : Array (Option Value)} {goDuplicateName gkDuplicateName gvDuplicateName gpDuplicateName gcDuplicateName gtDuplicateName : Value}
    (uDuplicateNamea : PySem.W.nsIn K mainGlobals "DuplicateName" = some (some (.ref CDuplicateName)))
    (uDuplicateNameb : K.lookup CDuplicateName = some (excClassObj nmDuplicateName qnDuplicateName CDuplicateName NDuplicateName bsDuplicateName (above EE) true snDuplicateName subDuplicateName abDuplicateName colDuplicateName ddDuplicateName pDuplicateName qDuplicateName rDuplicateName sDuplicateName tDuplicateName "ValueError.__new__"))
    (uDuplicateNamec : PySem.W.findIn K (.ref CDuplicateName) "__setattr__" = some (some (.builtin "object.__setattr__"))) (uDuplicateNamed : PySem.W.findIn K (.ref CDuplicateName) "__getattribute__" = some (some (.builtin "BaseException.__getattribute__"))) (uDuplicateNamee : PySem.W.findIn K (.ref CDuplicateName) "__getattr__" = some none)
    (uDuplicateNamef : PySem.W.findIn K (.ref CDuplicateName) "__init__" = some (some (.ref gDuplicateName))) (uDuplicateNameg : PySem.W.typeIn K (.ref gDuplicateName) = some (.type "function"))
    (uDuplicateNameh : K.lookup gDuplicateName = some ⟨goDuplicateName, gdDuplicateName, .func (PySem.W.fnOf "__init__" "DuplicateName.__init__" (defArgs iDuplicateName) (defBody iDuplicateName) (defScope iDuplicateName) .none gkDuplicateName gvDuplicateName gpDuplicateName gaDuplicateName gcDuplicateName gtDuplicateName), gsDuplicateName⟩)
    (uDuplicateNamei : PySem.W.codeIn K gcDuplicateName "DuplicateName.__init__" = true) (uDuplicateNamej : PySem.W.keepIn K (.ref gDuplicateName) = true) (uDuplicateNamek : PySem.W.keepIn K (.ref CDuplicateName) = true) (uDuplicateNamel : PySem.W.typeIn K (.ref CDuplicateName) = some (.type "type")) (uDuplicateNamem : PySem.W.hasDictIn K CDuplicateName = true)
    (uDuplicateNamen : PySem.W.findIn K (.ref CDuplicateName) "__class__" = some (some (.builtin "object.__class__"))) (uDuplicateNameo : PySem.W.findIn K (.ref CDuplicateName) "name" = some none)
    (uDuplicateNamep : PySem.W.specialIn K (.builtin "object.__class__") "__get__" = some (some (.builtin "getset_descriptor.__get__"))) (uDuplicateNameq : PySem.W.takesIn K (.builtin "object.__class__") = some true)
    {CLimitReached gLimitReached NLimitReached : Addr} {nmLimitReached qnLimitReached : Str} {bsLimitReached subLimitReached : List Value} {snLimitReached : List Str} {abLimitReached : Bool} {colLimitReached : Option Bool} {ddLimitReached : Option Addr} {pLimitReached qLimitReached rLimitReached sLimitReached tLimitReached : Option Value} {gdLimitReached gaLimitReached : Option Addr} {gsLimitReached : Array (Option Value)} {goLimitReached gkLimitReached gvLimitReached gpLimitReached gcLimitReached gtLimitReached : Value}
    (uLimitReacheda : PySem.W.nsIn K mainGlobals "LimitReached" = some (some (.ref CLimitReached)))
    (uLimitReachedb : K.lookup CLimitReached = some (excClassObj nmLimitReached qnLimitReached CLimitReached NLimitReached bsLimitReached (above EE) true snLimitReached subLimitReached abLimitReached colLimitReached ddLimitReached pLimitReached qLimitReached rLimitReached sLimitReached tLimitReached "ValueError.__new__"))
    (uLimitReachedc : PySem.W.findIn K (.ref CLimitReached) "__setattr__" = some (some (.builtin "object.__setattr__"))) (uLimitReachedd : PySem.W.findIn K (.ref CLimitReached) "__getattribute__" = some (some (.builtin "BaseException.__getattribute__"))) (uLimitReachede : PySem.W.findIn K (.ref CLimitReached) "__getattr__" = some none)
    (uLimitReachedf : PySem.W.findIn K (.ref CLimitReached) "__init__" = some (some (.ref gLimitReached))) (uLimitReachedg : PySem.W.typeIn K (.ref gLimitReached) = some (.type "function"))
    (uLimitReachedh : K.lookup gLimitReached = some ⟨goLimitReached, gdLimitReached, .func (PySem.W.fnOf "__init__" "LimitReached.__init__" (defArgs iLimitReached) (defBody iLimitReached) (defScope iLimitReached) .none gkLimitReached gvLimitReached gpLimitReached gaLimitReached gcLimitReached gtLimitReached), gsLimitReached⟩)
    (uLimitReachedi : PySem.W.codeIn K gcLimitReached "LimitReached.__init__" = true) (uLimitReachedj : PySem.W.keepIn K (.ref gLimitReached) = true) (uLimitReachedk : PySem.W.keepIn K (.ref CLimitReached) = true) (uLimitReachedl : PySem.W.typeIn K (.ref CLimitReached) = some (.type "type")) (uLimitReachedm : PySem.W.hasDictIn K CLimitReached = true)
    (uLimitReachedn : PySem.W.findIn K (.ref CLimitReached) "__class__" = some (some (.builtin "object.__class__"))) (uLimitReachedo : PySem.W.findIn K (.ref CLimitReached) "limit" = some none)
    (uLimitReachedp : PySem.W.specialIn K (.builtin "object.__class__") "__get__" = some (some (.builtin "getset_descriptor.__get__"))) (uLimitReachedq : PySem.W.takesIn K (.builtin "object.__class__") = some true)
    {CAlreadyAdjacent gAlreadyAdjacent NAlreadyAdjacent : Addr} {nmAlreadyAdjacent qnAlreadyAdjacent : Str} {bsAlreadyAdjacent subAlreadyAdjacent : List Value} {snAlreadyAdjacent : List Str} {abAlreadyAdjacent : Bool} {colAlreadyAdjacent : Option Bool} {ddAlreadyAdjacent : Option Addr} {pAlreadyAdjacent qAlreadyAdjacent rAlreadyAdjacent sAlreadyAdjacent tAlreadyAdjacent : Option Value} {gdAlreadyAdjacent gaAlreadyAdjacent : Option Addr} {gsAlreadyAdjacent : Array (Option Value)} {goAlreadyAdjacent gkAlreadyAdjacent gvAlreadyAdjacent gpAlreadyAdjacent gcAlreadyAdjacent gtAlreadyAdjacent : Value}
    (uAlreadyAdjacenta : PySem.W.nsIn K mainGlobals "AlreadyAdjacent" = some (some (.ref CAlreadyAdjacent)))
    (uAlreadyAdjacentb : K.lookup CAlreadyAdjacent = some (excClassObj nmAlreadyAdjacent qnAlreadyAdjacent CAlreadyAdjacent NAlreadyAdjacent bsAlreadyAdjacent (above EE) true snAlreadyAdjacent subAlreadyAdjacent abAlreadyAdjacent colAlreadyAdjacent ddAlreadyAdjacent pAlreadyAdjacent qAlreadyAdjacent rAlreadyAdjacent sAlreadyAdjacent tAlreadyAdjacent "ValueError.__new__"))
    (uAlreadyAdjacentc : PySem.W.findIn K (.ref CAlreadyAdjacent) "__setattr__" = some (some (.builtin "object.__setattr__"))) (uAlreadyAdjacentd : PySem.W.findIn K (.ref CAlreadyAdjacent) "__getattribute__" = some (some (.builtin "BaseException.__getattribute__"))) (uAlreadyAdjacente : PySem.W.findIn K (.ref CAlreadyAdjacent) "__getattr__" = some none)
    (uAlreadyAdjacentf : PySem.W.findIn K (.ref CAlreadyAdjacent) "__init__" = some (some (.ref gAlreadyAdjacent))) (uAlreadyAdjacentg : PySem.W.typeIn K (.ref gAlreadyAdjacent) = some (.type "function"))
    (uAlreadyAdjacenth : K.lookup gAlreadyAdjacent = some ⟨goAlreadyAdjacent, gdAlreadyAdjacent, .func (PySem.W.fnOf "__init__" "AlreadyAdjacent.__init__" (defArgs iAlreadyAdjacent) (defBody iAlreadyAdjacent) (defScope iAlreadyAdjacent) .none gkAlreadyAdjacent gvAlreadyAdjacent gpAlreadyAdjacent gaAlreadyAdjacent gcAlreadyAdjacent gtAlreadyAdjacent), gsAlreadyAdjacent⟩)
    (uAlreadyAdjacenti : PySem.W.codeIn K gcAlreadyAdjacent "AlreadyAdjacent.__init__" = true) (uAlreadyAdjacentj : PySem.W.keepIn K (.ref gAlreadyAdjacent) = true) (uAlreadyAdjacentk : PySem.W.keepIn K (.ref CAlreadyAdjacent) = true) (uAlreadyAdjacentl : PySem.W.typeIn K (.ref CAlreadyAdjacent) = some (.type "type")) (uAlreadyAdjacentm : PySem.W.hasDictIn K CAlreadyAdjacent = true)
    (uAlreadyAdjacentn : PySem.W.findIn K (.ref CAlreadyAdjacent) "__class__" = some (some (.builtin "object.__class__"))) (uAlreadyAdjacento : PySem.W.findIn K (.ref CAlreadyAdjacent) "room" = some none)
    (uAlreadyAdjacentp : PySem.W.specialIn K (.builtin "object.__class__") "__get__" = some (some (.builtin "getset_descriptor.__get__"))) (uAlreadyAdjacentq : PySem.W.takesIn K (.builtin "object.__class__") = some true)
    {CWouldFormCycle gWouldFormCycle NWouldFormCycle : Addr} {nmWouldFormCycle qnWouldFormCycle : Str} {bsWouldFormCycle subWouldFormCycle : List Value} {snWouldFormCycle : List Str} {abWouldFormCycle : Bool} {colWouldFormCycle : Option Bool} {ddWouldFormCycle : Option Addr} {pWouldFormCycle qWouldFormCycle rWouldFormCycle sWouldFormCycle tWouldFormCycle : Option Value} {gdWouldFormCycle gaWouldFormCycle : Option Addr} {gsWouldFormCycle : Array (Option Value)} {goWouldFormCycle gkWouldFormCycle gvWouldFormCycle gpWouldFormCycle gcWouldFormCycle gtWouldFormCycle : Value}
    (uWouldFormCyclea : PySem.W.nsIn K mainGlobals "WouldFormCycle" = some (some (.ref CWouldFormCycle)))
    (uWouldFormCycleb : K.lookup CWouldFormCycle = some (excClassObj nmWouldFormCycle qnWouldFormCycle CWouldFormCycle NWouldFormCycle bsWouldFormCycle (above EE) true snWouldFormCycle subWouldFormCycle abWouldFormCycle colWouldFormCycle ddWouldFormCycle pWouldFormCycle qWouldFormCycle rWouldFormCycle sWouldFormCycle tWouldFormCycle "ValueError.__new__"))
    (uWouldFormCyclec : PySem.W.findIn K (.ref CWouldFormCycle) "__setattr__" = some (some (.builtin "object.__setattr__"))) (uWouldFormCycled : PySem.W.findIn K (.ref CWouldFormCycle) "__getattribute__" = some (some (.builtin "BaseException.__getattribute__"))) (uWouldFormCyclee : PySem.W.findIn K (.ref CWouldFormCycle) "__getattr__" = some none)
    (uWouldFormCyclef : PySem.W.findIn K (.ref CWouldFormCycle) "__init__" = some (some (.ref gWouldFormCycle))) (uWouldFormCycleg : PySem.W.typeIn K (.ref gWouldFormCycle) = some (.type "function"))
    (uWouldFormCycleh : K.lookup gWouldFormCycle = some ⟨goWouldFormCycle, gdWouldFormCycle, .func (PySem.W.fnOf "__init__" "WouldFormCycle.__init__" (defArgs iWouldFormCycle) (defBody iWouldFormCycle) (defScope iWouldFormCycle) .none gkWouldFormCycle gvWouldFormCycle gpWouldFormCycle gaWouldFormCycle gcWouldFormCycle gtWouldFormCycle), gsWouldFormCycle⟩)
    (uWouldFormCyclei : PySem.W.codeIn K gcWouldFormCycle "WouldFormCycle.__init__" = true) (uWouldFormCyclej : PySem.W.keepIn K (.ref gWouldFormCycle) = true) (uWouldFormCyclek : PySem.W.keepIn K (.ref CWouldFormCycle) = true) (uWouldFormCyclel : PySem.W.typeIn K (.ref CWouldFormCycle) = some (.type "type")) (uWouldFormCyclem : PySem.W.hasDictIn K CWouldFormCycle = true)
    (uWouldFormCyclen : PySem.W.findIn K (.ref CWouldFormCycle) "__class__" = some (some (.builtin "object.__class__"))) (uWouldFormCycleo : PySem.W.findIn K (.ref CWouldFormCycle) "room" = some none)
    (uWouldFormCyclep : PySem.W.specialIn K (.builtin "object.__class__") "__get__" = some (some (.builtin "getset_descriptor.__get__"))) (uWouldFormCycleq : PySem.W.takesIn K (.builtin "object.__class__") = some true)
    {CNothingToUndo gNothingToUndo NNothingToUndo : Addr} {nmNothingToUndo qnNothingToUndo : Str} {bsNothingToUndo subNothingToUndo : List Value} {snNothingToUndo : List Str} {abNothingToUndo : Bool} {colNothingToUndo : Option Bool} {ddNothingToUndo : Option Addr} {pNothingToUndo qNothingToUndo rNothingToUndo sNothingToUndo tNothingToUndo : Option Value} {gdNothingToUndo gaNothingToUndo : Option Addr} {gsNothingToUndo : Array (Option Value)} {goNothingToUndo gkNothingToUndo gvNothingToUndo gpNothingToUndo gcNothingToUndo gtNothingToUndo : Value}
    (uNothingToUndoa : PySem.W.nsIn K mainGlobals "NothingToUndo" = some (some (.ref CNothingToUndo)))
    (uNothingToUndob : K.lookup CNothingToUndo = some (excClassObj nmNothingToUndo qnNothingToUndo CNothingToUndo NNothingToUndo bsNothingToUndo (above EE) true snNothingToUndo subNothingToUndo abNothingToUndo colNothingToUndo ddNothingToUndo pNothingToUndo qNothingToUndo rNothingToUndo sNothingToUndo tNothingToUndo "ValueError.__new__"))
    (uNothingToUndoc : PySem.W.findIn K (.ref CNothingToUndo) "__setattr__" = some (some (.builtin "object.__setattr__"))) (uNothingToUndod : PySem.W.findIn K (.ref CNothingToUndo) "__getattribute__" = some (some (.builtin "BaseException.__getattribute__"))) (uNothingToUndoe : PySem.W.findIn K (.ref CNothingToUndo) "__getattr__" = some none)
    (uNothingToUndof : PySem.W.findIn K (.ref CNothingToUndo) "__init__" = some (some (.ref gNothingToUndo))) (uNothingToUndog : PySem.W.typeIn K (.ref gNothingToUndo) = some (.type "function"))
    (uNothingToUndoh : K.lookup gNothingToUndo = some ⟨goNothingToUndo, gdNothingToUndo, .func (PySem.W.fnOf "__init__" "NothingToUndo.__init__" (defArgs iNothingToUndo) (defBody iNothingToUndo) (defScope iNothingToUndo) .none gkNothingToUndo gvNothingToUndo gpNothingToUndo gaNothingToUndo gcNothingToUndo gtNothingToUndo), gsNothingToUndo⟩)
    (uNothingToUndoi : PySem.W.codeIn K gcNothingToUndo "NothingToUndo.__init__" = true) (uNothingToUndoj : PySem.W.keepIn K (.ref gNothingToUndo) = true) (uNothingToUndok : PySem.W.keepIn K (.ref CNothingToUndo) = true) (uNothingToUndol : PySem.W.typeIn K (.ref CNothingToUndo) = some (.type "type")) (uNothingToUndom : PySem.W.hasDictIn K CNothingToUndo = true)
    (uNothingToUndon : PySem.W.findIn K (.ref CNothingToUndo) "__class__" = some (some (.builtin "object.__class__")))
    (uNothingToUndop : PySem.W.specialIn K (.builtin "object.__class__") "__get__" = some (some (.builtin "getset_descriptor.__get__"))) (uNothingToUndoq : PySem.W.takesIn K (.builtin "object.__class__") = some true)
    {CHistoryFull gHistoryFull NHistoryFull : Addr} {nmHistoryFull qnHistoryFull : Str} {bsHistoryFull subHistoryFull : List Value} {snHistoryFull : List Str} {abHistoryFull : Bool} {colHistoryFull : Option Bool} {ddHistoryFull : Option Addr} {pHistoryFull qHistoryFull rHistoryFull sHistoryFull tHistoryFull : Option Value} {gdHistoryFull gaHistoryFull : Option Addr} {gsHistoryFull : Array (Option Value)} {goHistoryFull gkHistoryFull gvHistoryFull gpHistoryFull gcHistoryFull gtHistoryFull : Value}
    (uHistoryFulla : PySem.W.nsIn K mainGlobals "HistoryFull" = some (some (.ref CHistoryFull)))
    (uHistoryFullb : K.lookup CHistoryFull = some (excClassObj nmHistoryFull qnHistoryFull CHistoryFull NHistoryFull bsHistoryFull (above EE) true snHistoryFull subHistoryFull abHistoryFull colHistoryFull ddHistoryFull pHistoryFull qHistoryFull rHistoryFull sHistoryFull tHistoryFull "ValueError.__new__"))
    (uHistoryFullc : PySem.W.findIn K (.ref CHistoryFull) "__setattr__" = some (some (.builtin "object.__setattr__"))) (uHistoryFulld : PySem.W.findIn K (.ref CHistoryFull) "__getattribute__" = some (some (.builtin "BaseException.__getattribute__"))) (uHistoryFulle : PySem.W.findIn K (.ref CHistoryFull) "__getattr__" = some none)
    (uHistoryFullf : PySem.W.findIn K (.ref CHistoryFull) "__init__" = some (some (.ref gHistoryFull))) (uHistoryFullg : PySem.W.typeIn K (.ref gHistoryFull) = some (.type "function"))
    (uHistoryFullh : K.lookup gHistoryFull = some ⟨goHistoryFull, gdHistoryFull, .func (PySem.W.fnOf "__init__" "HistoryFull.__init__" (defArgs iHistoryFull) (defBody iHistoryFull) (defScope iHistoryFull) .none gkHistoryFull gvHistoryFull gpHistoryFull gaHistoryFull gcHistoryFull gtHistoryFull), gsHistoryFull⟩)
    (uHistoryFulli : PySem.W.codeIn K gcHistoryFull "HistoryFull.__init__" = true) (uHistoryFullj : PySem.W.keepIn K (.ref gHistoryFull) = true) (uHistoryFullk : PySem.W.keepIn K (.ref CHistoryFull) = true) (uHistoryFulll : PySem.W.typeIn K (.ref CHistoryFull) = some (.type "type")) (uHistoryFullm : PySem.W.hasDictIn K CHistoryFull = true)
    (uHistoryFulln : PySem.W.findIn K (.ref CHistoryFull) "__class__" = some (some (.builtin "object.__class__")))
    (uHistoryFullp : PySem.W.specialIn K (.builtin "object.__class__") "__get__" = some (some (.builtin "getset_descriptor.__get__"))) (uHistoryFullq : PySem.W.takesIn K (.builtin "object.__class__") = some true)
    {CSessionBusy gSessionBusy NSessionBusy : Addr} {nmSessionBusy qnSessionBusy : Str} {bsSessionBusy subSessionBusy : List Value} {snSessionBusy : List Str} {abSessionBusy : Bool} {colSessionBusy : Option Bool} {ddSessionBusy : Option Addr} {pSessionBusy qSessionBusy rSessionBusy sSessionBusy tSessionBusy : Option Value} {gdSessionBusy gaSessionBusy : Option Addr} {gsSessionBusy : Array (Option Value)} {goSessionBusy gkSessionBusy gvSessionBusy gpSessionBusy gcSessionBusy gtSessionBusy : Value}
    (uSessionBusya : PySem.W.nsIn K mainGlobals "SessionBusy" = some (some (.ref CSessionBusy)))
    (uSessionBusyb : K.lookup CSessionBusy = some (excClassObj nmSessionBusy qnSessionBusy CSessionBusy NSessionBusy bsSessionBusy (above EE) true snSessionBusy subSessionBusy abSessionBusy colSessionBusy ddSessionBusy pSessionBusy qSessionBusy rSessionBusy sSessionBusy tSessionBusy "ValueError.__new__"))
    (uSessionBusyc : PySem.W.findIn K (.ref CSessionBusy) "__setattr__" = some (some (.builtin "object.__setattr__"))) (uSessionBusyd : PySem.W.findIn K (.ref CSessionBusy) "__getattribute__" = some (some (.builtin "BaseException.__getattribute__"))) (uSessionBusye : PySem.W.findIn K (.ref CSessionBusy) "__getattr__" = some none)
    (uSessionBusyf : PySem.W.findIn K (.ref CSessionBusy) "__init__" = some (some (.ref gSessionBusy))) (uSessionBusyg : PySem.W.typeIn K (.ref gSessionBusy) = some (.type "function"))
    (uSessionBusyh : K.lookup gSessionBusy = some ⟨goSessionBusy, gdSessionBusy, .func (PySem.W.fnOf "__init__" "SessionBusy.__init__" (defArgs iSessionBusy) (defBody iSessionBusy) (defScope iSessionBusy) .none gkSessionBusy gvSessionBusy gpSessionBusy gaSessionBusy gcSessionBusy gtSessionBusy), gsSessionBusy⟩)
    (uSessionBusyi : PySem.W.codeIn K gcSessionBusy "SessionBusy.__init__" = true) (uSessionBusyj : PySem.W.keepIn K (.ref gSessionBusy) = true) (uSessionBusyk : PySem.W.keepIn K (.ref CSessionBusy) = true) (uSessionBusyl : PySem.W.typeIn K (.ref CSessionBusy) = some (.type "type")) (uSessionBusym : PySem.W.hasDictIn K CSessionBusy = true)
    (uSessionBusyn : PySem.W.findIn K (.ref CSessionBusy) "__class__" = some (some (.builtin "object.__class__")))
    (uSessionBusyp : PySem.W.specialIn K (.builtin "object.__class__") "__get__" = some (some (.builtin "getset_descriptor.__get__"))) (uSessionBusyq : PySem.W.takesIn K (.builtin "object.__class__") = some true)
    {CInvalidActions gInvalidActions NInvalidActions : Addr} {nmInvalidActions qnInvalidActions : Str} {bsInvalidActions subInvalidActions : List Value} {snInvalidActions : List Str} {abInvalidActions : Bool} {colInvalidActions : Option Bool} {ddInvalidActions : Option Addr} {pInvalidActions qInvalidActions rInvalidActions sInvalidActions tInvalidActions : Option Value} {gdInvalidActions gaInvalidActions : Option Addr} {gsInvalidActions : Array (Option Value)} {goInvalidActions gkInvalidActions gvInvalidActions gpInvalidActions gcInvalidActions gtInvalidActions : Value}
    (uInvalidActionsa : PySem.W.nsIn K mainGlobals "InvalidActions" = some (some (.ref CInvalidActions)))
    (uInvalidActionsb : K.lookup CInvalidActions = some (excClassObj nmInvalidActions qnInvalidActions CInvalidActions NInvalidActions bsInvalidActions (above EE) true snInvalidActions subInvalidActions abInvalidActions colInvalidActions ddInvalidActions pInvalidActions qInvalidActions rInvalidActions sInvalidActions tInvalidActions "ValueError.__new__"))
    (uInvalidActionsc : PySem.W.findIn K (.ref CInvalidActions) "__setattr__" = some (some (.builtin "object.__setattr__"))) (uInvalidActionsd : PySem.W.findIn K (.ref CInvalidActions) "__getattribute__" = some (some (.builtin "BaseException.__getattribute__"))) (uInvalidActionse : PySem.W.findIn K (.ref CInvalidActions) "__getattr__" = some none)
    (uInvalidActionsf : PySem.W.findIn K (.ref CInvalidActions) "__init__" = some (some (.ref gInvalidActions))) (uInvalidActionsg : PySem.W.typeIn K (.ref gInvalidActions) = some (.type "function"))
    (uInvalidActionsh : K.lookup gInvalidActions = some ⟨goInvalidActions, gdInvalidActions, .func (PySem.W.fnOf "__init__" "InvalidActions.__init__" (defArgs iInvalidActions) (defBody iInvalidActions) (defScope iInvalidActions) .none gkInvalidActions gvInvalidActions gpInvalidActions gaInvalidActions gcInvalidActions gtInvalidActions), gsInvalidActions⟩)
    (uInvalidActionsi : PySem.W.codeIn K gcInvalidActions "InvalidActions.__init__" = true) (uInvalidActionsj : PySem.W.keepIn K (.ref gInvalidActions) = true) (uInvalidActionsk : PySem.W.keepIn K (.ref CInvalidActions) = true) (uInvalidActionsl : PySem.W.typeIn K (.ref CInvalidActions) = some (.type "type")) (uInvalidActionsm : PySem.W.hasDictIn K CInvalidActions = true)
    (uInvalidActionsn : PySem.W.findIn K (.ref CInvalidActions) "__class__" = some (some (.builtin "object.__class__")))
    (uInvalidActionsp : PySem.W.specialIn K (.builtin "object.__class__") "__get__" = some (some (.builtin "getset_descriptor.__get__"))) (uInvalidActionsq : PySem.W.takesIn K (.builtin "object.__class__") = some true)
    {CBatchFailed gBatchFailed NBatchFailed : Addr} {nmBatchFailed qnBatchFailed : Str} {bsBatchFailed subBatchFailed : List Value} {snBatchFailed : List Str} {abBatchFailed : Bool} {colBatchFailed : Option Bool} {ddBatchFailed : Option Addr} {pBatchFailed qBatchFailed rBatchFailed sBatchFailed tBatchFailed : Option Value} {gdBatchFailed gaBatchFailed : Option Addr} {gsBatchFailed : Array (Option Value)} {goBatchFailed gkBatchFailed gvBatchFailed gpBatchFailed gcBatchFailed gtBatchFailed : Value}
    (uBatchFaileda : PySem.W.nsIn K mainGlobals "BatchFailed" = some (some (.ref CBatchFailed)))
    (uBatchFailedb : K.lookup CBatchFailed = some (excClassObj nmBatchFailed qnBatchFailed CBatchFailed NBatchFailed bsBatchFailed (above EE) true snBatchFailed subBatchFailed abBatchFailed colBatchFailed ddBatchFailed pBatchFailed qBatchFailed rBatchFailed sBatchFailed tBatchFailed "ValueError.__new__"))
    (uBatchFailedc : PySem.W.findIn K (.ref CBatchFailed) "__setattr__" = some (some (.builtin "object.__setattr__"))) (uBatchFailedd : PySem.W.findIn K (.ref CBatchFailed) "__getattribute__" = some (some (.builtin "BaseException.__getattribute__"))) (uBatchFailede : PySem.W.findIn K (.ref CBatchFailed) "__getattr__" = some none)
    (uBatchFailedf : PySem.W.findIn K (.ref CBatchFailed) "__init__" = some (some (.ref gBatchFailed))) (uBatchFailedg : PySem.W.typeIn K (.ref gBatchFailed) = some (.type "function"))
    (uBatchFailedh : K.lookup gBatchFailed = some ⟨goBatchFailed, gdBatchFailed, .func (PySem.W.fnOf "__init__" "BatchFailed.__init__" (defArgs iBatchFailed) (defBody iBatchFailed) (defScope iBatchFailed) .none gkBatchFailed gvBatchFailed gpBatchFailed gaBatchFailed gcBatchFailed gtBatchFailed), gsBatchFailed⟩)
    (uBatchFailedi : PySem.W.codeIn K gcBatchFailed "BatchFailed.__init__" = true) (uBatchFailedj : PySem.W.keepIn K (.ref gBatchFailed) = true) (uBatchFailedk : PySem.W.keepIn K (.ref CBatchFailed) = true) (uBatchFailedl : PySem.W.typeIn K (.ref CBatchFailed) = some (.type "type")) (uBatchFailedm : PySem.W.hasDictIn K CBatchFailed = true)
    (uBatchFailedn : PySem.W.findIn K (.ref CBatchFailed) "__class__" = some (some (.builtin "object.__class__"))) (uBatchFailedo : PySem.W.findIn K (.ref CBatchFailed) "position" = some none)
    (uBatchFailedp : PySem.W.specialIn K (.builtin "object.__class__") "__get__" = some (some (.builtin "getset_descriptor.__get__"))) (uBatchFailedq : PySem.W.takesIn K (.builtin "object.__class__") = some true)
    {CInvalidMoment gInvalidMoment NInvalidMoment : Addr} {nmInvalidMoment qnInvalidMoment : Str} {bsInvalidMoment subInvalidMoment : List Value} {snInvalidMoment : List Str} {abInvalidMoment : Bool} {colInvalidMoment : Option Bool} {ddInvalidMoment : Option Addr} {pInvalidMoment qInvalidMoment rInvalidMoment sInvalidMoment tInvalidMoment : Option Value} {gdInvalidMoment gaInvalidMoment : Option Addr} {gsInvalidMoment : Array (Option Value)} {goInvalidMoment gkInvalidMoment gvInvalidMoment gpInvalidMoment gcInvalidMoment gtInvalidMoment : Value}
    (uInvalidMomenta : PySem.W.nsIn K mainGlobals "InvalidMoment" = some (some (.ref CInvalidMoment)))
    (uInvalidMomentb : K.lookup CInvalidMoment = some (excClassObj nmInvalidMoment qnInvalidMoment CInvalidMoment NInvalidMoment bsInvalidMoment (above EE) true snInvalidMoment subInvalidMoment abInvalidMoment colInvalidMoment ddInvalidMoment pInvalidMoment qInvalidMoment rInvalidMoment sInvalidMoment tInvalidMoment "ValueError.__new__"))
    (uInvalidMomentc : PySem.W.findIn K (.ref CInvalidMoment) "__setattr__" = some (some (.builtin "object.__setattr__"))) (uInvalidMomentd : PySem.W.findIn K (.ref CInvalidMoment) "__getattribute__" = some (some (.builtin "BaseException.__getattribute__"))) (uInvalidMomente : PySem.W.findIn K (.ref CInvalidMoment) "__getattr__" = some none)
    (uInvalidMomentf : PySem.W.findIn K (.ref CInvalidMoment) "__init__" = some (some (.ref gInvalidMoment))) (uInvalidMomentg : PySem.W.typeIn K (.ref gInvalidMoment) = some (.type "function"))
    (uInvalidMomenth : K.lookup gInvalidMoment = some ⟨goInvalidMoment, gdInvalidMoment, .func (PySem.W.fnOf "__init__" "InvalidMoment.__init__" (defArgs iInvalidMoment) (defBody iInvalidMoment) (defScope iInvalidMoment) .none gkInvalidMoment gvInvalidMoment gpInvalidMoment gaInvalidMoment gcInvalidMoment gtInvalidMoment), gsInvalidMoment⟩)
    (uInvalidMomenti : PySem.W.codeIn K gcInvalidMoment "InvalidMoment.__init__" = true) (uInvalidMomentj : PySem.W.keepIn K (.ref gInvalidMoment) = true) (uInvalidMomentk : PySem.W.keepIn K (.ref CInvalidMoment) = true) (uInvalidMomentl : PySem.W.typeIn K (.ref CInvalidMoment) = some (.type "type")) (uInvalidMomentm : PySem.W.hasDictIn K CInvalidMoment = true)
    (uInvalidMomentn : PySem.W.findIn K (.ref CInvalidMoment) "__class__" = some (some (.builtin "object.__class__"))) (uInvalidMomento : PySem.W.findIn K (.ref CInvalidMoment) "position" = some none)
    (uInvalidMomentp : PySem.W.specialIn K (.builtin "object.__class__") "__get__" = some (some (.builtin "getset_descriptor.__get__"))) (uInvalidMomentq : PySem.W.takesIn K (.builtin "object.__class__") = some true)
    {CBlocked gBlocked NBlocked : Addr} {nmBlocked qnBlocked : Str} {bsBlocked subBlocked : List Value} {snBlocked : List Str} {abBlocked : Bool} {colBlocked : Option Bool} {ddBlocked : Option Addr} {pBlocked qBlocked rBlocked sBlocked tBlocked : Option Value} {gdBlocked gaBlocked : Option Addr} {gsBlocked : Array (Option Value)} {goBlocked gkBlocked gvBlocked gpBlocked gcBlocked gtBlocked : Value}
    (uBlockeda : PySem.W.nsIn K mainGlobals "Blocked" = some (some (.ref CBlocked)))
    (uBlockedb : K.lookup CBlocked = some (excClassObj nmBlocked qnBlocked CBlocked NBlocked bsBlocked (above EE) true snBlocked subBlocked abBlocked colBlocked ddBlocked pBlocked qBlocked rBlocked sBlocked tBlocked "ValueError.__new__"))
    (uBlockedc : PySem.W.findIn K (.ref CBlocked) "__setattr__" = some (some (.builtin "object.__setattr__"))) (uBlockedd : PySem.W.findIn K (.ref CBlocked) "__getattribute__" = some (some (.builtin "BaseException.__getattribute__"))) (uBlockede : PySem.W.findIn K (.ref CBlocked) "__getattr__" = some none)
    (uBlockedf : PySem.W.findIn K (.ref CBlocked) "__init__" = some (some (.ref gBlocked))) (uBlockedg : PySem.W.typeIn K (.ref gBlocked) = some (.type "function"))
    (uBlockedh : K.lookup gBlocked = some ⟨goBlocked, gdBlocked, .func (PySem.W.fnOf "__init__" "Blocked.__init__" (defArgs iBlocked) (defBody iBlocked) (defScope iBlocked) .none gkBlocked gvBlocked gpBlocked gaBlocked gcBlocked gtBlocked), gsBlocked⟩)
    (uBlockedi : PySem.W.codeIn K gcBlocked "Blocked.__init__" = true) (uBlockedj : PySem.W.keepIn K (.ref gBlocked) = true) (uBlockedk : PySem.W.keepIn K (.ref CBlocked) = true) (uBlockedl : PySem.W.typeIn K (.ref CBlocked) = some (.type "type")) (uBlockedm : PySem.W.hasDictIn K CBlocked = true)
    (uBlockedn : PySem.W.findIn K (.ref CBlocked) "__class__" = some (some (.builtin "object.__class__"))) (uBlockedo : PySem.W.findIn K (.ref CBlocked) "block" = some none)
    (uBlockedp : PySem.W.specialIn K (.builtin "object.__class__") "__get__" = some (some (.builtin "getset_descriptor.__get__"))) (uBlockedq : PySem.W.takesIn K (.builtin "object.__class__") = some true)
    {f1 : Addr} {od1 an1 : Option Addr} {sl1 : Array (Option Value)} {oc1 kV1 dc1 pm1 cd1 ct1 : Value}
    (a1 : PySem.W.nsIn K mainGlobals "is_integer" = some (some (.ref f1)))
    (l1 : K.lookup f1 = some ⟨oc1, od1, .func (PySem.W.fnOf "is_integer" "is_integer" (defArgs sIsInt) (defBody sIsInt) (defScope sIsInt) .none kV1 dc1 pm1 an1 cd1 ct1), sl1⟩)
    (c1 : PySem.W.codeIn K cd1 "is_integer" = true) (k1 : PySem.W.keepIn K (.ref f1) = true)
    {f2 : Addr} {od2 an2 : Option Addr} {sl2 : Array (Option Value)} {oc2 kV2 dc2 pm2 cd2 ct2 : Value}
    (a2 : PySem.W.nsIn K mainGlobals "is_name" = some (some (.ref f2)))
    (l2 : K.lookup f2 = some ⟨oc2, od2, .func (PySem.W.fnOf "is_name" "is_name" (defArgs sIsName) (defBody sIsName) (defScope sIsName) .none kV2 dc2 pm2 an2 cd2 ct2), sl2⟩)
    (c2 : PySem.W.codeIn K cd2 "is_name" = true) (k2 : PySem.W.keepIn K (.ref f2) = true)
    {f3 : Addr} {od3 an3 : Option Addr} {sl3 : Array (Option Value)} {oc3 kV3 dc3 pm3 cd3 ct3 : Value}
    (a3 : PySem.W.nsIn K mainGlobals "is_pair" = some (some (.ref f3)))
    (l3 : K.lookup f3 = some ⟨oc3, od3, .func (PySem.W.fnOf "is_pair" "is_pair" (defArgs sIsPair) (defBody sIsPair) (defScope sIsPair) .none kV3 dc3 pm3 an3 cd3 ct3), sl3⟩)
    (c3 : PySem.W.codeIn K cd3 "is_pair" = true) (k3 : PySem.W.keepIn K (.ref f3) = true)
    {f4 : Addr} {od4 an4 : Option Addr} {sl4 : Array (Option Value)} {oc4 kV4 dc4 pm4 cd4 ct4 : Value}
    (a4 : PySem.W.nsIn K mainGlobals "is_ascending" = some (some (.ref f4)))
    (l4 : K.lookup f4 = some ⟨oc4, od4, .func (PySem.W.fnOf "is_ascending" "is_ascending" (defArgs sIsAsc) (defBody sIsAsc) (defScope sIsAsc) .none kV4 dc4 pm4 an4 cd4 ct4), sl4⟩)
    (c4 : PySem.W.codeIn K cd4 "is_ascending" = true) (k4 : PySem.W.keepIn K (.ref f4) = true)
    {f5 : Addr} {od5 an5 : Option Addr} {sl5 : Array (Option Value)} {oc5 kV5 dc5 pm5 cd5 ct5 : Value}
    (a5 : PySem.W.nsIn K mainGlobals "is_house" = some (some (.ref f5)))
    (l5 : K.lookup f5 = some ⟨oc5, od5, .func (PySem.W.fnOf "is_house" "is_house" (defArgs sIsHouse) (defBody sIsHouse) (defScope sIsHouse) .none kV5 dc5 pm5 an5 cd5 ct5), sl5⟩)
    (c5 : PySem.W.codeIn K cd5 "is_house" = true) (k5 : PySem.W.keepIn K (.ref f5) = true)
    {f6 : Addr} {od6 an6 : Option Addr} {sl6 : Array (Option Value)} {oc6 kV6 dc6 pm6 cd6 ct6 : Value}
    (a6 : PySem.W.nsIn K mainGlobals "is_room" = some (some (.ref f6)))
    (l6 : K.lookup f6 = some ⟨oc6, od6, .func (PySem.W.fnOf "is_room" "is_room" (defArgs sIsRoom) (defBody sIsRoom) (defScope sIsRoom) .none kV6 dc6 pm6 an6 cd6 ct6), sl6⟩)
    (c6 : PySem.W.codeIn K cd6 "is_room" = true) (k6 : PySem.W.keepIn K (.ref f6) = true)
    {f7 : Addr} {od7 an7 : Option Addr} {sl7 : Array (Option Value)} {oc7 kV7 dc7 pm7 cd7 ct7 : Value}
    (a7 : PySem.W.nsIn K mainGlobals "is_door" = some (some (.ref f7)))
    (l7 : K.lookup f7 = some ⟨oc7, od7, .func (PySem.W.fnOf "is_door" "is_door" (defArgs sIsDoor) (defBody sIsDoor) (defScope sIsDoor) .none kV7 dc7 pm7 an7 cd7 ct7), sl7⟩)
    (c7 : PySem.W.codeIn K cd7 "is_door" = true) (k7 : PySem.W.keepIn K (.ref f7) = true)
    {f8 : Addr} {od8 an8 : Option Addr} {sl8 : Array (Option Value)} {oc8 kV8 dc8 pm8 cd8 ct8 : Value}
    (a8 : PySem.W.nsIn K mainGlobals "has_cycle" = some (some (.ref f8)))
    (l8 : K.lookup f8 = some ⟨oc8, od8, .func (PySem.W.fnOf "has_cycle" "has_cycle" (defArgs sHasCyc) (defBody sHasCyc) (defScope sHasCyc) .none kV8 dc8 pm8 an8 cd8 ct8), sl8⟩)
    (c8 : PySem.W.codeIn K cd8 "has_cycle" = true) (k8 : PySem.W.keepIn K (.ref f8) = true)
    {f9 : Addr} {od9 an9 : Option Addr} {sl9 : Array (Option Value)} {oc9 kV9 dc9 pm9 cd9 ct9 : Value}
    (a9 : PySem.W.nsIn K mainGlobals "neighbors" = some (some (.ref f9)))
    (l9 : K.lookup f9 = some ⟨oc9, od9, .func (PySem.W.fnOf "neighbors" "neighbors" (defArgs sNb) (defBody sNb) (defScope sNb) .none kV9 dc9 pm9 an9 cd9 ct9), sl9⟩)
    (c9 : PySem.W.codeIn K cd9 "neighbors" = true) (k9 : PySem.W.keepIn K (.ref f9) = true)
    {f10 : Addr} {od10 an10 : Option Addr} {sl10 : Array (Option Value)} {oc10 kV10 dc10 pm10 cd10 ct10 : Value}
    (a10 : PySem.W.nsIn K mainGlobals "path_between" = some (some (.ref f10)))
    (l10 : K.lookup f10 = some ⟨oc10, od10, .func (PySem.W.fnOf "path_between" "path_between" (defArgs sPath) (defBody sPath) (defScope sPath) .none kV10 dc10 pm10 an10 cd10 ct10), sl10⟩)
    (c10 : PySem.W.codeIn K cd10 "path_between" = true) (k10 : PySem.W.keepIn K (.ref f10) = true)
    {f11 : Addr} {od11 an11 : Option Addr} {sl11 : Array (Option Value)} {oc11 kV11 dc11 pm11 cd11 ct11 : Value}
    (a11 : PySem.W.nsIn K mainGlobals "steps_toward" = some (some (.ref f11)))
    (l11 : K.lookup f11 = some ⟨oc11, od11, .func (PySem.W.fnOf "steps_toward" "steps_toward" (defArgs sSteps) (defBody sSteps) (defScope sSteps) .none kV11 dc11 pm11 an11 cd11 ct11), sl11⟩)
    (c11 : PySem.W.codeIn K cd11 "steps_toward" = true) (k11 : PySem.W.keepIn K (.ref f11) = true)
    {f12 : Addr} {od12 an12 : Option Addr} {sl12 : Array (Option Value)} {oc12 kV12 dc12 pm12 cd12 ct12 : Value}
    (a12 : PySem.W.nsIn K mainGlobals "is_placement" = some (some (.ref f12)))
    (l12 : K.lookup f12 = some ⟨oc12, od12, .func (PySem.W.fnOf "is_placement" "is_placement" (defArgs sIsPl) (defBody sIsPl) (defScope sIsPl) .none kV12 dc12 pm12 an12 cd12 ct12), sl12⟩)
    (c12 : PySem.W.codeIn K cd12 "is_placement" = true) (k12 : PySem.W.keepIn K (.ref f12) = true)
    {f13 : Addr} {od13 an13 : Option Addr} {sl13 : Array (Option Value)} {oc13 kV13 dc13 pm13 cd13 ct13 : Value}
    (a13 : PySem.W.nsIn K mainGlobals "is_person_in_room" = some (some (.ref f13)))
    (l13 : K.lookup f13 = some ⟨oc13, od13, .func (PySem.W.fnOf "is_person_in_room" "is_person_in_room" (defArgs sIsPR) (defBody sIsPR) (defScope sIsPR) .none kV13 dc13 pm13 an13 cd13 ct13), sl13⟩)
    (c13 : PySem.W.codeIn K cd13 "is_person_in_room" = true) (k13 : PySem.W.keepIn K (.ref f13) = true)
    {f14 : Addr} {od14 an14 : Option Addr} {sl14 : Array (Option Value)} {oc14 kV14 dc14 pm14 cd14 ct14 : Value}
    (a14 : PySem.W.nsIn K mainGlobals "names_of" = some (some (.ref f14)))
    (l14 : K.lookup f14 = some ⟨oc14, od14, .func (PySem.W.fnOf "names_of" "names_of" (defArgs sNamesOf) (defBody sNamesOf) (defScope sNamesOf) .none kV14 dc14 pm14 an14 cd14 ct14), sl14⟩)
    (c14 : PySem.W.codeIn K cd14 "names_of" = true) (k14 : PySem.W.keepIn K (.ref f14) = true)
    {f15 : Addr} {od15 an15 : Option Addr} {sl15 : Array (Option Value)} {oc15 kV15 dc15 pm15 cd15 ct15 : Value}
    (a15 : PySem.W.nsIn K mainGlobals "room_of" = some (some (.ref f15)))
    (l15 : K.lookup f15 = some ⟨oc15, od15, .func (PySem.W.fnOf "room_of" "room_of" (defArgs sRoomOf) (defBody sRoomOf) (defScope sRoomOf) .none kV15 dc15 pm15 an15 cd15 ct15), sl15⟩)
    (c15 : PySem.W.codeIn K cd15 "room_of" = true) (k15 : PySem.W.keepIn K (.ref f15) = true)
    {f16 : Addr} {od16 an16 : Option Addr} {sl16 : Array (Option Value)} {oc16 kV16 dc16 pm16 cd16 ct16 : Value}
    (a16 : PySem.W.nsIn K mainGlobals "with_person_in" = some (some (.ref f16)))
    (l16 : K.lookup f16 = some ⟨oc16, od16, .func (PySem.W.fnOf "with_person_in" "with_person_in" (defArgs sWith) (defBody sWith) (defScope sWith) .none kV16 dc16 pm16 an16 cd16 ct16), sl16⟩)
    (c16 : PySem.W.codeIn K cd16 "with_person_in" = true) (k16 : PySem.W.keepIn K (.ref f16) = true)
    {f17 : Addr} {od17 an17 : Option Addr} {sl17 : Array (Option Value)} {oc17 kV17 dc17 pm17 cd17 ct17 : Value}
    (a17 : PySem.W.nsIn K mainGlobals "people_in" = some (some (.ref f17)))
    (l17 : K.lookup f17 = some ⟨oc17, od17, .func (PySem.W.fnOf "people_in" "people_in" (defArgs sPIn) (defBody sPIn) (defScope sPIn) .none kV17 dc17 pm17 an17 cd17 ct17), sl17⟩)
    (c17 : PySem.W.codeIn K cd17 "people_in" = true) (k17 : PySem.W.keepIn K (.ref f17) = true)
    {f18 : Addr} {od18 an18 : Option Addr} {sl18 : Array (Option Value)} {oc18 kV18 dc18 pm18 cd18 ct18 : Value}
    (a18 : PySem.W.nsIn K mainGlobals "people_within" = some (some (.ref f18)))
    (l18 : K.lookup f18 = some ⟨oc18, od18, .func (PySem.W.fnOf "people_within" "people_within" (defArgs sPWi) (defBody sPWi) (defScope sPWi) .none kV18 dc18 pm18 an18 cd18 ct18), sl18⟩)
    (c18 : PySem.W.codeIn K cd18 "people_within" = true) (k18 : PySem.W.keepIn K (.ref f18) = true)
    {f19 : Addr} {od19 an19 : Option Addr} {sl19 : Array (Option Value)} {oc19 kV19 dc19 pm19 cd19 ct19 : Value}
    (a19 : PySem.W.nsIn K mainGlobals "move_person" = some (some (.ref f19)))
    (l19 : K.lookup f19 = some ⟨oc19, od19, .func (PySem.W.fnOf "move_person" "move_person" (defArgs sMove) (defBody sMove) (defScope sMove) .none kV19 dc19 pm19 an19 cd19 ct19), sl19⟩)
    (c19 : PySem.W.codeIn K cd19 "move_person" = true) (k19 : PySem.W.keepIn K (.ref f19) = true)
    {f20 : Addr} {od20 an20 : Option Addr} {sl20 : Array (Option Value)} {oc20 kV20 dc20 pm20 cd20 ct20 : Value}
    (a20 : PySem.W.nsIn K mainGlobals "refuse_no_room" = some (some (.ref f20)))
    (l20 : K.lookup f20 = some ⟨oc20, od20, .func (PySem.W.fnOf "refuse_no_room" "refuse_no_room" (defArgs sRefuseNoRoom) (defBody sRefuseNoRoom) (defScope sRefuseNoRoom) .none kV20 dc20 pm20 an20 cd20 ct20), sl20⟩)
    (c20 : PySem.W.codeIn K cd20 "refuse_no_room" = true) (k20 : PySem.W.keepIn K (.ref f20) = true)
    {f21 : Addr} {od21 an21 : Option Addr} {sl21 : Array (Option Value)} {oc21 kV21 dc21 pm21 cd21 ct21 : Value}
    (a21 : PySem.W.nsIn K mainGlobals "with_more" = some (some (.ref f21)))
    (l21 : K.lookup f21 = some ⟨oc21, od21, .func (PySem.W.fnOf "with_more" "with_more" (defArgs sWithMore) (defBody sWithMore) (defScope sWithMore) .none kV21 dc21 pm21 an21 cd21 ct21), sl21⟩)
    (c21 : PySem.W.codeIn K cd21 "with_more" = true) (k21 : PySem.W.keepIn K (.ref f21) = true)
    {f22 : Addr} {od22 an22 : Option Addr} {sl22 : Array (Option Value)} {oc22 kV22 dc22 pm22 cd22 ct22 : Value}
    (a22 : PySem.W.nsIn K mainGlobals "without" = some (some (.ref f22)))
    (l22 : K.lookup f22 = some ⟨oc22, od22, .func (PySem.W.fnOf "without" "without" (defArgs sWithout) (defBody sWithout) (defScope sWithout) .none kV22 dc22 pm22 an22 cd22 ct22), sl22⟩)
    (c22 : PySem.W.codeIn K cd22 "without" = true) (k22 : PySem.W.keepIn K (.ref f22) = true)
    {f23 : Addr} {od23 an23 : Option Addr} {sl23 : Array (Option Value)} {oc23 kV23 dc23 pm23 cd23 ct23 : Value}
    (a23 : PySem.W.nsIn K mainGlobals "state_after" = some (some (.ref f23)))
    (l23 : K.lookup f23 = some ⟨oc23, od23, .func (PySem.W.fnOf "state_after" "state_after" (defArgs sStateAfter) (defBody sStateAfter) (defScope sStateAfter) .none kV23 dc23 pm23 an23 cd23 ct23), sl23⟩)
    (c23 : PySem.W.codeIn K cd23 "state_after" = true) (k23 : PySem.W.keepIn K (.ref f23) = true)
    {f24 : Addr} {od24 an24 : Option Addr} {sl24 : Array (Option Value)} {oc24 kV24 dc24 pm24 cd24 ct24 : Value}
    (a24 : PySem.W.nsIn K mainGlobals "house_size" = some (some (.ref f24)))
    (l24 : K.lookup f24 = some ⟨oc24, od24, .func (PySem.W.fnOf "house_size" "house_size" (defArgs sHouseSize) (defBody sHouseSize) (defScope sHouseSize) .none kV24 dc24 pm24 an24 cd24 ct24), sl24⟩)
    (c24 : PySem.W.codeIn K cd24 "house_size" = true) (k24 : PySem.W.keepIn K (.ref f24) = true)
    {f25 : Addr} {od25 an25 : Option Addr} {sl25 : Array (Option Value)} {oc25 kV25 dc25 pm25 cd25 ct25 : Value}
    (a25 : PySem.W.nsIn K mainGlobals "_law_stream" = some (some (.ref f25)))
    (l25 : K.lookup f25 = some ⟨oc25, od25, .func (PySem.W.fnOf "_law_stream" "_law_stream" (defArgs sStream) (defBody sStream) (defScope sStream) .none kV25 dc25 pm25 an25 cd25 ct25), sl25⟩)
    (c25 : PySem.W.codeIn K cd25 "_law_stream" = true) (k25 : PySem.W.keepIn K (.ref f25) = true)
    {f26 : Addr} {od26 an26 : Option Addr} {sl26 : Array (Option Value)} {oc26 kV26 dc26 pm26 cd26 ct26 : Value}
    (a26 : PySem.W.nsIn K mainGlobals "_law_names" = some (some (.ref f26)))
    (l26 : K.lookup f26 = some ⟨oc26, od26, .func (PySem.W.fnOf "_law_names" "_law_names" (defArgs sNames) (defBody sNames) (defScope sNames) .none kV26 dc26 pm26 an26 cd26 ct26), sl26⟩)
    (c26 : PySem.W.codeIn K cd26 "_law_names" = true) (k26 : PySem.W.keepIn K (.ref f26) = true)
    {f27 : Addr} {od27 an27 : Option Addr} {sl27 : Array (Option Value)} {oc27 kV27 dc27 pm27 cd27 ct27 : Value}
    (a27 : PySem.W.nsIn K mainGlobals "_law_draw" = some (some (.ref f27)))
    (l27 : K.lookup f27 = some ⟨oc27, od27, .func (PySem.W.fnOf "_law_draw" "_law_draw" (defArgs sDraw) (defBody sDraw) (defScope sDraw) .none kV27 dc27 pm27 an27 cd27 ct27), sl27⟩)
    (c27 : PySem.W.codeIn K cd27 "_law_draw" = true) (k27 : PySem.W.keepIn K (.ref f27) = true)
    {f28 : Addr} {od28 an28 : Option Addr} {sl28 : Array (Option Value)} {oc28 kV28 dc28 pm28 cd28 ct28 : Value}
    (a28 : PySem.W.nsIn K mainGlobals "_law_house" = some (some (.ref f28)))
    (l28 : K.lookup f28 = some ⟨oc28, od28, .func (PySem.W.fnOf "_law_house" "_law_house" (defArgs sHouse) (defBody sHouse) (defScope sHouse) .none kV28 dc28 pm28 an28 cd28 ct28), sl28⟩)
    (c28 : PySem.W.codeIn K cd28 "_law_house" = true) (k28 : PySem.W.keepIn K (.ref f28) = true)
    {f29 : Addr} {od29 an29 : Option Addr} {sl29 : Array (Option Value)} {oc29 kV29 dc29 pm29 cd29 ct29 : Value}
    (a29 : PySem.W.nsIn K mainGlobals "_law_placement" = some (some (.ref f29)))
    (l29 : K.lookup f29 = some ⟨oc29, od29, .func (PySem.W.fnOf "_law_placement" "_law_placement" (defArgs sPl) (defBody sPl) (defScope sPl) .none kV29 dc29 pm29 an29 cd29 ct29), sl29⟩)
    (c29 : PySem.W.codeIn K cd29 "_law_placement" = true) (k29 : PySem.W.keepIn K (.ref f29) = true)
    {f30 : Addr} {od30 an30 : Option Addr} {sl30 : Array (Option Value)} {oc30 kV30 dc30 pm30 cd30 ct30 : Value}
    (a30 : PySem.W.nsIn K mainGlobals "_law_neighbors" = some (some (.ref f30)))
    (l30 : K.lookup f30 = some ⟨oc30, od30, .func (PySem.W.fnOf "_law_neighbors" "_law_neighbors" (defArgs sLNb) (defBody sLNb) (defScope sLNb) .none kV30 dc30 pm30 an30 cd30 ct30), sl30⟩)
    (c30 : PySem.W.codeIn K cd30 "_law_neighbors" = true) (k30 : PySem.W.keepIn K (.ref f30) = true)
    {f31 : Addr} {od31 an31 : Option Addr} {sl31 : Array (Option Value)} {oc31 kV31 dc31 pm31 cd31 ct31 : Value}
    (a31 : PySem.W.nsIn K mainGlobals "_law_moved" = some (some (.ref f31)))
    (l31 : K.lookup f31 = some ⟨oc31, od31, .func (PySem.W.fnOf "_law_moved" "_law_moved" (defArgs sLMoved) (defBody sLMoved) (defScope sLMoved) .none kV31 dc31 pm31 an31 cd31 ct31), sl31⟩)
    (c31 : PySem.W.codeIn K cd31 "_law_moved" = true) (k31 : PySem.W.keepIn K (.ref f31) = true)
    {f32 : Addr} {od32 an32 : Option Addr} {sl32 : Array (Option Value)} {oc32 kV32 dc32 pm32 cd32 ct32 : Value}
    (a32 : PySem.W.nsIn K mainGlobals "_law_is_integer" = some (some (.ref f32)))
    (l32 : K.lookup f32 = some ⟨oc32, od32, .func (PySem.W.fnOf "_law_is_integer" "_law_is_integer" (defArgs sLInt) (defBody sLInt) (defScope sLInt) .none kV32 dc32 pm32 an32 cd32 ct32), sl32⟩)
    (c32 : PySem.W.codeIn K cd32 "_law_is_integer" = true) (k32 : PySem.W.keepIn K (.ref f32) = true)
    {f33 : Addr} {od33 an33 : Option Addr} {sl33 : Array (Option Value)} {oc33 kV33 dc33 pm33 cd33 ct33 : Value}
    (a33 : PySem.W.nsIn K mainGlobals "_law_is_name" = some (some (.ref f33)))
    (l33 : K.lookup f33 = some ⟨oc33, od33, .func (PySem.W.fnOf "_law_is_name" "_law_is_name" (defArgs sLIsName) (defBody sLIsName) (defScope sLIsName) .none kV33 dc33 pm33 an33 cd33 ct33), sl33⟩)
    (c33 : PySem.W.codeIn K cd33 "_law_is_name" = true) (k33 : PySem.W.keepIn K (.ref f33) = true)
    {f34 : Addr} {od34 an34 : Option Addr} {sl34 : Array (Option Value)} {oc34 kV34 dc34 pm34 cd34 ct34 : Value}
    (a34 : PySem.W.nsIn K mainGlobals "_law_apply" = some (some (.ref f34)))
    (l34 : K.lookup f34 = some ⟨oc34, od34, .func (PySem.W.fnOf "_law_apply" "_law_apply" (defArgs sLApply) (defBody sLApply) (defScope sLApply) .none kV34 dc34 pm34 an34 cd34 ct34), sl34⟩)
    (c34 : PySem.W.codeIn K cd34 "_law_apply" = true) (k34 : PySem.W.keepIn K (.ref f34) = true)
    {f35 : Addr} {od35 an35 : Option Addr} {sl35 : Array (Option Value)} {oc35 kV35 dc35 pm35 cd35 ct35 : Value}
    (a35 : PySem.W.nsIn K mainGlobals "_law_error_name" = some (some (.ref f35)))
    (l35 : K.lookup f35 = some ⟨oc35, od35, .func (PySem.W.fnOf "_law_error_name" "_law_error_name" (defArgs sLErrorName) (defBody sLErrorName) (defScope sLErrorName) .none kV35 dc35 pm35 an35 cd35 ct35), sl35⟩)
    (c35 : PySem.W.codeIn K cd35 "_law_error_name" = true) (k35 : PySem.W.keepIn K (.ref f35) = true)
    {f36 : Addr} {od36 an36 : Option Addr} {sl36 : Array (Option Value)} {oc36 kV36 dc36 pm36 cd36 ct36 : Value}
    (a36 : PySem.W.nsIn K mainGlobals "_law_error_field" = some (some (.ref f36)))
    (l36 : K.lookup f36 = some ⟨oc36, od36, .func (PySem.W.fnOf "_law_error_field" "_law_error_field" (defArgs sLErrorField) (defBody sLErrorField) (defScope sLErrorField) .none kV36 dc36 pm36 an36 cd36 ct36), sl36⟩)
    (c36 : PySem.W.codeIn K cd36 "_law_error_field" = true) (k36 : PySem.W.keepIn K (.ref f36) = true)
    {f37 : Addr} {od37 an37 : Option Addr} {sl37 : Array (Option Value)} {oc37 kV37 dc37 pm37 cd37 ct37 : Value}
    (a37 : PySem.W.nsIn K mainGlobals "_law_full_result" = some (some (.ref f37)))
    (l37 : K.lookup f37 = some ⟨oc37, od37, .func (PySem.W.fnOf "_law_full_result" "_law_full_result" (defArgs sLFullResult) (defBody sLFullResult) (defScope sLFullResult) .none kV37 dc37 pm37 an37 cd37 ct37), sl37⟩)
    (c37 : PySem.W.codeIn K cd37 "_law_full_result" = true) (k37 : PySem.W.keepIn K (.ref f37) = true)
    {f38 : Addr} {od38 an38 : Option Addr} {sl38 : Array (Option Value)} {oc38 kV38 dc38 pm38 cd38 ct38 : Value}
    (a38 : PySem.W.nsIn K mainGlobals "_law_without" = some (some (.ref f38)))
    (l38 : K.lookup f38 = some ⟨oc38, od38, .func (PySem.W.fnOf "_law_without" "_law_without" (defArgs sLWithout) (defBody sLWithout) (defScope sLWithout) .none kV38 dc38 pm38 an38 cd38 ct38), sl38⟩)
    (c38 : PySem.W.codeIn K cd38 "_law_without" = true) (k38 : PySem.W.keepIn K (.ref f38) = true)
    {f39 : Addr} {od39 an39 : Option Addr} {sl39 : Array (Option Value)} {oc39 kV39 dc39 pm39 cd39 ct39 : Value}
    (a39 : PySem.W.nsIn K mainGlobals "_law_people_outcome" = some (some (.ref f39)))
    (l39 : K.lookup f39 = some ⟨oc39, od39, .func (PySem.W.fnOf "_law_people_outcome" "_law_people_outcome" (defArgs sLPeopleOutcome) (defBody sLPeopleOutcome) (defScope sLPeopleOutcome) .none kV39 dc39 pm39 an39 cd39 ct39), sl39⟩)
    (c39 : PySem.W.codeIn K cd39 "_law_people_outcome" = true) (k39 : PySem.W.keepIn K (.ref f39) = true)
    {f40 : Addr} {od40 an40 : Option Addr} {sl40 : Array (Option Value)} {oc40 kV40 dc40 pm40 cd40 ct40 : Value}
    (a40 : PySem.W.nsIn K mainGlobals "_law_expected_outcome" = some (some (.ref f40)))
    (l40 : K.lookup f40 = some ⟨oc40, od40, .func (PySem.W.fnOf "_law_expected_outcome" "_law_expected_outcome" (defArgs sLExpectedOutcome) (defBody sLExpectedOutcome) (defScope sLExpectedOutcome) .none kV40 dc40 pm40 an40 cd40 ct40), sl40⟩)
    (c40 : PySem.W.codeIn K cd40 "_law_expected_outcome" = true) (k40 : PySem.W.keepIn K (.ref f40) = true)
    {f41 : Addr} {od41 an41 : Option Addr} {sl41 : Array (Option Value)} {oc41 kV41 dc41 pm41 cd41 ct41 : Value}
    (a41 : PySem.W.nsIn K mainGlobals "_law_snapshot" = some (some (.ref f41)))
    (l41 : K.lookup f41 = some ⟨oc41, od41, .func (PySem.W.fnOf "_law_snapshot" "_law_snapshot" (defArgs sLSnapshot) (defBody sLSnapshot) (defScope sLSnapshot) .none kV41 dc41 pm41 an41 cd41 ct41), sl41⟩)
    (c41 : PySem.W.codeIn K cd41 "_law_snapshot" = true) (k41 : PySem.W.keepIn K (.ref f41) = true)
    {f42 : Addr} {od42 an42 : Option Addr} {sl42 : Array (Option Value)} {oc42 kV42 dc42 pm42 cd42 ct42 : Value}
    (a42 : PySem.W.nsIn K mainGlobals "_law_expected_snapshot" = some (some (.ref f42)))
    (l42 : K.lookup f42 = some ⟨oc42, od42, .func (PySem.W.fnOf "_law_expected_snapshot" "_law_expected_snapshot" (defArgs sLExpectedSnapshot) (defBody sLExpectedSnapshot) (defScope sLExpectedSnapshot) .none kV42 dc42 pm42 an42 cd42 ct42), sl42⟩)
    (c42 : PySem.W.codeIn K cd42 "_law_expected_snapshot" = true) (k42 : PySem.W.keepIn K (.ref f42) = true)
    {f43 : Addr} {od43 an43 : Option Addr} {sl43 : Array (Option Value)} {oc43 kV43 dc43 pm43 cd43 ct43 : Value}
    (a43 : PySem.W.nsIn K mainGlobals "_law_random_action" = some (some (.ref f43)))
    (l43 : K.lookup f43 = some ⟨oc43, od43, .func (PySem.W.fnOf "_law_random_action" "_law_random_action" (defArgs sLRandomAction) (defBody sLRandomAction) (defScope sLRandomAction) .none kV43 dc43 pm43 an43 cd43 ct43), sl43⟩)
    (c43 : PySem.W.codeIn K cd43 "_law_random_action" = true) (k43 : PySem.W.keepIn K (.ref f43) = true)
    {f44 : Addr} {od44 an44 : Option Addr} {sl44 : Array (Option Value)} {oc44 kV44 dc44 pm44 cd44 ct44 : Value}
    (a44 : PySem.W.nsIn K mainGlobals "_law_initial" = some (some (.ref f44)))
    (l44 : K.lookup f44 = some ⟨oc44, od44, .func (PySem.W.fnOf "_law_initial" "_law_initial" (defArgs sLInitial) (defBody sLInitial) (defScope sLInitial) .none kV44 dc44 pm44 an44 cd44 ct44), sl44⟩)
    (c44 : PySem.W.codeIn K cd44 "_law_initial" = true) (k44 : PySem.W.keepIn K (.ref f44) = true)
    {f45 : Addr} {od45 an45 : Option Addr} {sl45 : Array (Option Value)} {oc45 kV45 dc45 pm45 cd45 ct45 : Value}
    (a45 : PySem.W.nsIn K mainGlobals "_law_repeated_turn_holds" = some (some (.ref f45)))
    (l45 : K.lookup f45 = some ⟨oc45, od45, .func (PySem.W.fnOf "_law_repeated_turn_holds" "_law_repeated_turn_holds" (defArgs sLRepeatedTurnHolds) (defBody sLRepeatedTurnHolds) (defScope sLRepeatedTurnHolds) .none kV45 dc45 pm45 an45 cd45 ct45), sl45⟩)
    (c45 : PySem.W.codeIn K cd45 "_law_repeated_turn_holds" = true) (k45 : PySem.W.keepIn K (.ref f45) = true)
    {CSes : Addr} (sA : PySem.W.nsIn K mainGlobals "Session" = some (some (.ref CSes))) (sB : PySem.W.plainGet K CSes Str.empty = true) (sC : PySem.W.hasDictIn K CSes = true) (sD : PySem.W.plainOver K CSes = true) (sE : PySem.W.findIn K (.ref CSes) "__setattr__" = some (some (.builtin "object.__setattr__")))
    (sF : PySem.W.findIn K (.ref CSes) "states" = some none) (sG : PySem.W.findIn K (.ref CSes) "done" = some none) (sH : PySem.W.findIn K (.ref CSes) "rows" = some none) (sI : PySem.W.findIn K (.ref CSes) "busy" = some none) (sJ : PySem.W.findIn K (.ref CSes) "GUARDED" = some (some (.bool false))) (sK : PySem.W.specialIn K (.bool false) "__get__" = some none)
    (sL : PySem.W.makesIn K CSes = true) (sM : PySem.W.keepIn K (.ref CSes) = true)
    {fMinit : Addr} {odMinit anMinit : Option Addr} {slMinit : Array (Option Value)} {ocMinit kVMinit dcMinit pmMinit cdMinit ctMinit : Value} 
    (aMinit : PySem.W.findIn K (.ref CSes) "__init__" = some (some (.ref fMinit)))
    (lMinit : K.lookup fMinit = some ⟨ocMinit, odMinit, .func (PySem.W.fnOf "__init__" "Session.__init__" (defArgs iSession) (defBody iSession) (defScope iSession) .none kVMinit dcMinit pmMinit anMinit cdMinit ctMinit), slMinit⟩)
    (cMinit : PySem.W.codeIn K cdMinit "Session.__init__" = true) (kMinit : PySem.W.keepIn K (.ref fMinit) = true) (nMinit : PySem.W.isFn K (.ref fMinit) = true)
    {fMmove : Addr} {odMmove anMmove : Option Addr} {slMmove : Array (Option Value)} {ocMmove kVMmove dcMmove pmMmove cdMmove ctMmove : Value} 
    (aMmove : PySem.W.findIn K (.ref CSes) "move" = some (some (.ref fMmove)))
    (lMmove : K.lookup fMmove = some ⟨ocMmove, odMmove, .func (PySem.W.fnOf "move" "Session.move" (defArgs iSession_move) (defBody iSession_move) (defScope iSession_move) .none kVMmove dcMmove pmMmove anMmove cdMmove ctMmove), slMmove⟩)
    (cMmove : PySem.W.codeIn K cdMmove "Session.move" = true) (kMmove : PySem.W.keepIn K (.ref fMmove) = true) (nMmove : PySem.W.isFn K (.ref fMmove) = true)
    {fMenter : Addr} {odMenter anMenter : Option Addr} {slMenter : Array (Option Value)} {ocMenter kVMenter dcMenter pmMenter cdMenter ctMenter : Value} 
    (aMenter : PySem.W.findIn K (.ref CSes) "enter" = some (some (.ref fMenter)))
    (lMenter : K.lookup fMenter = some ⟨ocMenter, odMenter, .func (PySem.W.fnOf "enter" "Session.enter" (defArgs iSession_enter) (defBody iSession_enter) (defScope iSession_enter) .none kVMenter dcMenter pmMenter anMenter cdMenter ctMenter), slMenter⟩)
    (cMenter : PySem.W.codeIn K cdMenter "Session.enter" = true) (kMenter : PySem.W.keepIn K (.ref fMenter) = true) (nMenter : PySem.W.isFn K (.ref fMenter) = true)
    {fMleave : Addr} {odMleave anMleave : Option Addr} {slMleave : Array (Option Value)} {ocMleave kVMleave dcMleave pmMleave cdMleave ctMleave : Value} 
    (aMleave : PySem.W.findIn K (.ref CSes) "leave" = some (some (.ref fMleave)))
    (lMleave : K.lookup fMleave = some ⟨ocMleave, odMleave, .func (PySem.W.fnOf "leave" "Session.leave" (defArgs iSession_leave) (defBody iSession_leave) (defScope iSession_leave) .none kVMleave dcMleave pmMleave anMleave cdMleave ctMleave), slMleave⟩)
    (cMleave : PySem.W.codeIn K cdMleave "Session.leave" = true) (kMleave : PySem.W.keepIn K (.ref fMleave) = true) (nMleave : PySem.W.isFn K (.ref fMleave) = true)
    {fMset_target : Addr} {odMset_target anMset_target : Option Addr} {slMset_target : Array (Option Value)} {ocMset_target kVMset_target dcMset_target pmMset_target cdMset_target ctMset_target : Value} 
    (aMset_target : PySem.W.findIn K (.ref CSes) "set_target" = some (some (.ref fMset_target)))
    (lMset_target : K.lookup fMset_target = some ⟨ocMset_target, odMset_target, .func (PySem.W.fnOf "set_target" "Session.set_target" (defArgs iSession_set_target) (defBody iSession_set_target) (defScope iSession_set_target) .none kVMset_target dcMset_target pmMset_target anMset_target cdMset_target ctMset_target), slMset_target⟩)
    (cMset_target : PySem.W.codeIn K cdMset_target "Session.set_target" = true) (kMset_target : PySem.W.keepIn K (.ref fMset_target) = true) (nMset_target : PySem.W.isFn K (.ref fMset_target) = true)
    {fMact : Addr} {odMact anMact : Option Addr} {slMact : Array (Option Value)} {ocMact kVMact dcMact pmMact cdMact ctMact : Value} 
    (aMact : PySem.W.findIn K (.ref CSes) "act" = some (some (.ref fMact)))
    (lMact : K.lookup fMact = some ⟨ocMact, odMact, .func (PySem.W.fnOf "act" "Session.act" (defArgs iSession_act) (defBody iSession_act) (defScope iSession_act) .none kVMact dcMact pmMact anMact cdMact ctMact), slMact⟩)
    (cMact : PySem.W.codeIn K cdMact "Session.act" = true) (kMact : PySem.W.keepIn K (.ref fMact) = true) (nMact : PySem.W.isFn K (.ref fMact) = true)
    {fMrefuse_if_busy : Addr} {odMrefuse_if_busy anMrefuse_if_busy : Option Addr} {slMrefuse_if_busy : Array (Option Value)} {ocMrefuse_if_busy kVMrefuse_if_busy dcMrefuse_if_busy pmMrefuse_if_busy cdMrefuse_if_busy ctMrefuse_if_busy : Value} 
    (aMrefuse_if_busy : PySem.W.findIn K (.ref CSes) "refuse_if_busy" = some (some (.ref fMrefuse_if_busy)))
    (lMrefuse_if_busy : K.lookup fMrefuse_if_busy = some ⟨ocMrefuse_if_busy, odMrefuse_if_busy, .func (PySem.W.fnOf "refuse_if_busy" "Session.refuse_if_busy" (defArgs iSession_refuse_if_busy) (defBody iSession_refuse_if_busy) (defScope iSession_refuse_if_busy) .none kVMrefuse_if_busy dcMrefuse_if_busy pmMrefuse_if_busy anMrefuse_if_busy cdMrefuse_if_busy ctMrefuse_if_busy), slMrefuse_if_busy⟩)
    (cMrefuse_if_busy : PySem.W.codeIn K cdMrefuse_if_busy "Session.refuse_if_busy" = true) (kMrefuse_if_busy : PySem.W.keepIn K (.ref fMrefuse_if_busy) = true) (nMrefuse_if_busy : PySem.W.isFn K (.ref fMrefuse_if_busy) = true)
    {fMapply_action : Addr} {odMapply_action anMapply_action : Option Addr} {slMapply_action : Array (Option Value)} {ocMapply_action kVMapply_action dcMapply_action pmMapply_action cdMapply_action ctMapply_action : Value} 
    (aMapply_action : PySem.W.findIn K (.ref CSes) "apply_action" = some (some (.ref fMapply_action)))
    (lMapply_action : K.lookup fMapply_action = some ⟨ocMapply_action, odMapply_action, .func (PySem.W.fnOf "apply_action" "Session.apply_action" (defArgs iSession_apply_action) (defBody iSession_apply_action) (defScope iSession_apply_action) .none kVMapply_action dcMapply_action pmMapply_action anMapply_action cdMapply_action ctMapply_action), slMapply_action⟩)
    (cMapply_action : PySem.W.codeIn K cdMapply_action "Session.apply_action" = true) (kMapply_action : PySem.W.keepIn K (.ref fMapply_action) = true) (nMapply_action : PySem.W.isFn K (.ref fMapply_action) = true)
    {fMstate_at : Addr} {odMstate_at anMstate_at : Option Addr} {slMstate_at : Array (Option Value)} {ocMstate_at kVMstate_at dcMstate_at pmMstate_at cdMstate_at ctMstate_at : Value} 
    (aMstate_at : PySem.W.findIn K (.ref CSes) "state_at" = some (some (.ref fMstate_at)))
    (lMstate_at : K.lookup fMstate_at = some ⟨ocMstate_at, odMstate_at, .func (PySem.W.fnOf "state_at" "Session.state_at" (defArgs iSession_state_at) (defBody iSession_state_at) (defScope iSession_state_at) .none kVMstate_at dcMstate_at pmMstate_at anMstate_at cdMstate_at ctMstate_at), slMstate_at⟩)
    (cMstate_at : PySem.W.codeIn K cdMstate_at "Session.state_at" = true) (kMstate_at : PySem.W.keepIn K (.ref fMstate_at) = true) (nMstate_at : PySem.W.isFn K (.ref fMstate_at) = true)
    {fMactions : Addr} {odMactions anMactions : Option Addr} {slMactions : Array (Option Value)} {ocMactions kVMactions dcMactions pmMactions cdMactions ctMactions : Value} 
    (aMactions : PySem.W.findIn K (.ref CSes) "actions" = some (some (.ref fMactions)))
    (lMactions : K.lookup fMactions = some ⟨ocMactions, odMactions, .func (PySem.W.fnOf "actions" "Session.actions" (defArgs iSession_actions) (defBody iSession_actions) (defScope iSession_actions) .none kVMactions dcMactions pmMactions anMactions cdMactions ctMactions), slMactions⟩)
    (cMactions : PySem.W.codeIn K cdMactions "Session.actions" = true) (kMactions : PySem.W.keepIn K (.ref fMactions) = true) (nMactions : PySem.W.isFn K (.ref fMactions) = true)
    {fMlen : Addr} {odMlen anMlen : Option Addr} {slMlen : Array (Option Value)} {ocMlen kVMlen dcMlen pmMlen cdMlen ctMlen : Value} 
    (aMlen : PySem.W.findIn K (.ref CSes) "__len__" = some (some (.ref fMlen)))
    (lMlen : K.lookup fMlen = some ⟨ocMlen, odMlen, .func (PySem.W.fnOf "__len__" "Session.__len__" (defArgs iSession___len__) (defBody iSession___len__) (defScope iSession___len__) .none kVMlen dcMlen pmMlen anMlen cdMlen ctMlen), slMlen⟩)
    (cMlen : PySem.W.codeIn K cdMlen "Session.__len__" = true) (kMlen : PySem.W.keepIn K (.ref fMlen) = true) (nMlen : PySem.W.isFn K (.ref fMlen) = true)
    {fMstr : Addr} {odMstr anMstr : Option Addr} {slMstr : Array (Option Value)} {ocMstr kVMstr dcMstr pmMstr cdMstr ctMstr : Value} 
    (aMstr : PySem.W.findIn K (.ref CSes) "__str__" = some (some (.ref fMstr)))
    (lMstr : K.lookup fMstr = some ⟨ocMstr, odMstr, .func (PySem.W.fnOf "__str__" "Session.__str__" (defArgs iSession___str__) (defBody iSession___str__) (defScope iSession___str__) .none kVMstr dcMstr pmMstr anMstr cdMstr ctMstr), slMstr⟩)
    (cMstr : PySem.W.codeIn K cdMstr "Session.__str__" = true) (kMstr : PySem.W.keepIn K (.ref fMstr) = true) (nMstr : PySem.W.isFn K (.ref fMstr) = true)
    {fMhouse : Addr} {odMhouse anMhouse : Option Addr} {slMhouse : Array (Option Value)} {ocMhouse  dcMhouse pmMhouse cdMhouse ctMhouse : Value} {DMhouse : Addr}
    (aMhouse : PySem.W.findIn K (.ref CSes) "house" = some (some (.ref fMhouse)))
    (lMhouse : K.lookup fMhouse = some ⟨ocMhouse, odMhouse, .func (PySem.W.fnOf "house" "Session.house" (defArgs iSession_house) (defBody iSession_house) (defScope iSession_house) .none (.ref DMhouse) dcMhouse pmMhouse anMhouse cdMhouse ctMhouse), slMhouse⟩)
    (cMhouse : PySem.W.codeIn K cdMhouse "Session.house" = true) (kMhouse : PySem.W.keepIn K (.ref fMhouse) = true) (nMhouse : PySem.W.isFn K (.ref fMhouse) = true)
    (dMhouse : PySem.W.nsIn K DMhouse "moment" = some (some .none))
    {fMplacement : Addr} {odMplacement anMplacement : Option Addr} {slMplacement : Array (Option Value)} {ocMplacement  dcMplacement pmMplacement cdMplacement ctMplacement : Value} {DMplacement : Addr}
    (aMplacement : PySem.W.findIn K (.ref CSes) "placement" = some (some (.ref fMplacement)))
    (lMplacement : K.lookup fMplacement = some ⟨ocMplacement, odMplacement, .func (PySem.W.fnOf "placement" "Session.placement" (defArgs iSession_placement) (defBody iSession_placement) (defScope iSession_placement) .none (.ref DMplacement) dcMplacement pmMplacement anMplacement cdMplacement ctMplacement), slMplacement⟩)
    (cMplacement : PySem.W.codeIn K cdMplacement "Session.placement" = true) (kMplacement : PySem.W.keepIn K (.ref fMplacement) = true) (nMplacement : PySem.W.isFn K (.ref fMplacement) = true)
    (dMplacement : PySem.W.nsIn K DMplacement "moment" = some (some .none))
    {fMtargets : Addr} {odMtargets anMtargets : Option Addr} {slMtargets : Array (Option Value)} {ocMtargets  dcMtargets pmMtargets cdMtargets ctMtargets : Value} {DMtargets : Addr}
    (aMtargets : PySem.W.findIn K (.ref CSes) "targets" = some (some (.ref fMtargets)))
    (lMtargets : K.lookup fMtargets = some ⟨ocMtargets, odMtargets, .func (PySem.W.fnOf "targets" "Session.targets" (defArgs iSession_targets) (defBody iSession_targets) (defScope iSession_targets) .none (.ref DMtargets) dcMtargets pmMtargets anMtargets cdMtargets ctMtargets), slMtargets⟩)
    (cMtargets : PySem.W.codeIn K cdMtargets "Session.targets" = true) (kMtargets : PySem.W.keepIn K (.ref fMtargets) = true) (nMtargets : PySem.W.isFn K (.ref fMtargets) = true)
    (dMtargets : PySem.W.nsIn K DMtargets "moment" = some (some .none))
    {dC : Addr} {esC : Array DictEntry} {nC : Nat} (hA : PySem.W.nsIn K mainGlobals "CHANGES" = some (some (.ref dC))) (hB : K.lookup dC = some ⟨.type "dict", none, .dict esC nC, #[]⟩) (hC : PySem.W.KeysLit w.params esC.toList) (hD : (dC == sysModules) = false)
    {tHafter_move fHafter_move : Addr} {odHafter_move anHafter_move odtHafter_move : Option Addr} {slHafter_move sltHafter_move : Array (Option Value)} {ocHafter_move kVHafter_move dcHafter_move pmHafter_move cdHafter_move ctHafter_move : Value} {nHafter_move : Nat} {iHafter_move : Int} {kHafter_move : Tok}
    (aHafter_move : PySem.W.nsIn K dC "move" = some (some (.ref tHafter_move))) (eHafter_move : K.lookup tHafter_move = some ⟨.type "tuple", odtHafter_move, .seq #[.ref fHafter_move, .int iHafter_move kHafter_move] nHafter_move, sltHafter_move⟩)
    (lHafter_move : K.lookup fHafter_move = some ⟨ocHafter_move, odHafter_move, .func (PySem.W.fnOf "after_move" "after_move" (defArgs sAfterMove) (defBody sAfterMove) (defScope sAfterMove) .none kVHafter_move dcHafter_move pmHafter_move anHafter_move cdHafter_move ctHafter_move), slHafter_move⟩)
    (cHafter_move : PySem.W.codeIn K cdHafter_move "after_move" = true) (qHafter_move : PySem.W.keepIn K (.ref fHafter_move) = true)
    {tHafter_enter fHafter_enter : Addr} {odHafter_enter anHafter_enter odtHafter_enter : Option Addr} {slHafter_enter sltHafter_enter : Array (Option Value)} {ocHafter_enter kVHafter_enter dcHafter_enter pmHafter_enter cdHafter_enter ctHafter_enter : Value} {nHafter_enter : Nat} {iHafter_enter : Int} {kHafter_enter : Tok}
    (aHafter_enter : PySem.W.nsIn K dC "enter" = some (some (.ref tHafter_enter))) (eHafter_enter : K.lookup tHafter_enter = some ⟨.type "tuple", odtHafter_enter, .seq #[.ref fHafter_enter, .int iHafter_enter kHafter_enter] nHafter_enter, sltHafter_enter⟩)
    (lHafter_enter : K.lookup fHafter_enter = some ⟨ocHafter_enter, odHafter_enter, .func (PySem.W.fnOf "after_enter" "after_enter" (defArgs sAfterEnter) (defBody sAfterEnter) (defScope sAfterEnter) .none kVHafter_enter dcHafter_enter pmHafter_enter anHafter_enter cdHafter_enter ctHafter_enter), slHafter_enter⟩)
    (cHafter_enter : PySem.W.codeIn K cdHafter_enter "after_enter" = true) (qHafter_enter : PySem.W.keepIn K (.ref fHafter_enter) = true)
    {tHafter_leave fHafter_leave : Addr} {odHafter_leave anHafter_leave odtHafter_leave : Option Addr} {slHafter_leave sltHafter_leave : Array (Option Value)} {ocHafter_leave kVHafter_leave dcHafter_leave pmHafter_leave cdHafter_leave ctHafter_leave : Value} {nHafter_leave : Nat} {iHafter_leave : Int} {kHafter_leave : Tok}
    (aHafter_leave : PySem.W.nsIn K dC "leave" = some (some (.ref tHafter_leave))) (eHafter_leave : K.lookup tHafter_leave = some ⟨.type "tuple", odtHafter_leave, .seq #[.ref fHafter_leave, .int iHafter_leave kHafter_leave] nHafter_leave, sltHafter_leave⟩)
    (lHafter_leave : K.lookup fHafter_leave = some ⟨ocHafter_leave, odHafter_leave, .func (PySem.W.fnOf "after_leave" "after_leave" (defArgs sAfterLeave) (defBody sAfterLeave) (defScope sAfterLeave) .none kVHafter_leave dcHafter_leave pmHafter_leave anHafter_leave cdHafter_leave ctHafter_leave), slHafter_leave⟩)
    (cHafter_leave : PySem.W.codeIn K cdHafter_leave "after_leave" = true) (qHafter_leave : PySem.W.keepIn K (.ref fHafter_leave) = true)
    {tHafter_set_target fHafter_set_target : Addr} {odHafter_set_target anHafter_set_target odtHafter_set_target : Option Addr} {slHafter_set_target sltHafter_set_target : Array (Option Value)} {ocHafter_set_target kVHafter_set_target dcHafter_set_target pmHafter_set_target cdHafter_set_target ctHafter_set_target : Value} {nHafter_set_target : Nat} {iHafter_set_target : Int} {kHafter_set_target : Tok}
    (aHafter_set_target : PySem.W.nsIn K dC "set_target" = some (some (.ref tHafter_set_target))) (eHafter_set_target : K.lookup tHafter_set_target = some ⟨.type "tuple", odtHafter_set_target, .seq #[.ref fHafter_set_target, .int iHafter_set_target kHafter_set_target] nHafter_set_target, sltHafter_set_target⟩)
    (lHafter_set_target : K.lookup fHafter_set_target = some ⟨ocHafter_set_target, odHafter_set_target, .func (PySem.W.fnOf "after_set_target" "after_set_target" (defArgs sAfterSetTarget) (defBody sAfterSetTarget) (defScope sAfterSetTarget) .none kVHafter_set_target dcHafter_set_target pmHafter_set_target anHafter_set_target cdHafter_set_target ctHafter_set_target), slHafter_set_target⟩)
    (cHafter_set_target : PySem.W.codeIn K cdHafter_set_target "after_set_target" = true) (qHafter_set_target : PySem.W.keepIn K (.ref fHafter_set_target) = true)
    {f46 : Addr} {od46 an46 : Option Addr} {sl46 : Array (Option Value)} {oc46 kV46 dc46 pm46 cd46 ct46 : Value}
    (a46 : PySem.W.nsIn K mainGlobals "law" = some (some (.ref f46)))
    (l46 : K.lookup f46 = some ⟨oc46, od46, .func (PySem.W.fnOf "law" "law" (defArgs sLaw) (defBody sLaw) (defScope sLaw) .none kV46 dc46 pm46 an46 cd46 ct46), sl46⟩)
    (c46 : PySem.W.codeIn K cd46 "law" = true) (k46 : PySem.W.keepIn K (.ref f46) = true)
    (z_abs : PySem.W.nsIn K mainGlobals "abs" = some none) (z_len : PySem.W.nsIn K mainGlobals "len" = some none) (z_list : PySem.W.nsIn K mainGlobals "list" = some none) (z_range : PySem.W.nsIn K mainGlobals "range" = some none) (z_min : PySem.W.nsIn K mainGlobals "min" = some none) (z_max : PySem.W.nsIn K mainGlobals "max" = some none) (z_tuple : PySem.W.nsIn K mainGlobals "tuple" = some none) (z_sorted : PySem.W.nsIn K mainGlobals "sorted" = some none) (z_isinstance : PySem.W.nsIn K mainGlobals "isinstance" = some none) (z_all : PySem.W.nsIn K mainGlobals "all" = some none) (z_zip : PySem.W.nsIn K mainGlobals "zip" = some none) (z_bool : PySem.W.nsIn K mainGlobals "bool" = some none) (z_int : PySem.W.nsIn K mainGlobals "int" = some none) (z_str : PySem.W.nsIn K mainGlobals "str" = some none) (z_repr : PySem.W.nsIn K mainGlobals "repr" = some none) (z_ValueError : PySem.W.nsIn K mainGlobals "ValueError" = some none) (z_dict : PySem.W.nsIn K mainGlobals "dict" = some none) (z_enumerate : PySem.W.nsIn K mainGlobals "enumerate" = some none) : LawAt P w K mg 13 fa (spLaw K) := by
  have e := hfa.symm.trans (PySem.W.mg_of X G a46)
  cases e
  have T : Nm mg := ⟨PySem.W.mg_none_of X G z_abs, PySem.W.mg_none_of X G z_len, PySem.W.mg_none_of X G z_list, PySem.W.mg_none_of X G z_range, PySem.W.mg_none_of X G z_min, PySem.W.mg_none_of X G z_max, PySem.W.mg_none_of X G z_tuple, PySem.W.mg_none_of X G z_sorted, PySem.W.mg_none_of X G z_isinstance, PySem.W.mg_none_of X G z_all, PySem.W.mg_none_of X G z_zip, PySem.W.mg_none_of X G z_bool, PySem.W.mg_none_of X G z_int, PySem.W.mg_none_of X G z_str, PySem.W.mg_none_of X G z_repr⟩
  obtain ⟨hUnknownPerson, vUnknownPerson⟩ := cf_mk (x := "UnknownPerson") (q := "UnknownPerson.__init__") (st := iUnknownPerson) (ps := ["self", "name"]) X G (fun fd F => F.binds fun _ _ _ _ _ _ us hl => match us, hl with | [_, _], _ => rfl) uUnknownPersona uUnknownPersonb uUnknownPersonc uUnknownPersond uUnknownPersone uUnknownPersonf uUnknownPersong uUnknownPersonh uUnknownPersoni uUnknownPersonj uUnknownPersonk uUnknownPersonl uUnknownPersonm uUnknownPersonn uUnknownPersonp uUnknownPersonq
  obtain ⟨hInvalidRoom, vInvalidRoom⟩ := cf_mk (x := "InvalidRoom") (q := "InvalidRoom.__init__") (st := iInvalidRoom) (ps := ["self", "room"]) X G (fun fd F => F.binds fun _ _ _ _ _ _ us hl => match us, hl with | [_, _], _ => rfl) uInvalidRooma uInvalidRoomb uInvalidRoomc uInvalidRoomd uInvalidRoome uInvalidRoomf uInvalidRoomg uInvalidRoomh uInvalidRoomi uInvalidRoomj uInvalidRoomk uInvalidRooml uInvalidRoomm uInvalidRoomn uInvalidRoomp uInvalidRoomq
  obtain ⟨hNotAdjacent, vNotAdjacent⟩ := cf_mk (x := "NotAdjacent") (q := "NotAdjacent.__init__") (st := iNotAdjacent) (ps := ["self", "room"]) X G (fun fd F => F.binds fun _ _ _ _ _ _ us hl => match us, hl with | [_, _], _ => rfl) uNotAdjacenta uNotAdjacentb uNotAdjacentc uNotAdjacentd uNotAdjacente uNotAdjacentf uNotAdjacentg uNotAdjacenth uNotAdjacenti uNotAdjacentj uNotAdjacentk uNotAdjacentl uNotAdjacentm uNotAdjacentn uNotAdjacentp uNotAdjacentq
  obtain ⟨hEmptyRoom, vEmptyRoom⟩ := cf_mk (x := "EmptyRoom") (q := "EmptyRoom.__init__") (st := iEmptyRoom) (ps := ["self", "room"]) X G (fun fd F => F.binds fun _ _ _ _ _ _ us hl => match us, hl with | [_, _], _ => rfl) uEmptyRooma uEmptyRoomb uEmptyRoomc uEmptyRoomd uEmptyRoome uEmptyRoomf uEmptyRoomg uEmptyRoomh uEmptyRoomi uEmptyRoomj uEmptyRoomk uEmptyRooml uEmptyRoomm uEmptyRoomn uEmptyRoomp uEmptyRoomq
  obtain ⟨hInvalidName, vInvalidName⟩ := cf_mk (x := "InvalidName") (q := "InvalidName.__init__") (st := iInvalidName) (ps := ["self", "name"]) X G (fun fd F => F.binds fun _ _ _ _ _ _ us hl => match us, hl with | [_, _], _ => rfl) uInvalidNamea uInvalidNameb uInvalidNamec uInvalidNamed uInvalidNamee uInvalidNamef uInvalidNameg uInvalidNameh uInvalidNamei uInvalidNamej uInvalidNamek uInvalidNamel uInvalidNamem uInvalidNamen uInvalidNamep uInvalidNameq
  obtain ⟨hDuplicateName, vDuplicateName⟩ := cf_mk (x := "DuplicateName") (q := "DuplicateName.__init__") (st := iDuplicateName) (ps := ["self", "name"]) X G (fun fd F => F.binds fun _ _ _ _ _ _ us hl => match us, hl with | [_, _], _ => rfl) uDuplicateNamea uDuplicateNameb uDuplicateNamec uDuplicateNamed uDuplicateNamee uDuplicateNamef uDuplicateNameg uDuplicateNameh uDuplicateNamei uDuplicateNamej uDuplicateNamek uDuplicateNamel uDuplicateNamem uDuplicateNamen uDuplicateNamep uDuplicateNameq
  obtain ⟨hLimitReached, vLimitReached⟩ := cf_mk (x := "LimitReached") (q := "LimitReached.__init__") (st := iLimitReached) (ps := ["self", "limit"]) X G (fun fd F => F.binds fun _ _ _ _ _ _ us hl => match us, hl with | [_, _], _ => rfl) uLimitReacheda uLimitReachedb uLimitReachedc uLimitReachedd uLimitReachede uLimitReachedf uLimitReachedg uLimitReachedh uLimitReachedi uLimitReachedj uLimitReachedk uLimitReachedl uLimitReachedm uLimitReachedn uLimitReachedp uLimitReachedq
  obtain ⟨hAlreadyAdjacent, vAlreadyAdjacent⟩ := cf_mk (x := "AlreadyAdjacent") (q := "AlreadyAdjacent.__init__") (st := iAlreadyAdjacent) (ps := ["self", "room"]) X G (fun fd F => F.binds fun _ _ _ _ _ _ us hl => match us, hl with | [_, _], _ => rfl) uAlreadyAdjacenta uAlreadyAdjacentb uAlreadyAdjacentc uAlreadyAdjacentd uAlreadyAdjacente uAlreadyAdjacentf uAlreadyAdjacentg uAlreadyAdjacenth uAlreadyAdjacenti uAlreadyAdjacentj uAlreadyAdjacentk uAlreadyAdjacentl uAlreadyAdjacentm uAlreadyAdjacentn uAlreadyAdjacentp uAlreadyAdjacentq
  obtain ⟨hWouldFormCycle, vWouldFormCycle⟩ := cf_mk (x := "WouldFormCycle") (q := "WouldFormCycle.__init__") (st := iWouldFormCycle) (ps := ["self", "room"]) X G (fun fd F => F.binds fun _ _ _ _ _ _ us hl => match us, hl with | [_, _], _ => rfl) uWouldFormCyclea uWouldFormCycleb uWouldFormCyclec uWouldFormCycled uWouldFormCyclee uWouldFormCyclef uWouldFormCycleg uWouldFormCycleh uWouldFormCyclei uWouldFormCyclej uWouldFormCyclek uWouldFormCyclel uWouldFormCyclem uWouldFormCyclen uWouldFormCyclep uWouldFormCycleq
  obtain ⟨hNothingToUndo, vNothingToUndo⟩ := cf_mk (x := "NothingToUndo") (q := "NothingToUndo.__init__") (st := iNothingToUndo) (ps := ["self"]) X G (fun fd F => F.binds fun _ _ _ _ _ _ us hl => match us, hl with | [_], _ => rfl) uNothingToUndoa uNothingToUndob uNothingToUndoc uNothingToUndod uNothingToUndoe uNothingToUndof uNothingToUndog uNothingToUndoh uNothingToUndoi uNothingToUndoj uNothingToUndok uNothingToUndol uNothingToUndom uNothingToUndon uNothingToUndop uNothingToUndoq
  obtain ⟨hHistoryFull, vHistoryFull⟩ := cf_mk (x := "HistoryFull") (q := "HistoryFull.__init__") (st := iHistoryFull) (ps := ["self"]) X G (fun fd F => F.binds fun _ _ _ _ _ _ us hl => match us, hl with | [_], _ => rfl) uHistoryFulla uHistoryFullb uHistoryFullc uHistoryFulld uHistoryFulle uHistoryFullf uHistoryFullg uHistoryFullh uHistoryFulli uHistoryFullj uHistoryFullk uHistoryFulll uHistoryFullm uHistoryFulln uHistoryFullp uHistoryFullq
  obtain ⟨hSessionBusy, vSessionBusy⟩ := cf_mk (x := "SessionBusy") (q := "SessionBusy.__init__") (st := iSessionBusy) (ps := ["self"]) X G (fun fd F => F.binds fun _ _ _ _ _ _ us hl => match us, hl with | [_], _ => rfl) uSessionBusya uSessionBusyb uSessionBusyc uSessionBusyd uSessionBusye uSessionBusyf uSessionBusyg uSessionBusyh uSessionBusyi uSessionBusyj uSessionBusyk uSessionBusyl uSessionBusym uSessionBusyn uSessionBusyp uSessionBusyq
  obtain ⟨hInvalidActions, vInvalidActions⟩ := cf_mk (x := "InvalidActions") (q := "InvalidActions.__init__") (st := iInvalidActions) (ps := ["self"]) X G (fun fd F => F.binds fun _ _ _ _ _ _ us hl => match us, hl with | [_], _ => rfl) uInvalidActionsa uInvalidActionsb uInvalidActionsc uInvalidActionsd uInvalidActionse uInvalidActionsf uInvalidActionsg uInvalidActionsh uInvalidActionsi uInvalidActionsj uInvalidActionsk uInvalidActionsl uInvalidActionsm uInvalidActionsn uInvalidActionsp uInvalidActionsq
  obtain ⟨hBatchFailed, vBatchFailed⟩ := cf_mk (x := "BatchFailed") (q := "BatchFailed.__init__") (st := iBatchFailed) (ps := ["self", "position"]) X G (fun fd F => F.binds fun _ _ _ _ _ _ us hl => match us, hl with | [_, _], _ => rfl) uBatchFaileda uBatchFailedb uBatchFailedc uBatchFailedd uBatchFailede uBatchFailedf uBatchFailedg uBatchFailedh uBatchFailedi uBatchFailedj uBatchFailedk uBatchFailedl uBatchFailedm uBatchFailedn uBatchFailedp uBatchFailedq
  obtain ⟨hInvalidMoment, vInvalidMoment⟩ := cf_mk (x := "InvalidMoment") (q := "InvalidMoment.__init__") (st := iInvalidMoment) (ps := ["self", "position"]) X G (fun fd F => F.binds fun _ _ _ _ _ _ us hl => match us, hl with | [_, _], _ => rfl) uInvalidMomenta uInvalidMomentb uInvalidMomentc uInvalidMomentd uInvalidMomente uInvalidMomentf uInvalidMomentg uInvalidMomenth uInvalidMomenti uInvalidMomentj uInvalidMomentk uInvalidMomentl uInvalidMomentm uInvalidMomentn uInvalidMomentp uInvalidMomentq
  obtain ⟨hBlocked, vBlocked⟩ := cf_mk (x := "Blocked") (q := "Blocked.__init__") (st := iBlocked) (ps := ["self", "block"]) X G (fun fd F => F.binds fun _ _ _ _ _ _ us hl => match us, hl with | [_, _], _ => rfl) uBlockeda uBlockedb uBlockedc uBlockedd uBlockede uBlockedf uBlockedg uBlockedh uBlockedi uBlockedj uBlockedk uBlockedl uBlockedm uBlockedn uBlockedp uBlockedq
  have F1 := fun_mk (st := sIsInt) l1 c1 k1
  have b1 := F1.binds (ps := ["value"]) fun _ _ _ _ _ _ us hl => match us, hl with | [_], _ => rfl
  have F2 := fun_mk (st := sIsName) l2 c2 k2
  have b2 := F2.binds (ps := ["value"]) fun _ _ _ _ _ _ us hl => match us, hl with | [_], _ => rfl
  have F3 := fun_mk (st := sIsPair) l3 c3 k3
  have b3 := F3.binds (ps := ["value"]) fun _ _ _ _ _ _ us hl => match us, hl with | [_], _ => rfl
  have F4 := fun_mk (st := sIsAsc) l4 c4 k4
  have b4 := F4.binds (ps := ["sequence"]) fun _ _ _ _ _ _ us hl => match us, hl with | [_], _ => rfl
  have F5 := fun_mk (st := sIsHouse) l5 c5 k5
  have b5 := F5.binds (ps := ["value"]) fun _ _ _ _ _ _ us hl => match us, hl with | [_], _ => rfl
  have F6 := fun_mk (st := sIsRoom) l6 c6 k6
  have b6 := F6.binds (ps := ["house", "value"]) fun _ _ _ _ _ _ us hl => match us, hl with | [_, _], _ => rfl
  have F7 := fun_mk (st := sIsDoor) l7 c7 k7
  have b7 := F7.binds (ps := ["rooms", "value"]) fun _ _ _ _ _ _ us hl => match us, hl with | [_, _], _ => rfl
  have F8 := fun_mk (st := sHasCyc) l8 c8 k8
  have b8 := F8.binds (ps := ["rooms", "doors"]) fun _ _ _ _ _ _ us hl => match us, hl with | [_, _], _ => rfl
  have F9 := fun_mk (st := sNb) l9 c9 k9
  have b9 := F9.binds (ps := ["house", "room"]) fun _ _ _ _ _ _ us hl => match us, hl with | [_, _], _ => rfl
  have F10 := fun_mk (st := sPath) l10 c10 k10
  have b10 := F10.binds (ps := ["house", "a", "b"]) fun _ _ _ _ _ _ us hl => match us, hl with | [_, _, _], _ => rfl
  have F11 := fun_mk (st := sSteps) l11 c11 k11
  have b11 := F11.binds (ps := ["house", "goal", "rooms"]) fun _ _ _ _ _ _ us hl => match us, hl with | [_, _, _], _ => rfl
  have F12 := fun_mk (st := sIsPl) l12 c12 k12
  have b12 := F12.binds (ps := ["house", "value"]) fun _ _ _ _ _ _ us hl => match us, hl with | [_, _], _ => rfl
  have F13 := fun_mk (st := sIsPR) l13 c13 k13
  have b13 := F13.binds (ps := ["house", "value"]) fun _ _ _ _ _ _ us hl => match us, hl with | [_, _], _ => rfl
  have F14 := fun_mk (st := sNamesOf) l14 c14 k14
  have b14 := F14.binds (ps := ["placement"]) fun _ _ _ _ _ _ us hl => match us, hl with | [_], _ => rfl
  have F15 := fun_mk (st := sRoomOf) l15 c15 k15
  have b15 := F15.binds (ps := ["placement", "name"]) fun _ _ _ _ _ _ us hl => match us, hl with | [_, _], _ => rfl
  have F16 := fun_mk (st := sWith) l16 c16 k16
  have b16 := F16.binds (ps := ["placement", "name", "room"]) fun _ _ _ _ _ _ us hl => match us, hl with | [_, _, _], _ => rfl
  have F17 := fun_mk (st := sPIn) l17 c17 k17
  have b17 := F17.binds (ps := ["placement", "room"]) fun _ _ _ _ _ _ us hl => match us, hl with | [_, _], _ => rfl
  have F18 := fun_mk (st := sPWi) l18 c18 k18
  have b18 := F18.binds (ps := ["placement", "rooms"]) fun _ _ _ _ _ _ us hl => match us, hl with | [_, _], _ => rfl
  have F19 := fun_mk (st := sMove) l19 c19 k19
  have b19 := F19.binds (ps := ["house", "placement", "name", "room"]) fun _ _ _ _ _ _ us hl => match us, hl with | [_, _, _, _], _ => rfl
  have F20 := fun_mk (st := sRefuseNoRoom) l20 c20 k20
  have b20 := F20.binds (ps := ["house", "room"]) fun _ _ _ _ _ _ us hl => match us, hl with | [_, _], _ => rfl
  have F21 := fun_mk (st := sWithMore) l21 c21 k21
  have b21 := F21.binds (ps := ["pairs", "pair"]) fun _ _ _ _ _ _ us hl => match us, hl with | [_, _], _ => rfl
  have F22 := fun_mk (st := sWithout) l22 c22 k22
  have b22 := F22.binds (ps := ["pairs", "pair"]) fun _ _ _ _ _ _ us hl => match us, hl with | [_, _], _ => rfl
  have F23 := fun_mk (st := sStateAfter) l23 c23 k23
  have b23 := F23.binds (ps := ["state", "action"]) fun _ _ _ _ _ _ us hl => match us, hl with | [_, _], _ => rfl
  have F24 := fun_mk (st := sHouseSize) l24 c24 k24
  have b24 := F24.binds (ps := ["house"]) fun _ _ _ _ _ _ us hl => match us, hl with | [_], _ => rfl
  have F25 := fun_mk (st := sStream) l25 c25 k25
  have b25 := F25.binds (ps := ["_law_script"]) fun _ _ _ _ _ _ us hl => match us, hl with | [_], _ => rfl
  have F26 := fun_mk (st := sNames) l26 c26 k26
  have b26 := F26.binds (ps := ["_law_stream_here", "_law_many"]) fun _ _ _ _ _ _ us hl => match us, hl with | [_, _], _ => rfl
  have F27 := fun_mk (st := sDraw) l27 c27 k27
  have b27 := F27.binds (ps := ["_law_stream_here", "_law_many"]) fun _ _ _ _ _ _ us hl => match us, hl with | [_, _], _ => rfl
  have F28 := fun_mk (st := sHouse) l28 c28 k28
  have b28 := F28.binds (ps := ["_law_stream_here", "_law_least", "_law_most"]) fun _ _ _ _ _ _ us hl => match us, hl with | [_, _, _], _ => rfl
  have F29 := fun_mk (st := sPl) l29 c29 k29
  have b29 := F29.binds (ps := ["_law_stream_here", "_law_house_here", "_law_most"]) fun _ _ _ _ _ _ us hl => match us, hl with | [_, _, _], _ => rfl
  have F30 := fun_mk (st := sLNb) l30 c30 k30
  have b30 := F30.binds (ps := ["_law_house_here", "_law_room"]) fun _ _ _ _ _ _ us hl => match us, hl with | [_, _], _ => rfl
  have F31 := fun_mk (st := sLMoved) l31 c31 k31
  have b31 := F31.binds (ps := ["_law_placement_here", "_law_name", "_law_room"]) fun _ _ _ _ _ _ us hl => match us, hl with | [_, _, _], _ => rfl
  have F32 := fun_mk (st := sLInt) l32 c32 k32
  have b32 := F32.binds (ps := ["_law_value", "_law_low", "_law_high"]) fun _ _ _ _ _ _ us hl => match us, hl with | [_, _, _], _ => rfl
  have F33 := fun_mk (st := sLIsName) l33 c33 k33
  have b33 := F33.binds (ps := ["_law_value"]) fun _ _ _ _ _ _ us hl => match us, hl with | [_], _ => rfl
  have F34 := fun_mk (st := sLApply) l34 c34 k34
  have b34 := F34.binds (ps := ["_law_session", "_law_action"]) fun _ _ _ _ _ _ us hl => match us, hl with | [_, _], _ => rfl
  have F35 := fun_mk (st := sLErrorName) l35 c35 k35
  have b35 := F35.binds (ps := ["_law_e"]) fun _ _ _ _ _ _ us hl => match us, hl with | [_], _ => rfl
  have F36 := fun_mk (st := sLErrorField) l36 c36 k36
  have b36 := F36.binds (ps := ["_law_e"]) fun _ _ _ _ _ _ us hl => match us, hl with | [_], _ => rfl
  have F37 := fun_mk (st := sLFullResult) l37 c37 k37
  have b37 := F37.binds (ps := ["_law_session", "_law_action"]) fun _ _ _ _ _ _ us hl => match us, hl with | [_, _], _ => rfl
  have F38 := fun_mk (st := sLWithout) l38 c38 k38
  have b38 := F38.binds (ps := ["_law_pairs", "_law_name"]) fun _ _ _ _ _ _ us hl => match us, hl with | [_, _], _ => rfl
  have F39 := fun_mk (st := sLPeopleOutcome) l39 c39 k39
  have b39 := F39.binds (ps := ["_law_state", "_law_action"]) fun _ _ _ _ _ _ us hl => match us, hl with | [_, _], _ => rfl
  have F40 := fun_mk (st := sLExpectedOutcome) l40 c40 k40
  have b40 := F40.binds (ps := ["_law_state", "_law_action"]) fun _ _ _ _ _ _ us hl => match us, hl with | [_, _], _ => rfl
  have F41 := fun_mk (st := sLSnapshot) l41 c41 k41
  have b41 := F41.binds (ps := ["_law_session"]) fun _ _ _ _ _ _ us hl => match us, hl with | [_], _ => rfl
  have F42 := fun_mk (st := sLExpectedSnapshot) l42 c42 k42
  have b42 := F42.binds (ps := ["_law_state", "_law_done"]) fun _ _ _ _ _ _ us hl => match us, hl with | [_, _], _ => rfl
  have F43 := fun_mk (st := sLRandomAction) l43 c43 k43
  have b43 := F43.binds (ps := ["_law_stream_here", "_law_state", "_law_words"]) fun _ _ _ _ _ _ us hl => match us, hl with | [_, _, _], _ => rfl
  have F44 := fun_mk (st := sLInitial) l44 c44 k44
  have b44 := F44.binds (ps := ["_law_stream_here", "_law_most", "_law_many"]) fun _ _ _ _ _ _ us hl => match us, hl with | [_, _, _], _ => rfl
  have F45 := fun_mk (st := sLRepeatedTurnHolds) l45 c45 k45
  have b45 := F45.binds (ps := ["_law_session", "_law_states", "_law_done", "_law_action"]) fun _ _ _ _ _ _ us hl => match us, hl with | [_, _, _, _], _ => rfl
  have FMinit := fun_mk (st := iSession) lMinit cMinit kMinit
  have bMinit := FMinit.binds (ps := ["self", "house", "placement"]) fun _ _ _ _ _ _ us hl => match us, hl with | [_, _, _], _ => rfl
  have FMmove := fun_mk (st := iSession_move) lMmove cMmove kMmove
  have bMmove := FMmove.binds (ps := ["self", "name", "room"]) fun _ _ _ _ _ _ us hl => match us, hl with | [_, _, _], _ => rfl
  have FMenter := fun_mk (st := iSession_enter) lMenter cMenter kMenter
  have bMenter := FMenter.binds (ps := ["self", "name", "room"]) fun _ _ _ _ _ _ us hl => match us, hl with | [_, _, _], _ => rfl
  have FMleave := fun_mk (st := iSession_leave) lMleave cMleave kMleave
  have bMleave := FMleave.binds (ps := ["self", "name"]) fun _ _ _ _ _ _ us hl => match us, hl with | [_, _], _ => rfl
  have FMset_target := fun_mk (st := iSession_set_target) lMset_target cMset_target kMset_target
  have bMset_target := FMset_target.binds (ps := ["self", "name", "room"]) fun _ _ _ _ _ _ us hl => match us, hl with | [_, _, _], _ => rfl
  have FMact := fun_mk (st := iSession_act) lMact cMact kMact
  have bMact := FMact.binds (ps := ["self", "action"]) fun _ _ _ _ _ _ us hl => match us, hl with | [_, _], _ => rfl
  have FMrefuse_if_busy := fun_mk (st := iSession_refuse_if_busy) lMrefuse_if_busy cMrefuse_if_busy kMrefuse_if_busy
  have bMrefuse_if_busy := FMrefuse_if_busy.binds (ps := ["self"]) fun _ _ _ _ _ _ us hl => match us, hl with | [_], _ => rfl
  have FMapply_action := fun_mk (st := iSession_apply_action) lMapply_action cMapply_action kMapply_action
  have bMapply_action := FMapply_action.binds (ps := ["self", "action"]) fun _ _ _ _ _ _ us hl => match us, hl with | [_, _], _ => rfl
  have FMstate_at := fun_mk (st := iSession_state_at) lMstate_at cMstate_at kMstate_at
  have bMstate_at := FMstate_at.binds (ps := ["self", "moment"]) fun _ _ _ _ _ _ us hl => match us, hl with | [_, _], _ => rfl
  have FMactions := fun_mk (st := iSession_actions) lMactions cMactions kMactions
  have bMactions := FMactions.binds (ps := ["self"]) fun _ _ _ _ _ _ us hl => match us, hl with | [_], _ => rfl
  have FMlen := fun_mk (st := iSession___len__) lMlen cMlen kMlen
  have bMlen := FMlen.binds (ps := ["self"]) fun _ _ _ _ _ _ us hl => match us, hl with | [_], _ => rfl
  have FMstr := fun_mk (st := iSession___str__) lMstr cMstr kMstr
  have bMstr := FMstr.binds (ps := ["self"]) fun _ _ _ _ _ _ us hl => match us, hl with | [_], _ => rfl
  have FHafter_move := fun_mk (st := sAfterMove) lHafter_move cHafter_move qHafter_move
  have bHafter_move := FHafter_move.binds (ps := ["state", "name", "room"]) fun _ _ _ _ _ _ us hl => match us, hl with | [_, _, _], _ => rfl
  have FHafter_enter := fun_mk (st := sAfterEnter) lHafter_enter cHafter_enter qHafter_enter
  have bHafter_enter := FHafter_enter.binds (ps := ["state", "name", "room"]) fun _ _ _ _ _ _ us hl => match us, hl with | [_, _, _], _ => rfl
  have FHafter_leave := fun_mk (st := sAfterLeave) lHafter_leave cHafter_leave qHafter_leave
  have bHafter_leave := FHafter_leave.binds (ps := ["state", "name"]) fun _ _ _ _ _ _ us hl => match us, hl with | [_, _], _ => rfl
  have FHafter_set_target := fun_mk (st := sAfterSetTarget) lHafter_set_target cHafter_set_target qHafter_set_target
  have bHafter_set_target := FHafter_set_target.binds (ps := ["state", "name", "room"]) fun _ _ _ _ _ _ us hl => match us, hl with | [_, _, _], _ => rfl
  have F46 := fun_mk (st := sLaw) l46 c46 k46
  have Z : All w K mg := ⟨T, PySem.W.mg_none_of X G z_ValueError, PySem.W.mg_none_of X G z_dict, PySem.W.mg_none_of X G z_enumerate, ⟨_, PySem.W.mg_of X G q0⟩, ⟨_, PySem.W.mg_of X G q1⟩, ⟨_, PySem.W.mg_of X G q2⟩, ⟨_, PySem.W.mg_of X G q3⟩, ⟨_, he_mk X G uHEa uHEb uHEc uHEd, ⟨_, _, _, vUnknownPerson, uUnknownPersono⟩, ⟨_, _, _, vInvalidRoom, uInvalidRoomo⟩, ⟨_, _, _, vNotAdjacent, uNotAdjacento⟩, ⟨_, _, _, vEmptyRoom, uEmptyRoomo⟩, ⟨_, _, _, vInvalidName, uInvalidNameo⟩, ⟨_, _, _, vDuplicateName, uDuplicateNameo⟩, ⟨_, _, _, vLimitReached, uLimitReachedo⟩, ⟨_, _, _, vAlreadyAdjacent, uAlreadyAdjacento⟩, ⟨_, _, _, vWouldFormCycle, uWouldFormCycleo⟩, ⟨_, _, _, vNothingToUndo⟩, ⟨_, _, _, vHistoryFull⟩, ⟨_, _, _, vSessionBusy⟩, ⟨_, _, _, vInvalidActions⟩, ⟨_, _, _, vBatchFailed, uBatchFailedo⟩, ⟨_, _, _, vInvalidMoment, uInvalidMomento⟩, ⟨_, _, _, vBlocked, uBlockedo⟩⟩, ⟨_, _, ⟨F1, b1, PySem.W.mg_of X G a1⟩⟩, ⟨_, _, ⟨F2, b2, PySem.W.mg_of X G a2⟩⟩, ⟨_, _, ⟨F3, b3, PySem.W.mg_of X G a3⟩⟩, ⟨_, _, ⟨F4, b4, PySem.W.mg_of X G a4⟩⟩, ⟨_, _, ⟨F5, b5, PySem.W.mg_of X G a5⟩⟩, ⟨_, _, ⟨F6, b6, PySem.W.mg_of X G a6⟩⟩, ⟨_, _, ⟨F7, b7, PySem.W.mg_of X G a7⟩⟩, ⟨_, _, ⟨F8, b8, PySem.W.mg_of X G a8⟩⟩, ⟨_, _, ⟨F9, b9, PySem.W.mg_of X G a9⟩⟩, ⟨_, _, ⟨F10, b10, PySem.W.mg_of X G a10⟩⟩, ⟨_, _, ⟨F11, b11, PySem.W.mg_of X G a11⟩⟩, ⟨_, _, ⟨F12, b12, PySem.W.mg_of X G a12⟩⟩, ⟨_, _, ⟨F13, b13, PySem.W.mg_of X G a13⟩⟩, ⟨_, _, ⟨F14, b14, PySem.W.mg_of X G a14⟩⟩, ⟨_, _, ⟨F15, b15, PySem.W.mg_of X G a15⟩⟩, ⟨_, _, ⟨F16, b16, PySem.W.mg_of X G a16⟩⟩, ⟨_, _, ⟨F17, b17, PySem.W.mg_of X G a17⟩⟩, ⟨_, _, ⟨F18, b18, PySem.W.mg_of X G a18⟩⟩, ⟨_, _, ⟨F19, b19, PySem.W.mg_of X G a19⟩⟩, ⟨_, _, ⟨F20, b20, PySem.W.mg_of X G a20⟩⟩, ⟨_, _, ⟨F21, b21, PySem.W.mg_of X G a21⟩⟩, ⟨_, _, ⟨F22, b22, PySem.W.mg_of X G a22⟩⟩, ⟨_, _, ⟨F23, b23, PySem.W.mg_of X G a23⟩⟩, ⟨_, _, ⟨F24, b24, PySem.W.mg_of X G a24⟩⟩, ⟨_, _, ⟨F25, b25, PySem.W.mg_of X G a25⟩⟩, ⟨_, _, ⟨F26, b26, PySem.W.mg_of X G a26⟩⟩, ⟨_, _, ⟨F27, b27, PySem.W.mg_of X G a27⟩⟩, ⟨_, _, ⟨F28, b28, PySem.W.mg_of X G a28⟩⟩, ⟨_, _, ⟨F29, b29, PySem.W.mg_of X G a29⟩⟩, ⟨_, _, ⟨F30, b30, PySem.W.mg_of X G a30⟩⟩, ⟨_, _, ⟨F31, b31, PySem.W.mg_of X G a31⟩⟩, ⟨_, _, ⟨F32, b32, PySem.W.mg_of X G a32⟩⟩, ⟨_, _, ⟨F33, b33, PySem.W.mg_of X G a33⟩⟩, ⟨_, _, ⟨F34, b34, PySem.W.mg_of X G a34⟩⟩, ⟨_, _, ⟨F35, b35, PySem.W.mg_of X G a35⟩⟩, ⟨_, _, ⟨F36, b36, PySem.W.mg_of X G a36⟩⟩, ⟨_, _, ⟨F37, b37, PySem.W.mg_of X G a37⟩⟩, ⟨_, _, ⟨F38, b38, PySem.W.mg_of X G a38⟩⟩, ⟨_, _, ⟨F39, b39, PySem.W.mg_of X G a39⟩⟩, ⟨_, _, ⟨F40, b40, PySem.W.mg_of X G a40⟩⟩, ⟨_, _, ⟨F41, b41, PySem.W.mg_of X G a41⟩⟩, ⟨_, _, ⟨F42, b42, PySem.W.mg_of X G a42⟩⟩, ⟨_, _, ⟨F43, b43, PySem.W.mg_of X G a43⟩⟩, ⟨_, _, ⟨F44, b44, PySem.W.mg_of X G a44⟩⟩, ⟨_, _, ⟨F45, b45, PySem.W.mg_of X G a45⟩⟩, ⟨_, ⟨⟨⟨sB, sC, sD, sE⟩, PySem.W.mg_of X G sA, sF, sG, sH, sI⟩, ⟨sJ, rfl, sK, by decide⟩, ⟨_, _, ⟨sL, aMinit, nMinit, sM⟩, bMinit, FMinit⟩, (met_mk aMmove nMmove FMmove bMmove), (met_mk aMenter nMenter FMenter bMenter), (met_mk aMleave nMleave FMleave bMleave), (met_mk aMset_target nMset_target FMset_target bMset_target), (met_mk aMact nMact FMact bMact), (met_mk aMrefuse_if_busy nMrefuse_if_busy FMrefuse_if_busy bMrefuse_if_busy), (met_mk aMapply_action nMapply_action FMapply_action bMapply_action), (met_mk aMstate_at nMstate_at FMstate_at bMstate_at), (met_mk aMactions nMactions FMactions bMactions), (met_mk aMlen nMlen FMlen bMlen), (met_mk aMstr nMstr FMstr bMstr), (metd_mk aMhouse nMhouse lMhouse cMhouse kMhouse dMhouse kw_house), (metd_mk aMplacement nMplacement lMplacement cMplacement kMplacement dMplacement kw_placement), (metd_mk aMtargets nMtargets lMtargets cMtargets kMtargets dMtargets kw_targets)⟩⟩, ⟨_, _, _, PySem.W.mg_of X G hA, ⟨hB, hC, hD⟩, chd_mk aHafter_move eHafter_move FHafter_move bHafter_move, chd_mk aHafter_enter eHafter_enter FHafter_enter bHafter_enter, chd_mk aHafter_leave eHafter_leave FHafter_leave bHafter_leave, chd_mk aHafter_set_target eHafter_set_target FHafter_set_target bHafter_set_target⟩⟩
  refine ⟨_, fun s v => ?_, fun base _ _ => ok_law F46 Z⟩
  exact .of_eq rfl
theorem tells : Tells spLaw := fun K H a ns hl hS => ⟨a, ns, rfl, hS, hl, fun _ => rfl⟩
end Fw
open PySem PySem.W PyProof.Rows in
set_option maxRecDepth 100000 in
set_option maxHeartbeats 0 in
theorem PySem.Challenge.cw_fromwithin_k66_people_in_sessions_holds : PySem.Challenge.rw_fromwithin_k66_people_in_sessions.Holds := by
  w_on; o_law
  refine HandSHeadRun.head_any (r := FwH.hR) (q := FwH.hV) (H := kHook FwH.hK.heap_1 FwH.hK.2 FwH.hE) (ob := fun s => FwH.hK.2.map (HandSHeadRun.getT s)) (M := 30000) (loose := FwH.hN) (d := HandSHeadRun.topDef FwH.hR.prog 114) (kwd := [])
    (fun s => List.map_congr_left fun a _ => HandSHeadRun.getT_eq s a) (by kernel_rfl) (fun s => by kernel_rfl) (fun w => PySem.W.byRow2 "special-get-raises" FwH.run_f FwH.run_t w)
    (by kernel_rfl) (by kernel_rfl) (by kernel_rfl) (by rfl) (by first | assumption | decide +kernel) (by decide +kernel) ⟨rfl, rfl, rfl, rfl, rfl, by decide +kernel⟩ ?hw ?hc
  (case hw => w_witness2)
  k_fill
  refine Fw.walkG (l := PySem.Challenge.rw_fromwithin_k66_people_in_sessions) (k := 13) Fw.tells rfl (by kernel_rfl) ⟨rfl, by decide, by decide⟩ (fun w h Y => PySem.W.kIn_of Y) ?F
  case F =>
    intro w mg fa h KX G hmg
    have named : (HandSHeadRun.topDef FwH.hR.prog 114).name = ("law" : PySem.Str) := by kernel_rfl
    rw [named] at hmg
    refine' Fw.all_mk KX G hmg ?q0 ?q1 ?q2 ?q3 ?uHEa ?uHEb ?uHEc ?uHEd ?uUnknownPersona ?uUnknownPersonb ?uUnknownPersonc ?uUnknownPersond ?uUnknownPersone ?uUnknownPersonf ?uUnknownPersong ?uUnknownPersonh ?uUnknownPersoni ?uUnknownPersonj ?uUnknownPersonk ?uUnknownPersonl ?uUnknownPersonm ?uUnknownPersonn ?uUnknownPersono ?uUnknownPersonp ?uUnknownPersonq ?uInvalidRooma ?uInvalidRoomb ?uInvalidRoomc ?uInvalidRoomd ?uInvalidRoome ?uInvalidRoomf ?uInvalidRoomg ?uInvalidRoomh ?uInvalidRoomi ?uInvalidRoomj ?uInvalidRoomk ?uInvalidRooml ?uInvalidRoomm ?uInvalidRoomn ?uInvalidRoomo ?uInvalidRoomp ?uInvalidRoomq ?uNotAdjacenta ?uNotAdjacentb ?uNotAdjacentc ?uNotAdjacentd ?uNotAdjacente ?uNotAdjacentf ?uNotAdjacentg ?uNotAdjacenth ?uNotAdjacenti ?uNotAdjacentj ?uNotAdjacentk ?uNotAdjacentl ?uNotAdjacentm ?uNotAdjacentn ?uNotAdjacento ?uNotAdjacentp ?uNotAdjacentq ?uEmptyRooma ?uEmptyRoomb ?uEmptyRoomc ?uEmptyRoomd ?uEmptyRoome ?uEmptyRoomf ?uEmptyRoomg ?uEmptyRoomh ?uEmptyRoomi ?uEmptyRoomj ?uEmptyRoomk ?uEmptyRooml ?uEmptyRoomm ?uEmptyRoomn ?uEmptyRoomo ?uEmptyRoomp ?uEmptyRoomq ?uInvalidNamea ?uInvalidNameb ?uInvalidNamec ?uInvalidNamed ?uInvalidNamee ?uInvalidNamef ?uInvalidNameg ?uInvalidNameh ?uInvalidNamei ?uInvalidNamej ?uInvalidNamek ?uInvalidNamel ?uInvalidNamem ?uInvalidNamen ?uInvalidNameo ?uInvalidNamep ?uInvalidNameq ?uDuplicateNamea ?uDuplicateNameb ?uDuplicateNamec ?uDuplicateNamed ?uDuplicateNamee ?uDuplicateNamef ?uDuplicateNameg ?uDuplicateNameh ?uDuplicateNamei ?uDuplicateNamej ?uDuplicateNamek ?uDuplicateNamel ?uDuplicateNamem ?uDuplicateNamen ?uDuplicateNameo ?uDuplicateNamep ?uDuplicateNameq ?uLimitReacheda ?uLimitReachedb ?uLimitReachedc ?uLimitReachedd ?uLimitReachede ?uLimitReachedf ?uLimitReachedg ?uLimitReachedh ?uLimitReachedi ?uLimitReachedj ?uLimitReachedk ?uLimitReachedl ?uLimitReachedm ?uLimitReachedn ?uLimitReachedo ?uLimitReachedp ?uLimitReachedq ?uAlreadyAdjacenta ?uAlreadyAdjacentb ?uAlreadyAdjacentc ?uAlreadyAdjacentd ?uAlreadyAdjacente ?uAlreadyAdjacentf ?uAlreadyAdjacentg ?uAlreadyAdjacenth ?uAlreadyAdjacenti ?uAlreadyAdjacentj ?uAlreadyAdjacentk ?uAlreadyAdjacentl ?uAlreadyAdjacentm ?uAlreadyAdjacentn ?uAlreadyAdjacento ?uAlreadyAdjacentp ?uAlreadyAdjacentq ?uWouldFormCyclea ?uWouldFormCycleb ?uWouldFormCyclec ?uWouldFormCycled ?uWouldFormCyclee ?uWouldFormCyclef ?uWouldFormCycleg ?uWouldFormCycleh ?uWouldFormCyclei ?uWouldFormCyclej ?uWouldFormCyclek ?uWouldFormCyclel ?uWouldFormCyclem ?uWouldFormCyclen ?uWouldFormCycleo ?uWouldFormCyclep ?uWouldFormCycleq ?uNothingToUndoa ?uNothingToUndob ?uNothingToUndoc ?uNothingToUndod ?uNothingToUndoe ?uNothingToUndof ?uNothingToUndog ?uNothingToUndoh ?uNothingToUndoi ?uNothingToUndoj ?uNothingToUndok ?uNothingToUndol ?uNothingToUndom ?uNothingToUndon ?uNothingToUndop ?uNothingToUndoq ?uHistoryFulla ?uHistoryFullb ?uHistoryFullc ?uHistoryFulld ?uHistoryFulle ?uHistoryFullf ?uHistoryFullg ?uHistoryFullh ?uHistoryFulli ?uHistoryFullj ?uHistoryFullk ?uHistoryFulll ?uHistoryFullm ?uHistoryFulln ?uHistoryFullp ?uHistoryFullq ?uSessionBusya ?uSessionBusyb ?uSessionBusyc ?uSessionBusyd ?uSessionBusye ?uSessionBusyf ?uSessionBusyg ?uSessionBusyh ?uSessionBusyi ?uSessionBusyj ?uSessionBusyk ?uSessionBusyl ?uSessionBusym ?uSessionBusyn ?uSessionBusyp ?uSessionBusyq ?uInvalidActionsa ?uInvalidActionsb ?uInvalidActionsc ?uInvalidActionsd ?uInvalidActionse ?uInvalidActionsf ?uInvalidActionsg ?uInvalidActionsh ?uInvalidActionsi ?uInvalidActionsj ?uInvalidActionsk ?uInvalidActionsl ?uInvalidActionsm ?uInvalidActionsn ?uInvalidActionsp ?uInvalidActionsq ?uBatchFaileda ?uBatchFailedb ?uBatchFailedc ?uBatchFailedd ?uBatchFailede ?uBatchFailedf ?uBatchFailedg ?uBatchFailedh ?uBatchFailedi ?uBatchFailedj ?uBatchFailedk ?uBatchFailedl ?uBatchFailedm ?uBatchFailedn ?uBatchFailedo ?uBatchFailedp ?uBatchFailedq ?uInvalidMomenta ?uInvalidMomentb ?uInvalidMomentc ?uInvalidMomentd ?uInvalidMomente ?uInvalidMomentf ?uInvalidMomentg ?uInvalidMomenth ?uInvalidMomenti ?uInvalidMomentj ?uInvalidMomentk ?uInvalidMomentl ?uInvalidMomentm ?uInvalidMomentn ?uInvalidMomento ?uInvalidMomentp ?uInvalidMomentq ?uBlockeda ?uBlockedb ?uBlockedc ?uBlockedd ?uBlockede ?uBlockedf ?uBlockedg ?uBlockedh ?uBlockedi ?uBlockedj ?uBlockedk ?uBlockedl ?uBlockedm ?uBlockedn ?uBlockedo ?uBlockedp ?uBlockedq ?a1 ?l1 ?c1 ?k1 ?a2 ?l2 ?c2 ?k2 ?a3 ?l3 ?c3 ?k3 ?a4 ?l4 ?c4 ?k4 ?a5 ?l5 ?c5 ?k5 ?a6 ?l6 ?c6 ?k6 ?a7 ?l7 ?c7 ?k7 ?a8 ?l8 ?c8 ?k8 ?a9 ?l9 ?c9 ?k9 ?a10 ?l10 ?c10 ?k10 ?a11 ?l11 ?c11 ?k11 ?a12 ?l12 ?c12 ?k12 ?a13 ?l13 ?c13 ?k13 ?a14 ?l14 ?c14 ?k14 ?a15 ?l15 ?c15 ?k15 ?a16 ?l16 ?c16 ?k16 ?a17 ?l17 ?c17 ?k17 ?a18 ?l18 ?c18 ?k18 ?a19 ?l19 ?c19 ?k19 ?a20 ?l20 ?c20 ?k20 ?a21 ?l21 ?c21 ?k21 ?a22 ?l22 ?c22 ?k22 ?a23 ?l23 ?c23 ?k23 ?a24 ?l24 ?c24 ?k24 ?a25 ?l25 ?c25 ?k25 ?a26 ?l26 ?c26 ?k26 ?a27 ?l27 ?c27 ?k27 ?a28 ?l28 ?c28 ?k28 ?a29 ?l29 ?c29 ?k29 ?a30 ?l30 ?c30 ?k30 ?a31 ?l31 ?c31 ?k31 ?a32 ?l32 ?c32 ?k32 ?a33 ?l33 ?c33 ?k33 ?a34 ?l34 ?c34 ?k34 ?a35 ?l35 ?c35 ?k35 ?a36 ?l36 ?c36 ?k36 ?a37 ?l37 ?c37 ?k37 ?a38 ?l38 ?c38 ?k38 ?a39 ?l39 ?c39 ?k39 ?a40 ?l40 ?c40 ?k40 ?a41 ?l41 ?c41 ?k41 ?a42 ?l42 ?c42 ?k42 ?a43 ?l43 ?c43 ?k43 ?a44 ?l44 ?c44 ?k44 ?a45 ?l45 ?c45 ?k45 ?sA ?sB ?sC ?sD ?sE ?sF ?sG ?sH ?sI ?sJ ?sK ?sL ?sM ?aMinit ?lMinit ?cMinit ?kMinit ?nMinit ?aMmove ?lMmove ?cMmove ?kMmove ?nMmove ?aMenter ?lMenter ?cMenter ?kMenter ?nMenter ?aMleave ?lMleave ?cMleave ?kMleave ?nMleave ?aMset_target ?lMset_target ?cMset_target ?kMset_target ?nMset_target ?aMact ?lMact ?cMact ?kMact ?nMact ?aMrefuse_if_busy ?lMrefuse_if_busy ?cMrefuse_if_busy ?kMrefuse_if_busy ?nMrefuse_if_busy ?aMapply_action ?lMapply_action ?cMapply_action ?kMapply_action ?nMapply_action ?aMstate_at ?lMstate_at ?cMstate_at ?kMstate_at ?nMstate_at ?aMactions ?lMactions ?cMactions ?kMactions ?nMactions ?aMlen ?lMlen ?cMlen ?kMlen ?nMlen ?aMstr ?lMstr ?cMstr ?kMstr ?nMstr ?aMhouse ?lMhouse ?cMhouse ?kMhouse ?nMhouse ?dMhouse ?aMplacement ?lMplacement ?cMplacement ?kMplacement ?nMplacement ?dMplacement ?aMtargets ?lMtargets ?cMtargets ?kMtargets ?nMtargets ?dMtargets ?hA ?hB ?hC ?hD ?aHafter_move ?eHafter_move ?lHafter_move ?cHafter_move ?qHafter_move ?aHafter_enter ?eHafter_enter ?lHafter_enter ?cHafter_enter ?qHafter_enter ?aHafter_leave ?eHafter_leave ?lHafter_leave ?cHafter_leave ?qHafter_leave ?aHafter_set_target ?eHafter_set_target ?lHafter_set_target ?cHafter_set_target ?qHafter_set_target ?a46 ?l46 ?c46 ?k46 ?z_abs ?z_len ?z_list ?z_range ?z_min ?z_max ?z_tuple ?z_sorted ?z_isinstance ?z_all ?z_zip ?z_bool ?z_int ?z_str ?z_repr ?z_ValueError ?z_dict ?z_enumerate
    (case q0 => k_is)
    (case q1 => k_is)
    (case q2 => k_is)
    (case q3 => k_is)
    (case uHEa => k_is)
    (case uHEb => k_is)
    (case uHEc => k_is)
    (case uHEd => k_is)
    (case uUnknownPersona => k_is)
    (case uUnknownPersonb => k_is)
    (case uUnknownPersonc => k_is)
    (case uUnknownPersond => k_is)
    (case uUnknownPersone => k_is)
    (case uUnknownPersonf => k_is)
    (case uUnknownPersong => k_is)
    (case uUnknownPersonh => k_is)
    (case uUnknownPersoni => k_is)
    (case uUnknownPersonj => k_is)
    (case uUnknownPersonk => k_is)
    (case uUnknownPersonl => k_is)
    (case uUnknownPersonm => k_is)
    (case uUnknownPersonn => k_is)
    (case uUnknownPersono => k_is)
    (case uUnknownPersonp => k_is)
    (case uUnknownPersonq => k_is)
    (case uInvalidRooma => k_is)
    (case uInvalidRoomb => k_is)
    (case uInvalidRoomc => k_is)
    (case uInvalidRoomd => k_is)
    (case uInvalidRoome => k_is)
    (case uInvalidRoomf => k_is)
    (case uInvalidRoomg => k_is)
    (case uInvalidRoomh => k_is)
    (case uInvalidRoomi => k_is)
    (case uInvalidRoomj => k_is)
    (case uInvalidRoomk => k_is)
    (case uInvalidRooml => k_is)
    (case uInvalidRoomm => k_is)
    (case uInvalidRoomn => k_is)
    (case uInvalidRoomo => k_is)
    (case uInvalidRoomp => k_is)
    (case uInvalidRoomq => k_is)
    (case uNotAdjacenta => k_is)
    (case uNotAdjacentb => k_is)
    (case uNotAdjacentc => k_is)
    (case uNotAdjacentd => k_is)
    (case uNotAdjacente => k_is)
    (case uNotAdjacentf => k_is)
    (case uNotAdjacentg => k_is)
    (case uNotAdjacenth => k_is)
    (case uNotAdjacenti => k_is)
    (case uNotAdjacentj => k_is)
    (case uNotAdjacentk => k_is)
    (case uNotAdjacentl => k_is)
    (case uNotAdjacentm => k_is)
    (case uNotAdjacentn => k_is)
    (case uNotAdjacento => k_is)
    (case uNotAdjacentp => k_is)
    (case uNotAdjacentq => k_is)
    (case uEmptyRooma => k_is)
    (case uEmptyRoomb => k_is)
    (case uEmptyRoomc => k_is)
    (case uEmptyRoomd => k_is)
    (case uEmptyRoome => k_is)
    (case uEmptyRoomf => k_is)
    (case uEmptyRoomg => k_is)
    (case uEmptyRoomh => k_is)
    (case uEmptyRoomi => k_is)
    (case uEmptyRoomj => k_is)
    (case uEmptyRoomk => k_is)
    (case uEmptyRooml => k_is)
    (case uEmptyRoomm => k_is)
    (case uEmptyRoomn => k_is)
    (case uEmptyRoomo => k_is)
    (case uEmptyRoomp => k_is)
    (case uEmptyRoomq => k_is)
    (case uInvalidNamea => k_is)
    (case uInvalidNameb => k_is)
    (case uInvalidNamec => k_is)
    (case uInvalidNamed => k_is)
    (case uInvalidNamee => k_is)
    (case uInvalidNamef => k_is)
    (case uInvalidNameg => k_is)
    (case uInvalidNameh => k_is)
    (case uInvalidNamei => k_is)
    (case uInvalidNamej => k_is)
    (case uInvalidNamek => k_is)
    (case uInvalidNamel => k_is)
    (case uInvalidNamem => k_is)
    (case uInvalidNamen => k_is)
    (case uInvalidNameo => k_is)
    (case uInvalidNamep => k_is)
    (case uInvalidNameq => k_is)
    (case uDuplicateNamea => k_is)
    (case uDuplicateNameb => k_is)
    (case uDuplicateNamec => k_is)
    (case uDuplicateNamed => k_is)
    (case uDuplicateNamee => k_is)
    (case uDuplicateNamef => k_is)
    (case uDuplicateNameg => k_is)
    (case uDuplicateNameh => k_is)
    (case uDuplicateNamei => k_is)
    (case uDuplicateNamej => k_is)
    (case uDuplicateNamek => k_is)
    (case uDuplicateNamel => k_is)
    (case uDuplicateNamem => k_is)
    (case uDuplicateNamen => k_is)
    (case uDuplicateNameo => k_is)
    (case uDuplicateNamep => k_is)
    (case uDuplicateNameq => k_is)
    (case uLimitReacheda => k_is)
    (case uLimitReachedb => k_is)
    (case uLimitReachedc => k_is)
    (case uLimitReachedd => k_is)
    (case uLimitReachede => k_is)
    (case uLimitReachedf => k_is)
    (case uLimitReachedg => k_is)
    (case uLimitReachedh => k_is)
    (case uLimitReachedi => k_is)
    (case uLimitReachedj => k_is)
    (case uLimitReachedk => k_is)
    (case uLimitReachedl => k_is)
    (case uLimitReachedm => k_is)
    (case uLimitReachedn => k_is)
    (case uLimitReachedo => k_is)
    (case uLimitReachedp => k_is)
    (case uLimitReachedq => k_is)
    (case uAlreadyAdjacenta => k_is)
    (case uAlreadyAdjacentb => k_is)
    (case uAlreadyAdjacentc => k_is)
    (case uAlreadyAdjacentd => k_is)
    (case uAlreadyAdjacente => k_is)
    (case uAlreadyAdjacentf => k_is)
    (case uAlreadyAdjacentg => k_is)
    (case uAlreadyAdjacenth => k_is)
    (case uAlreadyAdjacenti => k_is)
    (case uAlreadyAdjacentj => k_is)
    (case uAlreadyAdjacentk => k_is)
    (case uAlreadyAdjacentl => k_is)
    (case uAlreadyAdjacentm => k_is)
    (case uAlreadyAdjacentn => k_is)
    (case uAlreadyAdjacento => k_is)
    (case uAlreadyAdjacentp => k_is)
    (case uAlreadyAdjacentq => k_is)
    (case uWouldFormCyclea => k_is)
    (case uWouldFormCycleb => k_is)
    (case uWouldFormCyclec => k_is)
    (case uWouldFormCycled => k_is)
    (case uWouldFormCyclee => k_is)
    (case uWouldFormCyclef => k_is)
    (case uWouldFormCycleg => k_is)
    (case uWouldFormCycleh => k_is)
    (case uWouldFormCyclei => k_is)
    (case uWouldFormCyclej => k_is)
    (case uWouldFormCyclek => k_is)
    (case uWouldFormCyclel => k_is)
    (case uWouldFormCyclem => k_is)
    (case uWouldFormCyclen => k_is)
    (case uWouldFormCycleo => k_is)
    (case uWouldFormCyclep => k_is)
    (case uWouldFormCycleq => k_is)
    (case uNothingToUndoa => k_is)
    (case uNothingToUndob => k_is)
    (case uNothingToUndoc => k_is)
    (case uNothingToUndod => k_is)
    (case uNothingToUndoe => k_is)
    (case uNothingToUndof => k_is)
    (case uNothingToUndog => k_is)
    (case uNothingToUndoh => k_is)
    (case uNothingToUndoi => k_is)
    (case uNothingToUndoj => k_is)
    (case uNothingToUndok => k_is)
    (case uNothingToUndol => k_is)
    (case uNothingToUndom => k_is)
    (case uNothingToUndon => k_is)
    (case uNothingToUndop => k_is)
    (case uNothingToUndoq => k_is)
    (case uHistoryFulla => k_is)
    (case uHistoryFullb => k_is)
    (case uHistoryFullc => k_is)
    (case uHistoryFulld => k_is)
    (case uHistoryFulle => k_is)
    (case uHistoryFullf => k_is)
    (case uHistoryFullg => k_is)
    (case uHistoryFullh => k_is)
    (case uHistoryFulli => k_is)
    (case uHistoryFullj => k_is)
    (case uHistoryFullk => k_is)
    (case uHistoryFulll => k_is)
    (case uHistoryFullm => k_is)
    (case uHistoryFulln => k_is)
    (case uHistoryFullp => k_is)
    (case uHistoryFullq => k_is)
    (case uSessionBusya => k_is)
    (case uSessionBusyb => k_is)
    (case uSessionBusyc => k_is)
    (case uSessionBusyd => k_is)
    (case uSessionBusye => k_is)
    (case uSessionBusyf => k_is)
    (case uSessionBusyg => k_is)
    (case uSessionBusyh => k_is)
    (case uSessionBusyi => k_is)
    (case uSessionBusyj => k_is)
    (case uSessionBusyk => k_is)
    (case uSessionBusyl => k_is)
    (case uSessionBusym => k_is)
    (case uSessionBusyn => k_is)
    (case uSessionBusyp => k_is)
    (case uSessionBusyq => k_is)
    (case uInvalidActionsa => k_is)
    (case uInvalidActionsb => k_is)
    (case uInvalidActionsc => k_is)
    (case uInvalidActionsd => k_is)
    (case uInvalidActionse => k_is)
    (case uInvalidActionsf => k_is)
    (case uInvalidActionsg => k_is)
    (case uInvalidActionsh => k_is)
    (case uInvalidActionsi => k_is)
    (case uInvalidActionsj => k_is)
    (case uInvalidActionsk => k_is)
    (case uInvalidActionsl => k_is)
    (case uInvalidActionsm => k_is)
    (case uInvalidActionsn => k_is)
    (case uInvalidActionsp => k_is)
    (case uInvalidActionsq => k_is)
    (case uBatchFaileda => k_is)
    (case uBatchFailedb => k_is)
    (case uBatchFailedc => k_is)
    (case uBatchFailedd => k_is)
    (case uBatchFailede => k_is)
    (case uBatchFailedf => k_is)
    (case uBatchFailedg => k_is)
    (case uBatchFailedh => k_is)
    (case uBatchFailedi => k_is)
    (case uBatchFailedj => k_is)
    (case uBatchFailedk => k_is)
    (case uBatchFailedl => k_is)
    (case uBatchFailedm => k_is)
    (case uBatchFailedn => k_is)
    (case uBatchFailedo => k_is)
    (case uBatchFailedp => k_is)
    (case uBatchFailedq => k_is)
    (case uInvalidMomenta => k_is)
    (case uInvalidMomentb => k_is)
    (case uInvalidMomentc => k_is)
    (case uInvalidMomentd => k_is)
    (case uInvalidMomente => k_is)
    (case uInvalidMomentf => k_is)
    (case uInvalidMomentg => k_is)
    (case uInvalidMomenth => k_is)
    (case uInvalidMomenti => k_is)
    (case uInvalidMomentj => k_is)
    (case uInvalidMomentk => k_is)
    (case uInvalidMomentl => k_is)
    (case uInvalidMomentm => k_is)
    (case uInvalidMomentn => k_is)
    (case uInvalidMomento => k_is)
    (case uInvalidMomentp => k_is)
    (case uInvalidMomentq => k_is)
    (case uBlockeda => k_is)
    (case uBlockedb => k_is)
    (case uBlockedc => k_is)
    (case uBlockedd => k_is)
    (case uBlockede => k_is)
    (case uBlockedf => k_is)
    (case uBlockedg => k_is)
    (case uBlockedh => k_is)
    (case uBlockedi => k_is)
    (case uBlockedj => k_is)
    (case uBlockedk => k_is)
    (case uBlockedl => k_is)
    (case uBlockedm => k_is)
    (case uBlockedn => k_is)
    (case uBlockedo => k_is)
    (case uBlockedp => k_is)
    (case uBlockedq => k_is)
    (case a1 => k_is)
    (case l1 => k_is)
    (case c1 => k_is)
    (case k1 => k_is)
    (case a2 => k_is)
    (case l2 => k_is)
    (case c2 => k_is)
    (case k2 => k_is)
    (case a3 => k_is)
    (case l3 => k_is)
    (case c3 => k_is)
    (case k3 => k_is)
    (case a4 => k_is)
    (case l4 => k_is)
    (case c4 => k_is)
    (case k4 => k_is)
    (case a5 => k_is)
    (case l5 => k_is)
    (case c5 => k_is)
    (case k5 => k_is)
    (case a6 => k_is)
    (case l6 => k_is)
    (case c6 => k_is)
    (case k6 => k_is)
    (case a7 => k_is)
    (case l7 => k_is)
    (case c7 => k_is)
    (case k7 => k_is)
    (case a8 => k_is)
    (case l8 => k_is)
    (case c8 => k_is)
    (case k8 => k_is)
    (case a9 => k_is)
    (case l9 => k_is)
    (case c9 => k_is)
    (case k9 => k_is)
    (case a10 => k_is)
    (case l10 => k_is)
    (case c10 => k_is)
    (case k10 => k_is)
    (case a11 => k_is)
    (case l11 => k_is)
    (case c11 => k_is)
    (case k11 => k_is)
    (case a12 => k_is)
    (case l12 => k_is)
    (case c12 => k_is)
    (case k12 => k_is)
    (case a13 => k_is)
    (case l13 => k_is)
    (case c13 => k_is)
    (case k13 => k_is)
    (case a14 => k_is)
    (case l14 => k_is)
    (case c14 => k_is)
    (case k14 => k_is)
    (case a15 => k_is)
    (case l15 => k_is)
    (case c15 => k_is)
    (case k15 => k_is)
    (case a16 => k_is)
    (case l16 => k_is)
    (case c16 => k_is)
    (case k16 => k_is)
    (case a17 => k_is)
    (case l17 => k_is)
    (case c17 => k_is)
    (case k17 => k_is)
    (case a18 => k_is)
    (case l18 => k_is)
    (case c18 => k_is)
    (case k18 => k_is)
    (case a19 => k_is)
    (case l19 => k_is)
    (case c19 => k_is)
    (case k19 => k_is)
    (case a20 => k_is)
    (case l20 => k_is)
    (case c20 => k_is)
    (case k20 => k_is)
    (case a21 => k_is)
    (case l21 => k_is)
    (case c21 => k_is)
    (case k21 => k_is)
    (case a22 => k_is)
    (case l22 => k_is)
    (case c22 => k_is)
    (case k22 => k_is)
    (case a23 => k_is)
    (case l23 => k_is)
    (case c23 => k_is)
    (case k23 => k_is)
    (case a24 => k_is)
    (case l24 => k_is)
    (case c24 => k_is)
    (case k24 => k_is)
    (case a25 => k_is)
    (case l25 => k_is)
    (case c25 => k_is)
    (case k25 => k_is)
    (case a26 => k_is)
    (case l26 => k_is)
    (case c26 => k_is)
    (case k26 => k_is)
    (case a27 => k_is)
    (case l27 => k_is)
    (case c27 => k_is)
    (case k27 => k_is)
    (case a28 => k_is)
    (case l28 => k_is)
    (case c28 => k_is)
    (case k28 => k_is)
    (case a29 => k_is)
    (case l29 => k_is)
    (case c29 => k_is)
    (case k29 => k_is)
    (case a30 => k_is)
    (case l30 => k_is)
    (case c30 => k_is)
    (case k30 => k_is)
    (case a31 => k_is)
    (case l31 => k_is)
    (case c31 => k_is)
    (case k31 => k_is)
    (case a32 => k_is)
    (case l32 => k_is)
    (case c32 => k_is)
    (case k32 => k_is)
    (case a33 => k_is)
    (case l33 => k_is)
    (case c33 => k_is)
    (case k33 => k_is)
    (case a34 => k_is)
    (case l34 => k_is)
    (case c34 => k_is)
    (case k34 => k_is)
    (case a35 => k_is)
    (case l35 => k_is)
    (case c35 => k_is)
    (case k35 => k_is)
    (case a36 => k_is)
    (case l36 => k_is)
    (case c36 => k_is)
    (case k36 => k_is)
    (case a37 => k_is)
    (case l37 => k_is)
    (case c37 => k_is)
    (case k37 => k_is)
    (case a38 => k_is)
    (case l38 => k_is)
    (case c38 => k_is)
    (case k38 => k_is)
    (case a39 => k_is)
    (case l39 => k_is)
    (case c39 => k_is)
    (case k39 => k_is)
    (case a40 => k_is)
    (case l40 => k_is)
    (case c40 => k_is)
    (case k40 => k_is)
    (case a41 => k_is)
    (case l41 => k_is)
    (case c41 => k_is)
    (case k41 => k_is)
    (case a42 => k_is)
    (case l42 => k_is)
    (case c42 => k_is)
    (case k42 => k_is)
    (case a43 => k_is)
    (case l43 => k_is)
    (case c43 => k_is)
    (case k43 => k_is)
    (case a44 => k_is)
    (case l44 => k_is)
    (case c44 => k_is)
    (case k44 => k_is)
    (case a45 => k_is)
    (case l45 => k_is)
    (case c45 => k_is)
    (case k45 => k_is)
    (case sA => k_is)
    (case sB => k_is)
    (case sC => k_is)
    (case sD => k_is)
    (case sE => k_is)
    (case sF => k_is)
    (case sG => k_is)
    (case sH => k_is)
    (case sI => k_is)
    (case sJ => k_is)
    (case sK => k_is)
    (case sL => k_is)
    (case sM => k_is)
    (case aMinit => k_is)
    (case lMinit => k_is)
    (case cMinit => k_is)
    (case kMinit => k_is)
    (case nMinit => k_is)
    (case aMmove => k_is)
    (case lMmove => k_is)
    (case cMmove => k_is)
    (case kMmove => k_is)
    (case nMmove => k_is)
    (case aMenter => k_is)
    (case lMenter => k_is)
    (case cMenter => k_is)
    (case kMenter => k_is)
    (case nMenter => k_is)
    (case aMleave => k_is)
    (case lMleave => k_is)
    (case cMleave => k_is)
    (case kMleave => k_is)
    (case nMleave => k_is)
    (case aMset_target => k_is)
    (case lMset_target => k_is)
    (case cMset_target => k_is)
    (case kMset_target => k_is)
    (case nMset_target => k_is)
    (case aMact => k_is)
    (case lMact => k_is)
    (case cMact => k_is)
    (case kMact => k_is)
    (case nMact => k_is)
    (case aMrefuse_if_busy => k_is)
    (case lMrefuse_if_busy => k_is)
    (case cMrefuse_if_busy => k_is)
    (case kMrefuse_if_busy => k_is)
    (case nMrefuse_if_busy => k_is)
    (case aMapply_action => k_is)
    (case lMapply_action => k_is)
    (case cMapply_action => k_is)
    (case kMapply_action => k_is)
    (case nMapply_action => k_is)
    (case aMstate_at => k_is)
    (case lMstate_at => k_is)
    (case cMstate_at => k_is)
    (case kMstate_at => k_is)
    (case nMstate_at => k_is)
    (case aMactions => k_is)
    (case lMactions => k_is)
    (case cMactions => k_is)
    (case kMactions => k_is)
    (case nMactions => k_is)
    (case aMlen => k_is)
    (case lMlen => k_is)
    (case cMlen => k_is)
    (case kMlen => k_is)
    (case nMlen => k_is)
    (case aMstr => k_is)
    (case lMstr => k_is)
    (case cMstr => k_is)
    (case kMstr => k_is)
    (case nMstr => k_is)
    (case aMhouse => k_is)
    (case lMhouse => k_is)
    (case cMhouse => k_is)
    (case kMhouse => k_is)
    (case nMhouse => k_is)
    (case dMhouse => k_is)
    (case aMplacement => k_is)
    (case lMplacement => k_is)
    (case cMplacement => k_is)
    (case kMplacement => k_is)
    (case nMplacement => k_is)
    (case dMplacement => k_is)
    (case aMtargets => k_is)
    (case lMtargets => k_is)
    (case cMtargets => k_is)
    (case kMtargets => k_is)
    (case nMtargets => k_is)
    (case dMtargets => k_is)
    (case hA => k_is)
    (case hB => k_is)
    (case hC => k_keys)
    (case hD => decide)
    (case aHafter_move => k_is)
    (case eHafter_move => k_is)
    (case lHafter_move => k_is)
    (case cHafter_move => k_is)
    (case qHafter_move => k_is)
    (case aHafter_enter => k_is)
    (case eHafter_enter => k_is)
    (case lHafter_enter => k_is)
    (case cHafter_enter => k_is)
    (case qHafter_enter => k_is)
    (case aHafter_leave => k_is)
    (case eHafter_leave => k_is)
    (case lHafter_leave => k_is)
    (case cHafter_leave => k_is)
    (case qHafter_leave => k_is)
    (case aHafter_set_target => k_is)
    (case eHafter_set_target => k_is)
    (case lHafter_set_target => k_is)
    (case cHafter_set_target => k_is)
    (case qHafter_set_target => k_is)
    (case a46 => k_is)
    (case l46 => k_is)
    (case c46 => k_is)
    (case k46 => k_is)
    (case z_abs => k_is)
    (case z_len => k_is)
    (case z_list => k_is)
    (case z_range => k_is)
    (case z_min => k_is)
    (case z_max => k_is)
    (case z_tuple => k_is)
    (case z_sorted => k_is)
    (case z_isinstance => k_is)
    (case z_all => k_is)
    (case z_zip => k_is)
    (case z_bool => k_is)
    (case z_int => k_is)
    (case z_str => k_is)
    (case z_repr => k_is)
    (case z_ValueError => k_is)
    (case z_dict => k_is)
    (case z_enumerate => k_is)
