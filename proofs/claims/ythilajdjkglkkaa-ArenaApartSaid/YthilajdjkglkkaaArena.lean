/- An arena as data, how it lies in memory (Rep), and what its method first does. -/
import Derived.Test.YthilajdjkglkkaaProg
import Derived.Test.YthilajdjkglkkaaShelf
import Derived.Test.YthilajdjkglkkaaBase
import Derived.Test.YthilajdjkglkkaaFrame
import Derived.WalkSpells
import Derived.WalkLawsBesides
import Derived.RegionTactic
namespace Go.Proofs.Ythilajdjkglkkaa
open Go.RowKit

/-- An arena, as data. -/
structure Ar where
  size : Nat
  quota : Nat
  used : Nat
  places : List Int
  taken : List Bool
  free : Nat → List Nat

def ety : Nat → TypeId := fun k => if k = 0 then 31 else if k = 1 then 4 else 3
def Ar.rows (A : Ar) : Nat → List Value := fun k => if k = 0 then A.places.map (Value.int .u64) else if k = 1 then A.taken.map Value.bool else (A.free (k - 2)).map fun (x : Nat) => Value.int .i64 x
def Ar.hd (A : Ar) : List Value := [.int .i64 A.size, .int .i64 A.quota, .int .i64 A.used]
def Rep (w : World) (F : Nat → Prop) (b : Nat) (A : Ar) : Prop := ∃ sl, Reps ety w F b A.hd 23 A.rows sl

def WithFree (A : Ar) (c : Nat) (l : List Nat) : Ar := { A with free := upd A.free c l }
theorem rows_free (A : Ar) (c : Nat) : A.rows (2 + c) = (A.free c).map fun (x : Nat) => Value.int .i64 x := by
  unfold Ar.rows
  rw [if_neg (by omega), if_neg (by omega), Nat.add_sub_cancel_left]
theorem upd_free (A : Ar) (c : Nat) (l : List Nat) : upd A.rows (2 + c) (l.map fun (x : Nat) => Value.int .i64 x) = (WithFree A c l).rows := by
  funext k
  unfold upd Ar.rows WithFree upd
  by_cases h0 : k = 0
  · rw [if_neg (by omega), if_pos h0, if_pos h0]
  · by_cases h1 : k = 1
    · rw [if_neg (by omega), if_neg h0, if_pos h1, if_neg h0, if_pos h1]
    · by_cases h2 : k = 2 + c
      · subst h2
        rw [if_pos rfl, if_neg h0, if_neg h1]
        exact congrArg (List.map _) (show l = if 2 + c - 2 = c then l else A.free (2 + c - 2) by rw [if_pos (by omega)])
      · rw [if_neg h2, if_neg h0, if_neg h1, if_neg h0, if_neg h1]
        exact congrArg (List.map _) (show A.free (k - 2) = if k - 2 = c then l else A.free (k - 2) by rw [if_neg (by omega)])
theorem ety_free (c : Nat) : ety (2 + c) = 3 := by unfold ety; rw [if_neg (by omega), if_neg (by omega)]

set_option maxHeartbeats 400000 in
theorem first_none (b c cap : Nat) (po : Option Addr) (w : World) (hc : c < 21)
    (h : w.cell? ⟨b, 5 + c, none⟩ = some (.slice po 0 cap)) :
    Calls Try.prog 45 #[.pointer (some ⟨b, 0, none⟩), .int .i64 c] w fun e w' => e = .returned (.tuple #[.int .i64 0, .bool false]) ∧ w = w' := by
  go_enter Try.func45, Try.ntmps45
  go_wp2
  go_ret2
  exact ⟨rfl, rfl⟩

set_option maxHeartbeats 400000 in
theorem first_some (b c cap g m : Nat) (x : Int) (w : World) (hc : c < 21) (hm : m + 1 ≤ cap) (hcap : cap ≤ 9223372036854775807)
    (h : w.cell? ⟨b, 5 + c, none⟩ = some (.slice (some ⟨g, 0, none⟩) (m + 1) cap)) (hf : w.frozen? ⟨b, 5 + c, none⟩ = false)
    (hg : w.cell? ⟨g, m, none⟩ = some (.int .i64 x)) :
    Calls Try.prog 45 #[.pointer (some ⟨b, 0, none⟩), .int .i64 c] w fun e w' => e = .returned (.tuple #[.int .i64 x, .bool true]) ∧
      ∃ n, w' = (w.setCell ⟨b, 5 + c, none⟩ (.slice (some ⟨g, 0, none⟩) m cap)).drewN n := by
  go_enter Try.func45, Try.ntmps45
  go_wp2
  go_region
  all_goals go_wp2
  all_goals go_ret2
  all_goals exact ⟨rfl, 1, rfl⟩

theorem row_nil {w : World} {e : TypeId} {v : Value} (h : w.ownsRow 0 e 1 v 0 []) : ∃ po cap, v = .slice po 0 cap := by
  rcases h.2 with ⟨h, _⟩ | ⟨g, cap, _, h, _⟩
  · exact ⟨_, _, h⟩
  · exact ⟨_, _, h⟩
theorem row_cons {w : World} {e : TypeId} {v : Value} {n : Nat} {xs : List Value} (h : w.ownsRow 0 e 1 v n xs) (hn : 0 < n) : ∃ g cap, v = .slice (some ⟨g, 0, none⟩) n cap ∧ n ≤ cap ∧ cap ≤ 9223372036854775807 := by
  rcases h.2 with ⟨_, h⟩ | ⟨g, cap, _, h, _, _, h1, h2, _⟩
  · omega
  · exact ⟨g, cap, h, h1, by unfold maxLen at h2; omega⟩

theorem first_rep_none {w : World} {F : Nat → Prop} {b : Nat} {A : Ar} (c : Nat) (hc : c < 21) (h : Rep w F b A) (hl : A.free c = []) :
    Calls Try.prog 45 #[.pointer (some ⟨b, 0, none⟩), .int .i64 c] w fun e w' => e = .returned (.tuple #[.int .i64 0, .bool false]) ∧ w = w' := by
  obtain ⟨sl, h⟩ := h
  have ho := h.own (2 + c) (by omega)
  have hce := h.cell (2 + c) (by omega)
  rw [rows_free, hl] at ho
  obtain ⟨po, cap, e⟩ := row_nil ho
  rw [e, show A.hd.length + (2 + c) = 5 + c from by simp [Ar.hd]; omega] at hce
  exact first_none b c cap po w hc hce


theorem first_rep_some {w : World} {F : Nat → Prop} {b : Nat} {A : Ar} (c : Nat) (hc : c < 21) (h : Rep w F b A) (l : List Nat) (x : Nat) (hl : A.free c = l ++ [x]) :
    Calls Try.prog 45 #[.pointer (some ⟨b, 0, none⟩), .int .i64 c] w fun e w' => e = .returned (.tuple #[.int .i64 x, .bool true]) ∧
      Rep w' F b (WithFree A c l) ∧ Kp F w w' ∧ w'.heap.size = w.heap.size := by
  obtain ⟨sl, h⟩ := h
  have ho := h.own (2 + c) (by omega)
  have hce := h.cell (2 + c) (by omega)
  have hf := h.fz (5 + c)
  have hr := rows_free A c
  rw [hl] at hr
  have hlen : (A.rows (2 + c)).length = l.length + 1 := by rw [hr]; simp
  rw [hlen] at ho
  obtain ⟨g, cap, e, h1, h2⟩ := row_cons ho (by omega)
  rw [show A.hd.length + (2 + c) = 5 + c from by simp [Ar.hd]; omega, e] at hce
  rw [e] at ho
  have hx : w.cell? ⟨g, l.length, none⟩ = some (.int .i64 x) := by
    rw [ho.cellAt l.length (by omega), hr]
    simp
  have hs := h.shrink (2 + c) (by omega) g (l.length + 1) l.length cap e (by omega)
  rw [show A.hd.length + (2 + c) = 5 + c from by simp [Ar.hd]; omega] at hs
  refine (first_some b c cap g l.length x w hc h1 h2 hce hf hx).mono ?_
  rintro e w' ⟨rfl, n, rfl⟩
  refine ⟨rfl, ⟨upd sl (2 + c) (.slice (some ⟨g, 0, none⟩) l.length cap), ?_⟩, ?_, ?_⟩
  · have e : upd A.rows (2 + c) ((A.rows (2 + c)).take l.length) = (WithFree A c l).rows := by
      rw [← upd_free, hr]
      congr 1
      simp
    rw [← e]
    exact hs.1.heap rfl
  · exact ⟨hs.2.os, hs.2.tape, hs.2.output, hs.2.size, hs.2.block⟩
  · show (w.setCell _ _).heap.size = _
    simp [World.setCell]
end Go.Proofs.Ythilajdjkglkkaa
