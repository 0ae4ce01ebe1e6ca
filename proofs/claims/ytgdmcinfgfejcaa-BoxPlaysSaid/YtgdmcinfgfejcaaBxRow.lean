/- Words in a row: as they are read, copied, one more, one fewer, compared. -/
import Derived.Test.YtgdmcinfgfejcaaWide
import Derived.Test.YtgdmcinfgfejcaaRun
import Derived.Test.YtgdmcinfgfejcaaPlace
import Derived.Test.YtgdmcinfgfejcaaFrame
import Derived.Test.YtgdmcinfgfejcaaProg
import Derived.Laws.CopyOwn
import Derived.OwnWalk
import Derived.WalkKit
import Derived.Lib.Hide
import Derived.RegionTactic
import Derived.Deep.LoopGhost
import Derived.LoopN
import Derived.BigQuiet
import Derived.Deep.QuietTactic
import Derived.Deep.RegionLaw
namespace Go.Proofs.Ytgdmcinfgfejcaa
open Go.RowKit

theorem Try.infoWord : (Try.prog.info? 27).map (fun i => (i.zero, i.size, i.bytes)) = some (some (.int .u64 0), 1, 8) := by kernel_rfl
/-- the cells of words -/
def wv (l : List Int) : List Value := l.map (Value.int .u64)
theorem wv_len (l : List Int) : (wv l).length = l.length := by simp [wv]
theorem wv_get {l : List Int} {i : Nat} {x : Int} (h : l[i]? = some x) : (wv l)[i]? = some (.int .u64 x) := by simp [wv, h]
theorem wv_got {l : List Int} {i : Nat} {u : Value} (h : (wv l)[i]? = some u) : ∃ x, l[i]? = some x ∧ u = .int .u64 x := by
  unfold wv at h
  rw [List.getElem?_map] at h
  obtain ⟨x, hx, rfl⟩ := Option.map_eq_some_iff.1 h
  exact ⟨x, hx, rfl⟩
theorem wv_one (l : List Int) : ∀ u ∈ wv l, u.oneCell' = true := by
  intro u hu
  obtain ⟨x, _, rfl⟩ := List.mem_map.1 hu
  rfl
theorem wv_app (l : List Int) (x : Int) : wv l ++ [.int .u64 x] = wv (l ++ [x]) := by simp [wv]

/-- words of one's own -/
def Wr (w : World) (v : Value) (l : List Int) : Prop := w.ownsW 0 27 v l.length (wv l)
/-- words that can be read -/
def Rd (w : World) (v : Value) (l : List Int) : Prop :=
  ∃ po cap, v = .slice po l.length cap ∧ l.length ≤ cap ∧ cap ≤ maxLen ∧ ∀ i x, l[i]? = some x → ∃ g off, po = some ⟨g, off, none⟩ ∧ w.cell? ⟨g, off + i, none⟩ = some (.int .u64 x)

section
variable {F : Nat → Prop} {w w' : World} {v : Value} {l : List Int}
theorem Wr.kp (h : Wr w v l) (hk : Kp F w w') (hF : ∀ g, v.ownBlock = some g → ¬ F g) : Wr w' v l := hk.roww h hF
theorem Wr.lt (h : Wr w v l) : ∀ k, v.ownBlock = some k → k < w.heap.size := fun k hk => (ownsW_lt h k hk).2
theorem Wr.nil (w : World) : Wr w (.slice none 0 0) [] := ownsW_nil _ _ _
theorem Wr.rd (h : Wr w v l) : Rd w v l := by
  rcases h.2 with ⟨e, h0⟩ | ⟨g, cap, cur, e, hb, hg, h2, h3, h4, h5⟩
  · have hl := List.eq_nil_of_length_eq_zero h0
    subst hl
    exact ⟨none, 0, e, by simp, by simp, fun i x hi => by simp at hi⟩
  · refine ⟨_, cap, e, h2, h4, fun i x hi => ⟨g, 0, rfl, ?_⟩⟩
    obtain ⟨g', cap', e', _, _, hc⟩ := ownsW_get h i _ (wv_get hi)
    rw [e] at e'
    injection e' with e'
    injection e' with e'
    injection e' with e'
    rw [Nat.zero_add, e']; exact hc
theorem Rd.kp (h : Rd w v l) (hk : Kp F w w') (hF : ∀ g, v.ownBlock = some g → ¬ F g) : Rd w' v l := by
  obtain ⟨po, cap, rfl, h1, h2, h3⟩ := h
  refine ⟨po, cap, rfl, h1, h2, fun i x hi => ?_⟩
  obtain ⟨g, off, rfl, hc⟩ := h3 i x hi
  exact ⟨g, off, rfl, (hk.cell (p := ⟨g, off + i, none⟩) (World.block_lt_of_cell? _ _ hc) (hF g rfl)).trans hc⟩
theorem Rd.same (h : Rd w v l) (hk : Kp (fun _ => False) w w') : Rd w' v l := h.kp hk (fun _ _ e => e)
theorem Wr.same (h : Wr w v l) (hk : Kp (fun _ => False) w w') : Wr w' v l := h.kp hk (fun _ _ e => e)
theorem Wr.form (h : Wr w v l) : ∃ po cap, v = .slice po l.length cap := ownsW_form h
theorem Wr.get (h : Wr w v l) {j : Nat} {x : Int} (hj : l[j]? = some x) : ∃ g cap, v = .slice (some ⟨g, 0, none⟩) l.length cap ∧ l.length ≤ cap ∧ cap ≤ 9223372036854775807 ∧ w.cell? ⟨g, j, none⟩ = some (.int .u64 x) :=
  ownsW_get h j _ (wv_get hj)
theorem kp_drewN {F : Nat → Prop} {w w' : World} (h : Kp F w w') (k : Nat) : Kp F w (w'.drewN k) := ⟨h.os, h.tape, h.output, h.size, h.block⟩

/-- one more -/
theorem words_push (ho : Wr w v l) (hk : l.length + 1 ≤ 17592186044416) (x : Int) :
    ∃ g cap w', (Builtin.append_ #[24, 24] 24 #[v, .slice (some ⟨w.heap.size, 0, none⟩) 1 1]).run Try.prog (w.alloc (.cells #[.int .u64 x] 27)) = .ok (.slice (some ⟨g, 0, none⟩) (l.length + 1) cap) w' ∧
      Wr w' (.slice (some ⟨g, 0, none⟩) (l.length + 1) cap) (l ++ [x]) ∧ Kp (fun q => v.ownBlock = some q) w w' ∧ (v.ownBlock = some g ∨ w.heap.size ≤ g) ∧ g < w'.heap.size := by
  obtain ⟨i0, hi, hz0, hz1, hz2⟩ := info_parts Try.infoWord
  have hka : Kp (fun _ => False) w (w.alloc (.cells #[.int .u64 x] 27)) := (Kp.refl _ w).alloc _
  have hown : (w.alloc (.cells #[.int .u64 x] 27)).ownsW 0 27 v l.length (wv l) := ho.same hka
  obtain ⟨g, cap, w', h1, h2, h3, h4, h5⟩ := run_append_w (P := Try.prog) _ 24 24 0 27 i0 (.int .u64 0) 8 Try.underlying24 hi hz0 hz1 hz2 rfl v l.length (wv l) hown ⟨w.heap.size, 0, none⟩ 1 (.int .u64 x)
    (by rw [cell_of_row _ w.heap.size 0 _ _ _ (heap_alloc_new w _)]; rfl) rfl (by unfold maxLen; omega) (by omega) (Nat.zero_le _)
  refine ⟨g, cap, w', h1, ?_, ((Kp.refl _ w).alloc _).grown h3 (fun q hq => .inl hq), ?_, h5⟩
  · unfold Wr
    rw [List.length_append, ← wv_app]
    exact h2
  · rcases h4 with h4 | h4
    · exact .inl h4
    · exact .inr (by rw [h4]; simp)
/-- one fewer -/
theorem words_cut {g cap : Nat} (h : Wr w (.slice (some ⟨g, 0, none⟩) l.length cap) l) (hl : l.length ≤ 17592186044416) (j : Nat) (hj : j < l.length) (pa : Option Addr) (pc : Nat) (hpa : j + 1 < l.length → pa = some ⟨g, j + 1, none⟩) :
    ∃ g' cap' w', (Builtin.append_ #[24, 24] 24 #[.slice (some ⟨g, 0, none⟩) j j, .slice pa (l.length - (j + 1)) pc]).run Try.prog w = .ok (.slice (some ⟨g', 0, none⟩) (l.length - 1) cap') w' ∧
      Wr w' (.slice (some ⟨g', 0, none⟩) (l.length - 1) cap') (l.eraseIdx j) ∧ Kp (fun _ => False) w w' ∧ (g' = g ∨ w.heap.size ≤ g') := by
  obtain ⟨i0, hi, hz0, hz1, hz2⟩ := info_parts Try.infoWord
  obtain ⟨g', cap', w', h1, h2, h3, h4⟩ := run_append_cut (P := Try.prog) w 24 24 0 27 i0 (.int .u64 0) 8 Try.underlying24 hi hz0 hz1 hz2 rfl g l.length cap (wv l) h j hj pa pc hpa (by unfold maxLen; omega) (by omega) (Nat.zero_le _)
  refine ⟨g', cap', w', h1, ?_, (Kp.refl _ w).grown h3 (fun q hq => by cases hq), h4.imp (fun e => e) (fun e => by omega)⟩
  unfold Wr
  rw [List.length_eraseIdx_of_lt hj, show wv (l.eraseIdx j) = (wv l).eraseIdx j from by simp [wv, List.eraseIdx_eq_take_drop_succ]]
  exact h2
theorem run_append_nothing' (t ty e : TypeId) (i : TypeInfo) (ht : Try.prog.underlying t = some (.slice e)) (hi : Try.prog.info? e = some i) (po : Option Addr) (cap : Nat) (w : World) :
    (Builtin.append_ #[t, t] ty #[.slice none 0 0, .slice po 0 cap]).run Try.prog w = .ok (.slice none 0 0) w := by
  cases po <;> simp [Builtin.append_, run_underlying ht, sizeOf, typeInfo, hi, Builtin.lenOf, Builtin.firstCells, loadCells, loadCellsFrom]
/-- as many again, of one's own -/
theorem words_copy (h : Rd w v l) (hl : l.length ≤ 17592186044416) :
    ∃ v' w', (Builtin.append_ #[24, 24] 24 #[.slice none 0 0, v]).run Try.prog w = .ok v' w' ∧ Wr w' v' l ∧ (∀ g, v'.ownBlock = some g → w.heap.size ≤ g) ∧ Kp (fun _ => False) w w' := by
  obtain ⟨i0, hi, hz0, hz1, hz2⟩ := info_parts Try.infoWord
  obtain ⟨po, cap, rfl, h2, h3, h4⟩ := h
  by_cases h0 : l = []
  · subst h0
    exact ⟨_, w, run_append_nothing' _ _ _ i0 Try.underlying24 hi po cap w, Wr.nil w, fun g hg => by simp [Value.ownBlock] at hg, Kp.refl _ w⟩
  · have hpos : 0 < l.length := List.length_pos_iff.2 h0
    obtain ⟨b, off, rfl, hc0⟩ := h4 0 l[0] (List.getElem?_eq_getElem hpos)
    have hnA : ∀ i u, (wv l)[i]? = some u → w.cell? ((⟨b, off, none⟩ : Addr).add i) = some u := by
      intro i u hu
      obtain ⟨x, hx, rfl⟩ := wv_got hu
      obtain ⟨b2, off2, e2, hcell⟩ := h4 i x hx
      injection e2 with e2
      rw [e2, Go.WideShapes.add_plain]
      exact hcell
    obtain ⟨g2, c2, w', h1, h2', h3', h4', h5⟩ := run_append_lies (P := Try.prog) (w := w) _ 24 w.heap.size 27 i0 (.int .u64 0) 1 8 Try.underlying24 hi hz0 hz1 hz2 rfl (by omega) (.slice none 0 0) 0 [] (World.ownsRow_nil _ _ _ _) ⟨b, off, none⟩ l.length cap (wv l) (by rw [wv_len]; omega)
      hnA (wv_one l) hpos (by unfold maxLen; omega) (by omega) (Nat.le_refl _) w.heap.size rfl
    rw [Nat.zero_add] at h1 h2'
    rw [List.nil_append] at h2'
    refine ⟨_, w', h1, ⟨wv_len l, ?_⟩, fun g hg => ?_, (Kp.refl _ w).grown h3' (fun q hq => by cases hq)⟩
    · rcases h2'.2 with ⟨e, _⟩ | ⟨g, cap, cur, e, hb, hg, h6, h7, h8, h9⟩
      · cases e
      · exact .inr ⟨g, cap, cur, e, Nat.zero_le _, hg, h6, by omega, h7, by rw [Nat.mul_one] at h9; exact h9⟩
    · exact (h2'.lt g hg).1
end

set_option maxRecDepth 100000 in
set_option maxHeartbeats 400000 in
theorem copyWords_any {w : World} {v : Value} {l : List Int} (h : Rd w v l) (hl : l.length ≤ 17592186044416) :
    Calls Try.prog 14 #[v] w fun e w' => ∃ v', e = .returned v' ∧ Wr w' v' l ∧ (∀ g, v'.ownBlock = some g → w.heap.size ≤ g) ∧ Kp (fun _ => False) w w' := by
  obtain ⟨v', w', h1, h2⟩ := words_copy h hl
  obtain ⟨po, cap, rfl, -⟩ := h
  have H := Lib.hid (And.intro h1 h2)
  clear h1 h2
  go_enter Try.func14, Try.ntmps14
  go_wp2_with (at_builtin; refine wpList_run rfl _ _ 24 rfl (.slice none 0 0) (.slice po l.length cap) rfl rfl _ w' H.out.1 ?_)
  go_ret
  exact ⟨v', rfl, H.out.2⟩

set_option maxRecDepth 100000 in
set_option maxHeartbeats 400000 in
/-- the same words -/
theorem sameWords_any {w : World} {s1 s2 : Value} {l : List Int} (h1 : Rd w s1 l) (h2 : Rd w s2 l) :
    Calls Try.prog 18 #[s1, s2] w fun e w' => e = .returned (.bool true) ∧ ∃ k, w' = w.drewN k := by
  obtain ⟨p1, c1, rfl, g1, g2, g3⟩ := h1
  obtain ⟨p2, c2, rfl, k1, k2, k3⟩ := h2
  have hm : l.length ≤ 9223372036854775807 := by unfold maxLen at g2; omega
  clear g1 g2 k1 k2
  go_enter Try.func18, Try.ntmps18
  go_wp2_with fail
  go_loopg [5] l.length (fun gk i wr => ∃ (j k : Nat), j ≤ l.length ∧ gk = l.length - j ∧ i = .int .i64 j ∧ wr = w.drewN k)
  case atStart => exact ⟨0, 0, by omega, rfl, rfl, rfl⟩
  case round =>
    obtain ⟨j, k, hj, rfl, rfl, rfl⟩ := hrel
    by_cases hlt : j < l.length
    · obtain ⟨ga, oa, rfl, a1⟩ := g3 j l[j] (List.getElem?_eq_getElem hlt)
      obtain ⟨gb, ob, rfl, b1⟩ := k3 j l[j] (List.getElem?_eq_getElem hlt)
      obtain ⟨a, ha⟩ : ∃ a, l[j] = a := ⟨_, rfl⟩
      rw [ha] at a1 b1
      clear ha g3 k3
      have hli : (j : Int) < l.length := by omega
      go_wp2_with fail
      go_region
      all_goals go_wp2_with fail
      all_goals go_roundg (l.length - (j + 1))
      case measure => omega
      case rel => exact ⟨j + 1, k + 1, by omega, rfl, by go_num, rfl⟩
    · obtain rfl : j = l.length := by omega
      clear g3 k3
      go_wp2_with fail
      go_ret
      exact ⟨rfl, k, rfl⟩
end Go.Proofs.Ytgdmcinfgfejcaa
