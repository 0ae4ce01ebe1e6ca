/- Hold, Swap, Let, Held of a process's heap. Swap, Let, Held of a process's heap. -/
import Derived.Test.YtkcmfldcdokobaaGreatDoorM17
import Derived.LoopN
import Derived.RegionTactic
import Derived.BigQuiet
import Derived.Deep.LoopGhost
/- Hold, Swap, Let, Held of a process's heap. -/
namespace Go.Proofs.YtkcmfldcdokobaaGreatDoor
open Go.RowKit

theorem Tryz.infoHolding : (Tryz.prog.info? 100).map (fun i => (i.zero, i.size, i.bytes)) = some (some (.agg #[.int .u64 0, .bool false]), 2, 16) := by kernel_rfl

/-- k is the least slot that is free -/
def FreeIx (sl : List (Int × Bool)) (k : Nat) : Prop := k ≤ sl.length ∧ (∀ (i : Nat) (p : Int × Bool), i < k → sl[i]? = some p → p.2 = true) ∧ ∀ p, sl[k]? = some p → p.2 = false
def holdIn (sl : List (Int × Bool)) (k : Nat) (x : Int) : List (Int × Bool) := if k < sl.length then sl.set k (x, true) else sl ++ [(x, true)]
/-- the header and the slots have become these, and nothing else has turned -/
def HGo (F : Nat → Prop) (w : World) (hb ab tb bb least : Nat) (sl : List (Int × Bool)) (w' : World) : Prop := Kp F w w' ∧ ∃ F' sv, New F w F' ∧ HRep F' w' hb ab tb bb sv least sl

section
variable {F G : Nat → Prop} {w w' w3 : World} {hb ab tb bb least : Nat} {sv : Value} {sl : List (Int × Bool)}

/-- a slot's two cells, then least -/
theorem HRep.put (h : HRep F w hb ab tb bb sv least sl) {g cap : Nat} (hsv : sv = .slice (some ⟨g, 0, none⟩) sl.length cap) (k : Nat) (hk : k < sl.length) (x : Int) (b : Bool) :
    HRep F ((w.setCell ⟨g, k * 2, none⟩ (.int .u64 x)).setCell ⟨g, k * 2 + 1, none⟩ (.bool b)) hb ab tb bb sv least (sl.set k (x, b)) ∧ Kp F w ((w.setCell ⟨g, k * 2, none⟩ (.int .u64 x)).setCell ⟨g, k * 2 + 1, none⟩ (.bool b)) := by
  have hr := h.row
  subst hsv
  obtain ⟨hFg, hne⟩ := h.inR g rfl
  have hkp : Kp (fun q => q = g) w ((w.setCell ⟨g, k * 2, none⟩ (.int .u64 x)).setCell ⟨g, k * 2 + 1, none⟩ (.bool b)) := ((Kp.refl (fun q => q = g) w).setCell ⟨g, k * 2, none⟩ (.int .u64 x) (.inl rfl)).setCell ⟨g, k * 2 + 1, none⟩ (.bool b) (.inl rfl)
  refine ⟨⟨h.inF, fun q hq => by have := h.lt q hq; simp [World.setCell]; omega, (hkp.block _ (h.lt _ h.inF) (fun e => hne e.symm)).trans h.hd, ?_, h.inR⟩, hkp.mono fun q _ e => e ▸ hFg⟩
  have h2 := ((hr.stored (k * 2) (.int .u64 x)).1.stored (k * 2 + 1) (.bool b)).1
  rw [pairs_set sl k x b hk] at h2
  rw [List.length_set]
  exact h2
theorem HRep.setLeast (h : HRep F w hb ab tb bb sv least sl) (n : Nat) {m : Int} (hm : m = n) : HRep F (w.setCell ⟨hb, 4, none⟩ (.int .i64 m)) hb ab tb bb sv n sl ∧ Kp F w (w.setCell ⟨hb, 4, none⟩ (.int .i64 m)) := by
  subst hm
  exact ⟨⟨h.inF, fun q hq => by have := h.lt q hq; simp [World.setCell]; omega, heap_set_here h.hd _, row_set h.row (fun e => (h.inR _ e).2 rfl) _, h.inR⟩, (Kp.refl _ w).setCell _ _ (.inl h.inF)⟩

/-- a slot more -/
theorem HRep.push (h : HRep F w hb ab tb bb sv least sl) {o : Obj} {g cap : Nat} (x : Int) (b : Bool)
    (hown : w3.ownsRow 0 100 2 (.slice (some ⟨g, 0, none⟩) (sl.length + 1) cap) (sl.length + 1) (pairs sl ++ [.int .u64 x, .bool b]))
    (hg : (w.alloc o).grownBy w3 sv.ownBlock) (hat : sv.ownBlock = some g ∨ g = w.heap.size + 1) (hlt : g < w3.heap.size) :
    HRep (fun q => F q ∨ q = g) (w3.setCell ⟨hb, 3, none⟩ (.slice (some ⟨g, 0, none⟩) (sl.length + 1) cap)) hb ab tb bb (.slice (some ⟨g, 0, none⟩) (sl.length + 1) cap) least (sl ++ [(x, b)]) ∧
      Kp F w (w3.setCell ⟨hb, 3, none⟩ (.slice (some ⟨g, 0, none⟩) (sl.length + 1) cap)) ∧ New F w (fun q => F q ∨ q = g) := by
  have hk3 : Kp (fun q => sv.ownBlock = some q) w w3 := ((Kp.refl _ w).alloc o).grown hg (fun q hq => .inl hq)
  have hkF : Kp F w w3 := hk3.mono fun q _ e => (h.inR q e).1
  have hz := hk3.size
  have hbS : ¬ sv.ownBlock = some hb := fun e => (h.inR _ e).2 rfl
  obtain ⟨capg, curg, _, hgg, _⟩ := row_blk hown (g := g) rfl
  have hb3 := (hk3.block hb (h.lt hb h.inF) hbS).trans h.hd
  have hgb : g ≠ hb := blk_ne hgg hb3 (by decide)
  have hks : Kp (fun q => q = hb) w3 (w3.setCell ⟨hb, 3, none⟩ (.slice (some ⟨g, 0, none⟩) (sl.length + 1) cap)) := (Kp.refl _ w3).setCell _ _ (.inl rfl)
  refine ⟨⟨.inl h.inF, ?_, heap_set_here hb3 _, ?_, ?_⟩, hkF.trans (hks.mono fun q _ e => .inl (e ▸ h.inF)), ?_⟩
  · intro q hq
    rcases hq with hq | rfl
    · have := h.lt q hq; simp [World.setCell]; omega
    · simpa [World.setCell] using hlt
  · have := row_set hown (p := ⟨hb, 3, none⟩) (fun e => hgb (by simpa [Value.ownBlock] using e)) (.slice (some ⟨g, 0, none⟩) (sl.length + 1) cap)
    rw [pairs_snoc, List.length_append]
    exact this
  · intro q hq
    simp [Value.ownBlock] at hq
    subst hq
    exact ⟨.inr rfl, hgb⟩
  · intro q hq
    rcases hq with hq | rfl
    · exact .inl hq
    · rcases hat with e | e
      · exact .inl (h.inR _ e).1
      · exact .inr (by omega)

set_option maxRecDepth 100000 in
set_option maxHeartbeats 1000000 in
theorem hold_any (h : HRep F w hb ab tb bb sv least sl) (hf : Full least sl) (hL : sl.length ≤ 1000000000) (x : Int) :
    Calls Tryz.prog 15 #[.pointer (some ⟨hb, 0, none⟩), .int .u64 x] w fun e w' => ∃ k : Nat, e = .returned (.int .i64 k) ∧ FreeIx sl k ∧ HGo F w hb ab tb bb (k + 1) (holdIn sl k x) w' := by
  obtain ⟨_, _, _, c3, c4, f0⟩ := h.cells
  obtain ⟨po, cap, rfl, hel⟩ := h.at'
  have hlst := hf.1
  have H := Lib.hid (And.intro h (And.intro hf hel))
  clear h hf hel
  go_enter Tryz.func15, Tryz.ntmps15
  go_wp2_with fail
  go_loopg [5] (sl.length - least) (fun gk at_ wr => ∃ k : Nat, k ≤ sl.length ∧ gk = sl.length - k ∧ at_ = Value.int .i64 k ∧ (∀ (i : Nat) (p : Int × Bool), i < k → sl[i]? = some p → p.2 = true) ∧ w = wr)
  case atStart => exact ⟨least, hlst, rfl, rfl, H.out.2.1.2, rfl⟩
  case round =>
    obtain ⟨k, hk, rfl, rfl, hall, rfl⟩ := hrel
    have Ha := Lib.hid hall
    clear hall
    by_cases hlt : k < sl.length
    · obtain ⟨p, hp⟩ : ∃ p, sl[k]? = some p := ⟨_, List.getElem?_eq_getElem hlt⟩
      obtain ⟨g, rfl, d0, d1, fg, hFg, hne⟩ := H.out.2.2 k p hp
      have hli : (k : Int) < sl.length := by omega
      obtain ⟨px, pb⟩ := p
      have Hp := Lib.hid hp
      clear hp
      cases pb with
      | true =>
        go_wp2_with fail
        go_roundg (sl.length - (k + 1))
        case measure => omega
        case rel =>
          refine ⟨k + 1, by omega, rfl, by go_num, fun i p hi hp => ?_, rfl⟩
          by_cases e : i = k
          · subst e
            rw [Hp.out] at hp
            injection hp with hp
            rw [← hp]
          · exact Ha.out i p (by omega) hp
      | false =>
        have hput := H.out.1.put rfl k hlt x true
        have hle := hput.1.setLeast (k + 1) (m := (k : Int) + 1) (by omega)
        have Hf := Lib.hid (And.intro hle.1 (hput.2.trans' hle.2))
        have hne2 : ((k : Int) == (sl.length : Int)) = false := by simp; omega
        clear hput hle
        go_wp2_with fail
        go_ret
        refine ⟨k, rfl, ⟨hk, Ha.out, fun p hp => by rw [Hp.out] at hp; injection hp with hp; rw [← hp]⟩, Hf.out.2, F, .slice (some ⟨g, 0, none⟩) sl.length cap, New.same F _, ?_⟩
        rw [show holdIn sl k x = sl.set k (x, true) by unfold holdIn; rw [if_pos hlt]]
        exact Hf.out.1
    · obtain rfl : k = sl.length := by omega
      obtain ⟨L, hLe, hL1⟩ : ∃ L, sl.length = L ∧ L ≤ 1000000000 := ⟨_, rfl, hL⟩
      have hrow := H.out.1.row
      rw [hLe] at hrow
      rw [hLe] at c3
      simp only [hLe]
      have hoA : ∀ o, (w.alloc o).ownsRow 0 100 2 (.slice po L cap) L (pairs sl) := fun o => hrow.alloc o
      have hnA : ∀ i u, [Value.int .u64 0, .bool false][i]? = some u → (w.alloc (.cells #[Value.int .u64 0, .bool false] 100)).cell? ((⟨w.heap.size, 0, none⟩ : Addr).add i) = some u :=
        World.news_of_block (cs := #[Value.int .u64 0, .bool false]) (heap_alloc_new w _)
      have hone : ∀ u ∈ [Value.int .u64 0, .bool false], u.oneCell' = true := by intro u hu; simp at hu; rcases hu with rfl | rfl <;> rfl
      have hc1 : L + 1 ≤ maxLen := by unfold maxLen; omega
      have hc2 : (L + 1) * 16 ≤ 140737488355328 := by omega
      obtain ⟨i0, hi, hz0, hz1, hz2⟩ := info_parts Tryz.infoHolding
      have hbl := H.out.1.lt hb H.out.1.inF
      have hbS : ¬ (Value.slice po L cap).ownBlock = some hb := fun e => (H.out.1.inR hb (by rw [hLe]; exact e)).2 rfl
      have Hc := Lib.hid (And.intro hLe (And.intro hc1 (And.intro hc2 hbS)))
      clear hc1 hc2 hbS hLe hrow hL hk hlt hlst
      go_wp2_with (at_builtin; refine wpList_append_lies _ rfl _ _ 50 rfl 0 100 i0 (.agg #[.int .u64 0, .bool false]) 2 16 Tryz.underlying50 hi hz0 hz1 hz2 rfl (by omega) (.slice po L cap) L _ rfl (hoA _) ⟨w.heap.size, 0, none⟩ 1 1 [.int .u64 0, .bool false] rfl rfl hnA hone (by omega) Hc.out.2.1 Hc.out.2.2.1 (Nat.zero_le _) (w.heap.size + 1) (by simp) ?_; intro g1 cap1 w3 hown hgrow hat hlt3; refine Hid.out ?_)
      have hkk : Kp (fun q => (Value.slice po L cap).ownBlock = some q) w w3 := ((Kp.refl _ w).alloc _).grown hgrow (fun q hq => .inl hq)
      have d3 : w3.cell? ⟨hb, 3, none⟩ = some (.slice po L cap) := (hkk.cell (p := ⟨hb, 3, none⟩) hbl Hc.out.2.2.2).trans c3
      have e0 : ∀ j, w3.frozen? ⟨hb, j, none⟩ = false := fun j => (hkk.frozen (p := ⟨hb, j, none⟩) hbl Hc.out.2.2.2).trans (f0 j)
      have hpush := H.out.1.push 0 false (by rw [Hc.out.1]; exact hown) (by rw [Hc.out.1]; exact hgrow) (by rw [Hc.out.1]; exact hat) hlt3
      rw [Hc.out.1] at hpush
      have hgh : ¬ g1 = hb := (hpush.1.inR g1 rfl).2
      have hput := hpush.1.put (g := g1) (cap := cap1) (by simp [Hc.out.1]) L (by simp [Hc.out.1]) x true
      have hle := hput.1.setLeast (L + 1) (m := (L : Int) + 1) (by omega)
      have Hf := Lib.hid (And.intro hle.1 (And.intro (kp_new hpush.2.1 hpush.2.2 (hput.2.trans' hle.2)) hpush.2.2))
      obtain ⟨_, _, _, r3, r4, rf⟩ := hpush.1.cells
      have hrw := hpush.1.row
      rw [List.length_append, Hc.out.1, pairs_snoc] at hrw
      have hpl : (pairs sl).length = L * 2 := by rw [pairs_len, Hc.out.1]
      have q0 : (w3.setCell ⟨hb, 3, none⟩ (.slice (some ⟨g1, 0, none⟩) (L + 1) cap1)).cell? ⟨g1, L * 2, none⟩ = some (.int .u64 0) := by
        rw [hrw.cellAt _ (by omega), List.getElem?_append_right (by omega), hpl, Nat.sub_self]; rfl
      have q1 : (w3.setCell ⟨hb, 3, none⟩ (.slice (some ⟨g1, 0, none⟩) (L + 1) cap1)).cell? ⟨g1, L * 2 + 1, none⟩ = some (.bool false) := by
        rw [hrw.cellAt _ (by omega), List.getElem?_append_right (by omega), hpl, show L * 2 + 1 - L * 2 = 1 by omega]; rfl
      clear hrw hpl
      have f1 : ∀ j, (w3.setCell ⟨hb, 3, none⟩ (.slice (some ⟨g1, 0, none⟩) (L + 1) cap1)).frozen? ⟨g1, j, none⟩ = false := fun j => by
        have := hpush.1.row
        rw [List.length_append, Hc.out.1] at this
        exact this.frozenAt j
      clear hkk hown hgrow hat hlt3 hnA hoA hone c3 c4 f0 hpush hput hle
      refine Lib.hid ?_
      go_wp2_with fail
      go_ret
      refine ⟨L, rfl, ⟨by have := Hc.out.1; omega, fun i p hi hp => Ha.out i p (by rw [Hc.out.1]; exact hi) hp, fun p hp => ?_⟩, Hf.out.2.1, _, .slice (some ⟨g1, 0, none⟩) (L + 1) cap1, Hf.out.2.2, ?_⟩
      · have := (List.getElem?_eq_some_iff.1 hp).1
        have := Hc.out.1
        omega
      · have := Hf.out.1
        rw [show holdIn sl L x = (sl ++ [(0, false)]).set L (x, true) by
          unfold holdIn
          rw [if_neg (by have := Hc.out.1; omega), ← Hc.out.1]
          simp]
        exact this

def slotS : ByteArray := ⟨#[115, 108, 111, 116]⟩
/-- no slot that holds a word -/
def NoSlot (sl : List (Int × Bool)) (n : Int) : Prop := n < 0 ∨ (sl.length : Int) ≤ n ∨ ∃ y, 0 ≤ n ∧ sl[n.toNat]? = some (y, false)
theorem slot_how (sl : List (Int × Bool)) (n : Int) : NoSlot sl n ∨ ∃ (i : Nat) (y : Int), n = i ∧ sl[i]? = some (y, true) := by
  by_cases h0 : n < 0
  · exact .inl (.inl h0)
  · by_cases h1 : (sl.length : Int) ≤ n
    · exact .inl (.inr (.inl h1))
    · obtain ⟨⟨y, b⟩, hp⟩ : ∃ p, sl[n.toNat]? = some p := ⟨_, List.getElem?_eq_getElem (by omega)⟩
      cases b with
      | true => exact .inr ⟨n.toNat, y, by omega, hp⟩
      | false => exact .inl (.inr (.inr ⟨y, by omega, hp⟩))

set_option maxRecDepth 100000 in
set_option maxHeartbeats 1000000 in
theorem turn_bad (h : HRep F w hb ab tb bb sv least sl) (_hL : sl.length ≤ 1000000000) (n : Int) (hn : NoSlot sl n) (x : Int) (b : Bool) :
    Calls Tryz.prog 51 #[.pointer (some ⟨hb, 0, none⟩), .int .i64 n, .agg #[.int .u64 x, .bool b]] w (EBad w (fun v => v) [Lk.fault slotS n, Lk.kind 3]) := by
  obtain ⟨_, _, _, c3, _, f0⟩ := h.cells
  obtain ⟨po, cap, rfl, hel⟩ := h.at'
  have hfin := (ebad1 (w.alloc (.cells #[.int .u64 x, .bool b] 100)) (fun v => v) slotS n 3 (by decide) 0).drew ((Kp.refl _ w).alloc (.cells #[.int .u64 x, .bool b] 100))
  rw [World.size_alloc] at hfin
  have Hf := Lib.hid hfin
  clear hfin h
  have hlt := World.block_lt_of_cell? _ _ c3
  by_cases h0 : n < 0
  · clear hel
    go_enter Tryz.func51, Tryz.ntmps51
    go_wp2_with (go_at_call 49; refine (at_any _ _ _ _ _).mono ?_; rintro e w' ⟨rfl, rfl⟩)
    go_ret
    exact Hf.out
  · by_cases h1 : (sl.length : Int) ≤ n
    · clear hel
      go_enter Tryz.func51, Tryz.ntmps51
      go_wp2_with (go_at_call 49; refine (at_any _ _ _ _ _).mono ?_; rintro e w' ⟨rfl, rfl⟩)
      go_ret
      exact Hf.out
    · obtain ⟨y, hy⟩ : ∃ y, sl[n.toNat]? = some (y, false) := by
        rcases hn with e | e | ⟨y, _, e⟩
        · omega
        · omega
        · exact ⟨y, e⟩
      obtain ⟨i, rfl⟩ : ∃ i : Nat, n = i := ⟨n.toNat, by omega⟩
      obtain ⟨g, rfl, d0, d1, fg, _, _⟩ := hel i (y, false) (by simpa using hy)
      have hg := World.block_lt_of_cell? _ _ d1
      have hli : (i : Int) < sl.length := by omega
      clear hel hy hn
      go_enter Tryz.func51, Tryz.ntmps51
      go_wp2_with (go_at_call 49; refine (at_any _ _ _ _ _).mono ?_; rintro e w' ⟨rfl, rfl⟩)
      go_ret
      exact Hf.out

set_option maxRecDepth 100000 in
set_option maxHeartbeats 1000000 in
theorem turn_ok (h : HRep F w hb ab tb bb sv least sl) (_hL : sl.length ≤ 1000000000) (i : Nat) (y : Int) (hy : sl[i]? = some (y, true)) (x : Int) (b : Bool) :
    Calls Tryz.prog 51 #[.pointer (some ⟨hb, 0, none⟩), .int .i64 i, .agg #[.int .u64 x, .bool b]] w fun e w' => e = .returned .nilIface ∧ HGo F w hb ab tb bb least (sl.set i (x, b)) w' := by
  have hlt := (List.getElem?_eq_some_iff.1 hy).1
  obtain ⟨_, _, _, c3, _, f0⟩ := h.cells
  obtain ⟨po, cap, rfl, hel⟩ := h.at'
  obtain ⟨g, rfl, d0, d1, fg, hFg, hne⟩ := hel i (y, true) hy
  have hput := h.put rfl i hlt x b
  have hgl := h.lt g hFg
  have hhl := h.lt hb h.inF
  have Hf := Lib.hid (And.intro (hput.1.kp ((Kp.refl (fun _ => False) _).alloc (.cells #[.int .u64 x, .bool b] 100)) (fun _ _ e => e)) (hput.2.alloc (.cells #[.int .u64 x, .bool b] 100)))
  have hli : (i : Int) < sl.length := by omega
  clear hput h hel hy
  go_enter Tryz.func51, Tryz.ntmps51
  go_wp2_with fail
  go_region
  all_goals
    go_wp2_with fail
    go_ret
    obtain ⟨h1, h2⟩ := Hf.out
    refine ⟨rfl, ⟨h2.os, h2.tape, h2.output, h2.size, h2.block⟩, F, .slice (some ⟨g, 0, none⟩) sl.length cap, New.same F _, h1.kp (kp_drewN (fun _ => False) _ 1) (fun _ _ e => e)⟩
end
end Go.Proofs.YtkcmfldcdokobaaGreatDoor

/- Swap, Let, Held of a process's heap. -/
namespace Go.Proofs.YtkcmfldcdokobaaGreatDoor
open Go.RowKit
section
variable {F G : Nat → Prop} {w w' w3 : World} {hb ab tb bb least : Nat} {sv : Value} {sl : List (Int × Bool)}

theorem HGo.from {w1 : World} (hk : Kp (fun _ => False) w w1) (h : HGo F w1 hb ab tb bb least sl w') : HGo F w hb ab tb bb least sl w' := by
  obtain ⟨h1, F', sv, hn, h2⟩ := h
  exact ⟨(hk.mono fun _ _ e => e.elim).trans' h1, F', sv, fun q hq => (hn q hq).elim .inl (fun e => .inr (Nat.le_trans hk.size e)), h2⟩

set_option maxHeartbeats 400000 in
theorem swap_bad (h : HRep F w hb ab tb bb sv least sl) (hL : sl.length ≤ 1000000000) (n : Int) (hn : NoSlot sl n) (x : Int) :
    Calls Tryz.prog 21 #[.pointer (some ⟨hb, 0, none⟩), .int .i64 n, .int .u64 x] w (EBad w (fun v => v) [Lk.fault slotS n, Lk.kind 3]) := by
  have H := Lib.hid (turn_bad h hL n hn x true)
  clear h hn
  go_enter Tryz.func21, Tryz.ntmps21
  go_wp2_with fail
  refine H.out.mono ?_
  rintro e w' ⟨v, rfl, h1⟩
  have H1 := Lib.hid h1
  clear h1
  go_wp2_with fail
  go_ret
  exact ⟨v, rfl, H1.out⟩
set_option maxHeartbeats 400000 in
theorem swap_ok (h : HRep F w hb ab tb bb sv least sl) (hL : sl.length ≤ 1000000000) (i : Nat) (y : Int) (hy : sl[i]? = some (y, true)) (x : Int) :
    Calls Tryz.prog 21 #[.pointer (some ⟨hb, 0, none⟩), .int .i64 i, .int .u64 x] w fun e w' => e = .returned .nilIface ∧ HGo F w hb ab tb bb least (sl.set i (x, true)) w' := by
  have H := Lib.hid (turn_ok h hL i y hy x true)
  clear h hy
  go_enter Tryz.func21, Tryz.ntmps21
  go_wp2_with fail
  refine H.out.mono ?_
  rintro e w' ⟨rfl, h1⟩
  have H1 := Lib.hid h1
  clear h1
  go_wp2_with fail
  go_ret
  exact ⟨rfl, H1.out⟩
set_option maxHeartbeats 400000 in
theorem let_bad (h : HRep F w hb ab tb bb sv least sl) (hL : sl.length ≤ 1000000000) (n : Int) (hn : NoSlot sl n) :
    Calls Tryz.prog 17 #[.pointer (some ⟨hb, 0, none⟩), .int .i64 n] w (EBad w (fun v => v) [Lk.fault slotS n, Lk.kind 3]) := by
  have H := Lib.hid (turn_bad h hL n hn 0 false)
  clear h hn
  go_enter Tryz.func17, Tryz.ntmps17
  go_wp2_with fail
  refine H.out.mono ?_
  rintro e w' ⟨v, rfl, h1⟩
  obtain ⟨g, rfl⟩ := Chain.form h1.1.out
  have H1 := Lib.hid h1
  clear h1
  go_wp2_with fail
  go_ret
  exact ⟨_, rfl, H1.out⟩
set_option maxHeartbeats 400000 in
theorem let_ok (h : HRep F w hb ab tb bb sv least sl) (hf : Full least sl) (hL : sl.length ≤ 1000000000) (i : Nat) (y : Int) (hy : sl[i]? = some (y, true)) :
    Calls Tryz.prog 17 #[.pointer (some ⟨hb, 0, none⟩), .int .i64 i] w fun e w' => e = .returned .nilIface ∧ HGo F w hb ab tb bb (min least i) (sl.set i (0, false)) w' := by
  have H := Lib.hid (turn_ok h hL i y hy 0 false)
  have hlt := (List.getElem?_eq_some_iff.1 hy).1
  have hls := hf.1
  clear h hy hf
  go_enter Tryz.func17, Tryz.ntmps17
  go_wp2_with fail
  refine H.out.mono ?_
  rintro e w1 ⟨rfl, hk, F1, sv1, hn, h1⟩
  obtain ⟨_, _, _, _, c4, f0⟩ := h1.cells
  have hle := h1.setLeast (min least i) (m := min (least : Int) (i : Int)) (by omega)
  have Hf := Lib.hid (And.intro hle.1 (And.intro (kp_new hk hn hle.2) hn))
  clear hk hn h1 hle
  by_cases hm : (least : Int) ≤ i
  · have hmin : min (least : Int) (i : Int) = least := by omega
    rw [hmin] at Hf
    go_wp2_with fail
    all_goals
      go_ret
      refine ⟨rfl, ⟨Hf.out.2.1.os, Hf.out.2.1.tape, Hf.out.2.1.output, Hf.out.2.1.size, Hf.out.2.1.block⟩, F1, sv1, Hf.out.2.2, Hf.out.1⟩
  · have hmin : min (least : Int) (i : Int) = i := by omega
    rw [hmin] at Hf
    go_wp2_with fail
    all_goals
      go_ret
      refine ⟨rfl, ⟨Hf.out.2.1.os, Hf.out.2.1.tape, Hf.out.2.1.output, Hf.out.2.1.size, Hf.out.2.1.block⟩, F1, sv1, Hf.out.2.2, Hf.out.1⟩

/-- the words that the first k slots hold -/
def heldTo (sl : List (Int × Bool)) (k : Nat) : List Int := (sl.take k).filterMap fun p => if p.2 then some p.1 else none
theorem heldTo_succ {sl : List (Int × Bool)} {k : Nat} {p : Int × Bool} (h : sl[k]? = some p) : heldTo sl (k + 1) = heldTo sl k ++ (if p.2 then [p.1] else []) := by
  unfold heldTo
  rw [List.take_add_one, h, List.filterMap_append]
  congr 1
  simp only [Option.toList_some, List.filterMap_cons, List.filterMap_nil]
  cases p.2 <;> rfl
theorem heldTo_len (sl : List (Int × Bool)) (k : Nat) : (heldTo sl k).length ≤ k := by
  unfold heldTo
  have := List.length_filterMap_le (fun p : Int × Bool => if p.2 then some p.1 else none) (sl.take k)
  have := List.length_take_le k sl
  omega
def words (l : List Int) : List Value := l.map (Value.int .u64)

set_option maxRecDepth 100000 in
set_option maxHeartbeats 1000000 in
theorem held_any (h : HRep F w hb ab tb bb sv least sl) (hL : sl.length ≤ 1000000000) :
    Calls Tryz.prog 19 #[.pointer (some ⟨hb, 0, none⟩)] w fun e w' => ∃ v, e = .returned v ∧ w'.ownsRow w.heap.size 27 1 v (heldTo sl sl.length).length (words (heldTo sl sl.length)) ∧ Kp (fun _ => False) w w' := by
  obtain ⟨_, _, _, c3, _, _⟩ := h.cells
  obtain ⟨po, cap, rfl, hel⟩ := h.at'
  have H := Lib.hid hel
  clear hel h
  obtain ⟨L, hLe⟩ : ∃ L, sl.length = L := ⟨_, rfl⟩
  have HL := Lib.hid hLe
  rw [hLe] at hL c3
  simp only [hLe]
  clear hLe
  go_enter Tryz.func19, Tryz.ntmps19
  go_wp2_with fail
  go_loopg [3, 11] L (fun gk s i wr => ∃ (k : Nat) (v : Value), k ≤ L ∧ gk = L - k ∧ i = .int .i64 k ∧ v = s ∧ wr.ownsRow w.heap.size 27 1 v (heldTo sl k).length (words (heldTo sl k)) ∧ Kp (fun _ => False) w wr)
  case atStart => exact ⟨0, _, by omega, rfl, rfl, rfl, World.ownsRow_nil _ _ _ _, Kp.refl _ w⟩
  case round =>
    obtain ⟨k, v, hk, rfl, rfl, rfl, hown, hkp⟩ := hrel
    by_cases hlt : k < L
    · obtain ⟨p, hp⟩ : ∃ p, sl[k]? = some p := ⟨_, List.getElem?_eq_getElem (by rw [HL.out]; exact hlt)⟩
      obtain ⟨g, rfl, d0, d1, _, _, _⟩ := H.out k p hp
      have e0 := (hkp.cell (p := ⟨g, k * 2, none⟩) (World.block_lt_of_cell? _ _ d0) (fun e => e)).trans d0
      have e1 := (hkp.cell (p := ⟨g, k * 2 + 1, none⟩) (World.block_lt_of_cell? _ _ d1) (fun e => e)).trans d1
      have hli : (k : Int) < L := by omega
      have hsucc := heldTo_succ hp
      have hlen := heldTo_len sl k
      obtain ⟨px, pb⟩ := p
      have Hs := Lib.hid hsucc
      obtain ⟨xs, hxs⟩ : ∃ xs, heldTo sl k = xs := ⟨_, rfl⟩
      have Hx := Lib.hid hxs
      rw [hxs] at hown hlen
      clear hsucc hp d0 d1 hxs
      cases pb with
      | false =>
        have Hk := Lib.hid (And.intro (hown.alloc (.cells #[.int .u64 px, .bool false] 100)) (hkp.alloc (.cells #[.int .u64 px, .bool false] 100)))
        clear hown hkp
        go_wp2_with fail
        go_roundg (L - (k + 1))
        case measure => omega
        case rel =>
          refine ⟨k + 1, _, by omega, rfl, by go_num, rfl, ?_, Hk.out.2⟩
          rw [Hs.out, Hx.out, if_neg (by decide), List.append_nil]
          exact Hk.out.1
      | true =>
        have hk0 := hkp.alloc (.cells #[.int .u64 px, .bool true] 100)
        have hown0 := hown.alloc (.cells #[.int .u64 px, .bool true] 100)
        obtain ⟨wo, hwo⟩ : ∃ wo, wr.alloc (.cells #[.int .u64 px, .bool true] 100) = wo := ⟨_, rfl⟩
        have hsz : wr.heap.size + 1 = wo.heap.size := by rw [← hwo]; simp
        rw [hwo] at hk0 hown0
        have hsz2 := hk0.size
        obtain ⟨i0, hi, hz0, hz1, hz2⟩ := info_parts Tryz.infoU64
        have hoA : ∀ o, ((wr.alloc (.cells #[.int .u64 px, .bool true] 100)).alloc o).ownsRow w.heap.size 27 1 v xs.length (words xs) := fun o => by rw [hwo]; exact hown0.alloc o
        have hnA : ∀ j u, [Value.int .u64 px][j]? = some u → ((wr.alloc (.cells #[.int .u64 px, .bool true] 100)).alloc (.cells #[.int .u64 px] 27)).cell? ((⟨wr.heap.size + 1, 0, none⟩ : Addr).add j) = some u := by
          have := World.news_of_block (cs := #[Value.int .u64 px]) (heap_alloc_new wo (.cells #[.int .u64 px] 27))
          rw [← hsz, ← hwo] at this
          exact this
        have hone : ∀ u ∈ [Value.int .u64 px], u.oneCell' = true := by intro u hu; simp at hu; subst hu; rfl
        have hcap1 : xs.length + 1 ≤ maxLen := by unfold maxLen; omega
        have hcap2 : (xs.length + 1) * 8 ≤ 140737488355328 := by omega
        have hbase : ∀ o, w.heap.size ≤ ((wr.alloc (.cells #[.int .u64 px, .bool true] 100)).alloc o).heap.size := fun o => by have := hkp.size; simp; omega
        have Hc := Lib.hid (And.intro hcap1 (And.intro hcap2 (And.intro hwo (And.intro hk0 (And.intro hown0 hsz)))))
        clear hcap1 hcap2 hwo hk0 hown0 hsz hown hkp
        go_wp2_with (at_builtin; refine wpList_append_lies _ rfl _ _ 34 rfl w.heap.size 27 i0 (.int .u64 0) 1 8 Tryz.underlying34 hi hz0 hz1 hz2 rfl (by omega) v xs.length _ rfl (hoA _) ⟨wr.heap.size + 1, 0, none⟩ 1 1 [.int .u64 px] rfl rfl hnA hone (by omega) Hc.out.1 Hc.out.2.1 (hbase _) (wr.heap.size + 1 + 1) (by simp) ?_; intro g1 cap1 w2 hown2 hgrow hat hlt2)
        go_roundg (L - (k + 1))
        case measure => omega
        case rel =>
          refine ⟨k + 1, _, by omega, rfl, by go_num, rfl, ?_, ?_⟩
          · rw [Hs.out, Hx.out]
            simpa [words] using hown2
          · rw [Hc.out.2.2.1] at hgrow
            exact (Hc.out.2.2.2.1.alloc _).grown hgrow (fun q hq => .inr (Hc.out.2.2.2.2.1.lt q hq).1)
    · obtain rfl : k = L := by omega
      go_wp2_with fail
      go_ret
      exact ⟨v, rfl, hown, hkp⟩
end
end Go.Proofs.YtkcmfldcdokobaaGreatDoor
