/- What the arena's method cut does. What the arena's method take does. -/
import Derived.Test.YtkcmfldcdokobaaGreatDoorM02
import Derived.Deep.LoopGhost
import Derived.Deep.RegionHeld3
import Derived.Lib.Hide
/- What the arena's method cut does. -/
namespace Go.Proofs.YtkcmfldcdokobaaGreatDoor
open Go.RowKit

/-- the free lists behind the cutting of block x of class d down to class c (half by half) -/
def CutA (A : Ar) (c d : Nat) (x : Nat) : Ar := { A with free := fun k => if c ≤ k ∧ k < d then A.free k ++ [x + 2 ^ k] else A.free k }

theorem pow_bd (k : Nat) (hk : k ≤ 21) : (0 : Int) < 2 ^ k ∧ (2 : Int) ^ k ≤ 2097152 := by
  have h1 := Nat.pow_le_pow_right (n := 2) (by omega) hk
  have h2 := Nat.pow_pos (n := k) (a := 2) (by omega)
  have e : ((2 ^ k : Nat) : Int) = 2 ^ k := by simp
  rw [← e]
  omega

theorem Tryz.infoIntA : (Tryz.prog.info? 3).map (fun i => (i.zero, i.size, i.bytes)) = some (some (.int .i64 0), 1, 8) := by kernel_rfl
theorem keepc {wr w2 : World} {o : Obj} {row : Option Nat} {b : Nat} (hg : (wr.alloc o).drew.grownBy w2 row) (hb : b < wr.heap.size) (hne : some b ≠ row) (j : Nat) :
    w2.cell? ⟨b, j, none⟩ = wr.cell? ⟨b, j, none⟩ ∧ w2.frozen? ⟨b, j, none⟩ = wr.frozen? ⟨b, j, none⟩ :=
  ⟨(hg.cell_far ⟨b, j, none⟩ (by simp; omega) hne).trans (World.cell?_alloc_past _ _ _ hb), (hg.frozen_far ⟨b, j, none⟩ (by simp; omega) hne).trans (World.frozen?_alloc_past _ _ _ hb)⟩

/-- it ended so, and the arena is A' then; nothing else has turned -/
def Ends (F : Nat → Prop) (w : World) (b : Nat) (v : Value) (A' : Ar) (e : Ending) (w' : World) : Prop := e = .returned v ∧ Rep w' (Ext F w w') b A' ∧ Kp F w w'

theorem cutA_succ (A : Ar) (c d x : Nat) (hcd : c < d) (xs : List Nat) (hxs : (CutA A (c + 1) d x).free c = xs) : WithFree (CutA A (c + 1) d x) c (xs ++ [x + 2 ^ c]) = CutA A c d x := by
  subst hxs
  unfold WithFree CutA
  simp only [Ar.mk.injEq, true_and]
  funext k
  unfold upd
  by_cases h : k = c
  · subst h
    simp only []
    rw [if_pos trivial, if_neg (by omega), if_pos (by omega)]
  · simp only []
    rw [if_neg h]
    by_cases h2 : c ≤ k ∧ k < d
    · rw [if_pos h2, if_pos (by omega)]
    · rw [if_neg h2, if_neg (by omega)]
theorem cutA_len (A : Ar) (c d x : Nat) (l : List Nat) (hc : c < d) (h : ∀ k, (A.free k).length ≤ 1048576) : ((CutA (WithFree A d l) (c + 1) d x).free c).length ≤ 1048576 := by
  have e : (CutA (WithFree A d l) (c + 1) d x).free c = A.free c := by
    unfold CutA WithFree upd
    simp only []
    rw [if_neg (by omega), if_neg (by omega)]
  rw [e]
  exact h c
theorem cutA_top (A : Ar) (d x : Nat) : CutA A d d x = A := by
  unfold CutA
  cases A
  simp only [Ar.mk.injEq, true_and]
  funext k
  rw [if_neg (by omega)]

theorem cut_step {A : Ar} {F : Nat → Prop} {w1 wr w2 : World} {b c d x g cap : Nat} {sl : Nat → Value} {v : Value} {xs : List Nat} {o : Obj} (hc : c < d) (hd : d < 21)
    (hR : Reps ety wr (Ext F w1 wr) b (CutA A (c + 1) d x).hd 23 (CutA A (c + 1) d x).rows sl) (hK : Kp F w1 wr) (hv : sl (2 + c) = v) (hxs : (CutA A (c + 1) d x).free c = xs)
    (hown : w2.ownsRow 0 3 1 (.slice (some ⟨g, 0, none⟩) (xs.length + 1) cap) (xs.length + 1) (xs.map (fun (x : Nat) => Value.int .i64 x) ++ [Value.int .i64 (x + 2 ^ c)]))
    (hgrow : (wr.alloc o).drew.grownBy w2 v.ownBlock) (hat : v.ownBlock = some g ∨ g = wr.heap.size + 1) (hlt : g < w2.heap.size) :
    Rep (w2.setCell ⟨b, 5 + c, none⟩ (.slice (some ⟨g, 0, none⟩) (xs.length + 1) cap)) (Ext F w1 (w2.setCell ⟨b, 5 + c, none⟩ (.slice (some ⟨g, 0, none⟩) (xs.length + 1) cap))) b (CutA A c d x) ∧
      Kp F w1 (w2.setCell ⟨b, 5 + c, none⟩ (.slice (some ⟨g, 0, none⟩) (xs.length + 1) cap)) := by
  subst hv
  have e0 : (CutA A (c + 1) d x).hd.length + (2 + c) = 5 + c := by simp [Ar.hd]; omega
  have e1 : xs.map (fun (x : Nat) => Value.int .i64 x) ++ [Value.int .i64 (x + 2 ^ c)] = (xs ++ [x + 2 ^ c]).map (fun (x : Nat) => Value.int .i64 x) := by simp
  rw [e1] at hown
  have hp := hR.push (2 + c) (by omega) o (by rw [ety_free]; exact hown) hgrow hat hlt
  rw [e0, upd_free, cutA_succ A c d x hc xs hxs] at hp
  have hz := hgrow.size
  have hz' : (wr.alloc o).drew.heap.size = wr.heap.size + 1 := by show (wr.alloc o).heap.size = _; simp
  rw [hz'] at hz
  have hz2 : (w2.setCell ⟨b, 5 + c, none⟩ (.slice (some ⟨g, 0, none⟩) (xs.length + 1) cap)).heap.size = w2.heap.size := by simp [World.setCell]
  have h0 := hK.size
  refine ⟨⟨_, hp.1.more ?_ ?_⟩, hK.trans hp.2⟩
  · intro q hq
    rcases hq with (hq | hq) | hq
    · exact .inl hq
    · exact .inr ⟨hq.1, by omega⟩
    · exact .inr ⟨by omega, by omega⟩
  · intro q hq
    rcases hq with hq | hq
    · have := hR.lt q (.inl hq); omega
    · omega

theorem Rep.more' {w : World} {F G : Nat → Prop} {b : Nat} {A : Ar} (h : Rep w F b A) (hFG : ∀ k, F k → G k) (hlt : ∀ k, G k → k < w.heap.size) : Rep w G b A := by
  obtain ⟨sl, h⟩ := h
  exact ⟨sl, h.more hFG hlt⟩
theorem Rep.ltF {w : World} {F : Nat → Prop} {b : Nat} {A : Ar} (h : Rep w F b A) : ∀ k, F k → k < w.heap.size := by
  obtain ⟨sl, h⟩ := h
  exact h.lt
theorem cut_end {w w1 w3 : World} {F : Nat → Prop} {b : Nat} {A : Ar} (hk : Kp F w w1) (h : Rep w3 (Ext F w1 w3) b A ∧ Kp F w1 w3) : Rep w3 (Ext F w w3) b A ∧ Kp F w w3 := by
  have h1 := hk.size
  have h2 := h.2.size
  refine ⟨h.1.more' ?_ ?_, hk.trans' h.2⟩
  · intro q hq
    rcases hq with hq | hq
    · exact .inl hq
    · exact .inr ⟨by omega, hq.2⟩
  · intro q hq
    rcases hq with hq | hq
    · exact h.1.ltF q (.inl hq)
    · exact hq.2

set_option maxHeartbeats 1000000 in
theorem cut_some {w : World} {F : Nat → Prop} {b : Nat} {A : Ar} (c d : Nat) (hc : 1 ≤ c) (hcd : c < d) (hd : d < 21) (h : Rep w F b A) (l : List Nat) (x : Nat) (hx : x ≤ 1048576)
    (hl : A.free d = l ++ [x]) (hno : ∀ k, c < k → k < d → A.free k = []) (hsz : ∀ k, (A.free k).length ≤ 1048576) :
    Calls Tryz.prog 158 #[.pointer (some ⟨b, 0, none⟩), .int .i64 c] w (Ends F w b (.tuple #[.int .i64 x, .bool true]) (CutA (WithFree A d l) c d x)) := by
  have Hl := Lib.hid hl
  have Hsz := Lib.hid hsz
  clear hl hsz
  go_enter Tryz.func158, Tryz.ntmps158
  go_wp2_with fail
  go_step3
  go_wp2_with fail
  go_step3
  go_wp2_with fail
  go_loopg [4, 5, 6, 7] (d - c) (fun k o ok j hf wr => ∃ j' : Nat, c + 1 ≤ j' ∧ j' ≤ d ∧ k = d - j' + 1 ∧ o = .int .i64 0 ∧ ok = .bool false ∧ j = .int .i64 j' ∧ w = wr)
  case atStart => exact ⟨c + 1, by omega, by omega, by omega, rfl, rfl, by go_num, rfl⟩
  case round =>
    obtain ⟨j', hj1, hj2, rfl, rfl, rfl, rfl, rfl⟩ := hrel
    by_cases hjd : j' < d
    · have hn := hno j' (by omega) hjd
      have Hn := Lib.hid hn
      clear hn
      go_wp2_with (go_at_call 157; refine (first_rep_none _ (by omega) h Hn.out).mono ?_; rintro e w' ⟨rfl, rfl⟩)
      go_roundg (d - (j' + 1) + 1)
      case measure => omega
      case rel => exact ⟨j' + 1, by omega, by omega, rfl, rfl, rfl, by go_num, rfl⟩
    · obtain rfl : j' = d := by omega
      clear hjd hno
      go_wp2_with (go_at_call 157; refine (first_rep_some _ hd h l x Hl.out).mono ?_; rintro e w1 ⟨rfl, hr1, hk1, hz1⟩)
      go_loopg [7] (j' - c) (fun k hf wr => ∃ h' : Nat, c ≤ h' ∧ h' < j' ∧ k = h' - c + 1 ∧ hf = .int .i64 h' ∧ Rep wr (Ext F w1 wr) b (CutA (WithFree A j' l) (h' + 1) j' x) ∧ Kp F w1 wr)
      case atStart =>
        refine ⟨j' - 1, by omega, by omega, by omega, by rw [show ((j' - 1 : Nat) : Int) = (j' : Int) - 1 from by omega], ?_, Kp.refl F w1⟩
        rw [show j' - 1 + 1 = j' from by omega, cutA_top]
        exact hr1.more' (fun q hq => .inl hq) (fun q hq => by rcases hq with hq | hq; exact hr1.ltF q hq; omega)
      case round =>
        obtain ⟨h', hh1, hh2, rfl, rfl, ⟨sl, hR⟩, hK⟩ := hrel
        have ho := hR.own (2 + h') (by omega)
        have hce := hR.cell (2 + h') (by omega)
        have hf := hR.fz (5 + h')
        have hbs := hR.lt b hR.inF
        have hne : some b ≠ (sl (2 + h')).ownBlock := fun e => (hR.inn (2 + h') b (by omega) e.symm).2 rfl
        have Hrows := Lib.hid (rows_free (CutA (WithFree A j' l) (h' + 1) j' x) h')
        rw [rows_free, ety_free] at ho
        rw [show (CutA (WithFree A j' l) (h' + 1) j' x).hd.length + (2 + h') = 5 + h' from by simp [Ar.hd]; omega] at hce
        have hsm : ((CutA (WithFree A j' l) (h' + 1) j' x).free h').length ≤ 1048576 := cutA_len A h' j' x l hh2 Hsz.out
        obtain ⟨xs, hxs⟩ : ∃ xs, (CutA (WithFree A j' l) (h' + 1) j' x).free h' = xs := ⟨_, rfl⟩
        rw [hxs] at ho hsm
        have Hxs := Lib.hid hxs
        obtain ⟨v, hv⟩ : ∃ v, sl (2 + h') = v := ⟨_, rfl⟩
        rw [hv] at ho hce hne
        have Hv := Lib.hid hv
        clear hxs hv
        have hlt : (h' : Int) < 21 := by omega
        obtain ⟨hp1, hp2⟩ := pow_bd h' (by omega)
        by_cases hcc : h' = c
        · subst hcc
          have hw1 : IntKind.i64.wrap (2 ^ h') = 2 ^ h' := IntWalk.i64_in _ (by omega)
          have hw2 : IntKind.i64.wrap ((x : Int) + 2 ^ h') = (x : Int) + 2 ^ h' := IntWalk.i64_in _ (by omega)
          clear hp1 hp2
          have hoA : ∀ o, (wr.alloc o).drew.ownsRow 0 3 1 v xs.length (xs.map fun (x : Nat) => Value.int .i64 x) := fun o => ownsRow_of_heap (w := wr.alloc o) rfl (by simpa using ho.alloc o)
          have hnA : ∀ j u, [Value.int .i64 (x + 2 ^ h')][j]? = some u → (wr.alloc (.cells #[.int .i64 (x + 2 ^ h')] 3)).drew.cell? ((⟨wr.heap.size, 0, none⟩ : Addr).add j) = some u :=
            World.news_of_block (cs := #[.int .i64 (x + 2 ^ h')]) (heap_alloc_new wr _)
          have hone : ∀ u ∈ [Value.int .i64 (x + 2 ^ h')], u.oneCell' = true := by intro u hu; simp at hu; subst hu; rfl
          have hcap1 : xs.length + 1 ≤ maxLen := by unfold maxLen; omega
          have hcap2 : (xs.length + 1) * 8 ≤ 140737488355328 := by omega
          obtain ⟨i0, hi, hz0, hz1, hz2⟩ := info_parts Tryz.infoIntA
          have Hs := Lib.hid (And.intro hw1 (And.intro hcap1 (And.intro hcap2 hsm)))
          go_wp2_with fail
          go_region_law (((refine step_append_lies _ (by rfl) _ _ 22 (by rfl) 0 3 i0 (.int .i64 0) 1 8 Tryz.underlying22 hi hz0 hz1 hz2 (by rfl) (by omega) v xs.length _ (by rfl) (hoA _) ⟨wr.heap.size, 0, none⟩ 1 1 [.int .i64 (x + 2 ^ h')] (by rfl) (by rfl) hnA hone (by omega) Hs.out.2.1 Hs.out.2.2.1 (by omega) (wr.heap.size + 1) (by simp) ?_); intro g cap w2 hown hgrow hat hlt2; obtain ⟨k0, k1⟩ := keepc hgrow hbs hne (5 + h'); rw [hce] at k0; rw [hf] at k1))
          all_goals go_wp2_with fail
          all_goals
            try rw [Exit.noGoto_ret]
            go_ret2
            have hst := cut_step hh2 hd hR hK Hv.out Hxs.out hown hgrow hat hlt2
            exact ⟨rfl, cut_end hk1 hst⟩
        have hcc' : ((h' : Int) == (c : Int)) = false := by simp; omega
        have hw1 : IntKind.i64.wrap (2 ^ h') = 2 ^ h' := IntWalk.i64_in _ (by omega)
        have hw2 : IntKind.i64.wrap ((x : Int) + 2 ^ h') = (x : Int) + 2 ^ h' := IntWalk.i64_in _ (by omega)
        clear hp1 hp2
        have hoA : ∀ o, (wr.alloc o).drew.ownsRow 0 3 1 v xs.length (xs.map fun (x : Nat) => Value.int .i64 x) := fun o => ownsRow_of_heap (w := wr.alloc o) rfl (by simpa using ho.alloc o)
        have hnA : ∀ j u, [Value.int .i64 (x + 2 ^ h')][j]? = some u → (wr.alloc (.cells #[.int .i64 (x + 2 ^ h')] 3)).drew.cell? ((⟨wr.heap.size, 0, none⟩ : Addr).add j) = some u :=
          World.news_of_block (cs := #[.int .i64 (x + 2 ^ h')]) (heap_alloc_new wr _)
        have hone : ∀ u ∈ [Value.int .i64 (x + 2 ^ h')], u.oneCell' = true := by intro u hu; simp at hu; subst hu; rfl
        have hcap1 : xs.length + 1 ≤ maxLen := by unfold maxLen; omega
        have hcap2 : (xs.length + 1) * 8 ≤ 140737488355328 := by omega
        obtain ⟨i0, hi, hz0, hz1, hz2⟩ := info_parts Tryz.infoIntA
        have Hs := Lib.hid (And.intro hw1 (And.intro hcap1 (And.intro hcap2 hsm)))
        go_wp2_with fail
        go_region_law (((refine step_append_lies _ (by rfl) _ _ 22 (by rfl) 0 3 i0 (.int .i64 0) 1 8 Tryz.underlying22 hi hz0 hz1 hz2 (by rfl) (by omega) v xs.length _ (by rfl) (hoA _) ⟨wr.heap.size, 0, none⟩ 1 1 [.int .i64 (x + 2 ^ h')] (by rfl) (by rfl) hnA hone (by omega) Hs.out.2.1 Hs.out.2.2.1 (by omega) (wr.heap.size + 1) (by simp) ?_); intro g cap w2 hown hgrow hat hlt2; obtain ⟨k0, k1⟩ := keepc hgrow hbs hne (5 + h'); rw [hce] at k0; rw [hf] at k1))
        all_goals go_wp2_with fail
        all_goals
          go_roundg (h' - 1 - c + 1)
          case measure => omega
          case rel =>
            have hst := cut_step hh2 hd hR hK Hv.out Hxs.out hown hgrow hat hlt2
            refine ⟨h' - 1, by omega, by omega, rfl, by rw [show ((h' - 1 : Nat) : Int) = (h' : Int) - 1 from by omega], ?_, hst.2⟩
            rw [show h' - 1 + 1 = h' from by omega]
            exact hst.1

set_option maxHeartbeats 1000000 in
theorem cut_none {w : World} {F : Nat → Prop} {b : Nat} {A : Ar} (c : Nat) (hc : 1 ≤ c) (hc2 : c < 21) (h : Rep w F b A)
    (hno : ∀ k, c < k → k < 21 → A.free k = []) :
    Calls Tryz.prog 158 #[.pointer (some ⟨b, 0, none⟩), .int .i64 c] w fun e w' => e = .returned (.tuple #[.int .i64 0, .bool false]) ∧ w = w' := by
  have Hno := Lib.hid hno
  clear hno
  go_enter Tryz.func158, Tryz.ntmps158
  go_wp2_with fail
  go_step3
  go_wp2_with fail
  go_step3
  go_wp2_with fail
  go_loopg [4, 5, 6, 7] (21 - c) (fun k o ok j hf wr => ∃ j' : Nat, c + 1 ≤ j' ∧ j' ≤ 21 ∧ k = 21 - j' + 1 ∧ o = .int .i64 0 ∧ ok = .bool false ∧ j = .int .i64 j' ∧ w = wr)
  case atStart => exact ⟨c + 1, by omega, by omega, by omega, rfl, rfl, by go_num, rfl⟩
  case round =>
    obtain ⟨j', hj1, hj2, rfl, rfl, rfl, rfl, rfl⟩ := hrel
    by_cases hjd : j' < 21
    · have hn := Hno.out j' (by omega) hjd
      have Hn := Lib.hid hn
      clear hn
      go_wp2_with (go_at_call 157; refine (first_rep_none _ (by omega) h Hn.out).mono ?_; rintro e w' ⟨rfl, rfl⟩)
      go_roundg (21 - (j' + 1) + 1)
      case measure => omega
      case rel => exact ⟨j' + 1, by omega, by omega, rfl, rfl, rfl, by go_num, rfl⟩
    · obtain rfl : j' = 21 := by omega
      go_wp2_with fail
      try rw [Exit.noGoto_ret]
      go_ret2
      exact ⟨rfl, rfl⟩
end Go.Proofs.YtkcmfldcdokobaaGreatDoor

/- What the arena's method take does. -/
namespace Go.Proofs.YtkcmfldcdokobaaGreatDoor
open Go.RowKit

theorem Tryz.infoU64 : (Tryz.prog.info? 27).map (fun i => (i.zero, i.size, i.bytes)) = some (some (.int .u64 0), 1, 8) := by kernel_rfl
theorem Tryz.infoBool : (Tryz.prog.info? 4).map (fun i => (i.zero, i.size, i.bytes)) = some (some (.bool false), 1, 1) := by kernel_rfl

theorem row_form {w : World} {e : TypeId} {v : Value} {n : Nat} {xs : List Value} (h : w.ownsRow 0 e 1 v n xs) : ∃ po cap, v = .slice po n cap := by
  rcases h.2 with ⟨h, h0⟩ | ⟨g, cap, _, h, _⟩
  · subst h0; exact ⟨none, 0, by assumption⟩
  · exact ⟨_, _, h⟩

set_option maxHeartbeats 1000000 in
theorem take_list {w : World} {F : Nat → Prop} {b : Nat} {A : Ar} (c : Nat) (hc : c < 21) (h : Rep w F b A) (l : List Nat) (x : Nat) (hl : A.free c = l ++ [x]) :
    Calls Tryz.prog 141 #[.pointer (some ⟨b, 0, none⟩), .int .i64 c] w fun e w' => e = .returned (.tuple #[.int .i64 x, .bool true]) ∧
      Rep w' F b (WithFree A c l) ∧ Kp F w w' ∧ w'.heap.size = w.heap.size := by
  have Hl := Lib.hid hl
  clear hl
  go_enter Tryz.func141, Tryz.ntmps141
  go_wp2_with (go_at_call 157; refine (first_rep_some _ hc h l x Hl.out).mono ?_; rintro e w1 ⟨rfl, hr1, hk1, hz1⟩; have Hz := Lib.hid hz1; clear hz1)
  go_ret2
  exact ⟨rfl, hr1, hk1, Hz.out⟩

theorem keepd {w1 w2 : World} {row : Option Nat} {b : Nat} (hg : w1.grownBy w2 row) (hb : b < w1.heap.size) (hne : some b ≠ row) (j : Nat) :
    w2.cell? ⟨b, j, none⟩ = w1.cell? ⟨b, j, none⟩ ∧ w2.frozen? ⟨b, j, none⟩ = w1.frozen? ⟨b, j, none⟩ :=
  ⟨hg.cell_far ⟨b, j, none⟩ hb hne, hg.frozen_far ⟨b, j, none⟩ hb hne⟩

/-- the top goes up by m places -/
def Ar.up (A : Ar) (m : Nat) : Ar := { A with places := A.places ++ List.replicate m 0, taken := A.taken ++ List.replicate m false }

theorem Rep.drew {w : World} {F : Nat → Prop} {b : Nat} {A : Ar} (h : Rep w F b A) : Rep w.drew F b A := by
  obtain ⟨sl, h⟩ := h
  exact ⟨sl, h.heap rfl⟩
def Ar.upP (A : Ar) (m : Nat) : Ar := { A with places := A.places ++ List.replicate m 0 }
theorem upd_places (A : Ar) (m : Nat) : upd A.rows 0 (A.places.map (Value.int .u64) ++ List.replicate m (Value.int .u64 0)) = (A.upP m).rows := by
  funext k
  unfold upd Ar.rows Ar.upP
  by_cases h0 : k = 0
  · rw [if_pos h0, if_pos h0]; simp
  · rw [if_neg h0, if_neg h0, if_neg h0]
theorem upd_taken (A : Ar) (m : Nat) : upd (A.upP m).rows 1 (A.taken.map Value.bool ++ List.replicate m (Value.bool false)) = (A.up m).rows := by
  funext k
  unfold upd Ar.rows Ar.upP Ar.up
  by_cases h0 : k = 1
  · subst h0
    rw [if_pos rfl, if_neg (by omega), if_pos rfl]; simp
  · rw [if_neg h0, if_neg h0, if_neg h0]

theorem up_places {A : Ar} {F : Nat → Prop} {w w2 : World} {b m g cap : Nat} {sl : Nat → Value} {v : Value}
    (hR : Reps ety w F b A.hd 23 A.rows sl) (hv : sl 0 = v)
    (hown : w2.ownsRow 0 27 1 (.slice (some ⟨g, 0, none⟩) (A.places.length + m) cap) (A.places.length + m) (A.places.map (Value.int .u64) ++ List.replicate m (Value.int .u64 0)))
    (hgrow : w.grownBy w2 v.ownBlock) (hat : v.ownBlock = some g ∨ g = w.heap.size) (hlt : g < w2.heap.size) :
    Rep (w2.setCell ⟨b, 3, none⟩ (.slice (some ⟨g, 0, none⟩) (A.places.length + m) cap)) (Ext F w (w2.setCell ⟨b, 3, none⟩ (.slice (some ⟨g, 0, none⟩) (A.places.length + m) cap))) b (A.upP m) ∧
      Kp F w (w2.setCell ⟨b, 3, none⟩ (.slice (some ⟨g, 0, none⟩) (A.places.length + m) cap)) := by
  subst hv
  have hl : (A.places.map (Value.int .u64) ++ List.replicate m (Value.int .u64 0)).length = A.places.length + m := by simp
  have hp := hR.grow 0 (by omega) (xs := A.places.map (Value.int .u64) ++ List.replicate m (Value.int .u64 0)) (by rw [hl]; exact hown) hgrow hat hlt
  rw [hl, upd_places] at hp
  refine ⟨⟨_, hp.1.more ?_ ?_⟩, hp.2⟩
  · intro q hq
    rcases hq with hq | hq
    · exact .inl hq
    · exact .inr ⟨hq.1, by have := hq.2; simpa [World.setCell] using this⟩
  · intro q hq
    rcases hq with hq | hq
    · exact hp.1.lt q (.inl hq)
    · exact hq.2
theorem up_taken {A : Ar} {F : Nat → Prop} {w w2 : World} {b m g cap : Nat} {sl : Nat → Value} {v : Value}
    (hR : Reps ety w F b (A.upP m).hd 23 (A.upP m).rows sl) (hv : sl 1 = v)
    (hown : w2.ownsRow 0 4 1 (.slice (some ⟨g, 0, none⟩) (A.taken.length + m) cap) (A.taken.length + m) (A.taken.map Value.bool ++ List.replicate m (Value.bool false)))
    (hgrow : w.grownBy w2 v.ownBlock) (hat : v.ownBlock = some g ∨ g = w.heap.size) (hlt : g < w2.heap.size) :
    Rep (w2.setCell ⟨b, 4, none⟩ (.slice (some ⟨g, 0, none⟩) (A.taken.length + m) cap)) (Ext F w (w2.setCell ⟨b, 4, none⟩ (.slice (some ⟨g, 0, none⟩) (A.taken.length + m) cap))) b (A.up m) ∧
      Kp F w (w2.setCell ⟨b, 4, none⟩ (.slice (some ⟨g, 0, none⟩) (A.taken.length + m) cap)) := by
  subst hv
  have hl : (A.taken.map Value.bool ++ List.replicate m (Value.bool false)).length = A.taken.length + m := by simp
  have hp := hR.grow 1 (by omega) (xs := A.taken.map Value.bool ++ List.replicate m (Value.bool false)) (by rw [hl]; exact hown) hgrow hat hlt
  rw [hl, upd_taken] at hp
  refine ⟨⟨_, hp.1.more ?_ ?_⟩, hp.2⟩
  · intro q hq
    rcases hq with hq | hq
    · exact .inl hq
    · exact .inr ⟨hq.1, by have := hq.2; simpa [World.setCell] using this⟩
  · intro q hq
    rcases hq with hq | hq
    · exact hp.1.lt q (.inl hq)
    · exact hq.2

set_option maxHeartbeats 1000000 in
theorem take_top {w : World} {F : Nat → Prop} {b : Nat} {A : Ar} (c : Nat) (hc : c < 21) (h : Rep w F b A) (hl : A.free c = []) (hs : A.size ≤ 1048576) (hroom : A.places.length + 2 ^ c ≤ A.size) (hte : A.taken.length ≤ 1048576) :
    Calls Tryz.prog 141 #[.pointer (some ⟨b, 0, none⟩), .int .i64 c] w (Ends F w b (.tuple #[.int .i64 A.places.length, .bool true]) (A.up (2 ^ c))) := by
  have Hl := Lib.hid hl
  clear hl
  have hm0 : 0 < 2 ^ c := Nat.pow_pos (by omega)
  have hmI : ((2 ^ c : Nat) : Int) = 2 ^ c := by simp
  obtain ⟨m, hm⟩ : ∃ m : Nat, 2 ^ c = m := ⟨_, rfl⟩
  rw [hm] at hroom hm0 hmI ⊢
  have hw1 : IntKind.i64.wrap (2 ^ c) = (m : Int) := by rw [← hmI]; exact IntWalk.i64_in _ (by omega)
  clear hm hmI
  have h' := h
  obtain ⟨sl, hR⟩ := h
  have ho := hR.own 0 (by omega)
  have hce := hR.cell 0 (by omega)
  have hsz := hR.head 0 _ rfl
  have hf := hR.fz 3
  have hbs := hR.lt b hR.inF
  have hne : some b ≠ (sl 0).ownBlock := fun e => (hR.inn 0 b (by omega) e.symm).2 rfl
  obtain ⟨po, cap, hv⟩ := row_form ho
  rw [show A.hd.length + 0 = 3 from rfl, hv] at hce
  rw [show A.rows 0 = A.places.map (Value.int .u64) from rfl, List.length_map] at hv ho hce
  rw [hv] at ho hne
  have Hv := Lib.hid hv
  clear hv
  go_enter Tryz.func141, Tryz.ntmps141
  go_wp2_with (go_at_call 157; refine (first_rep_none _ hc h' Hl.out).mono ?_; rintro e w1 ⟨rfl, rfl⟩)
  have hw2 : IntKind.i64.wrap ((A.places.length : Int) + m) = (A.places.length : Int) + m := IntWalk.i64_in _ (by omega)
  have hle : ((A.places.length : Int) + m ≤ A.size) := by omega
  have hcap1 : A.places.length + m ≤ maxLen := by unfold maxLen; omega
  have hcap2 : (A.places.length + m) * 8 ≤ 140737488355328 := by omega
  obtain ⟨i0, hi, hz0, hz1, hz2⟩ := info_parts Tryz.infoU64
  have Hs := Lib.hid (And.intro hcap1 (And.intro hcap2 hte))
  clear hcap1 hcap2
  go_region
  all_goals go_wp2_with fail
  have hoA : w.drew.drew.ownsRow 0 27 1 (.slice po A.places.length cap) A.places.length (A.places.map (Value.int .u64)) := ownsRow_of_heap (w := w) rfl ho
  go_region_law (((refine step_append_make _ (by rfl) _ _ 34 3 (by rfl) 0 27 i0 (.int .u64 0) .i64 .i64 8 Tryz.underlying34 Tryz.underlying3 hi hz0 hz1 hz2 (by rfl) (by rfl) (.slice po A.places.length cap) A.places.length _ (by rfl) hoA m (by rfl) hm0 Hs.out.1 Hs.out.2.1 (by omega) ?_); intro g1 cap1 w2 hown hgrow hat hlt2; obtain ⟨k0, k1⟩ := keepd hgrow hbs hne 3; have k2 := k0.trans hce; have k3 := k1.trans hf; clear k0 k1))
  have hg1 : w.grownBy w2 (Value.slice po A.places.length cap).ownBlock := ⟨hgrow.os, hgrow.tape, hgrow.output, hgrow.size, hgrow.block⟩
  obtain ⟨⟨sl2, hR2⟩, hK2⟩ := up_places hR Hv.out hown hg1 hat hlt2
  clear hown hgrow hat k2 k3 hg1 hoA hR hlt2 ho hce hne hbs hf hsz Hv sl
  have hf2 := hR2.fz 4
  have ho2 := hR2.own 1 (by omega)
  have hce2 := hR2.cell 1 (by omega)
  have hbs2 := hR2.lt b hR2.inF
  have hne2 : some b ≠ (sl2 1).ownBlock := fun e => (hR2.inn 1 b (by omega) e.symm).2 rfl
  generalize w2.setCell ⟨b, 3, none⟩ (.slice (some ⟨g1, 0, none⟩) (A.places.length + m) cap1) = w3 at *
  obtain ⟨po2, cap2, hv2⟩ := row_form ho2
  rw [show (A.upP m).hd.length + 1 = 4 from rfl, hv2] at hce2
  rw [show (A.upP m).rows 1 = A.taken.map Value.bool from rfl, List.length_map] at hv2 ho2 hce2
  rw [hv2] at ho2 hne2
  have Hv2 := Lib.hid hv2
  clear hv2
  go_wp2_with fail
  have hcap1 : A.taken.length + m ≤ maxLen := by unfold maxLen; omega
  have hcap2 : (A.taken.length + m) * 1 ≤ 140737488355328 := by omega
  obtain ⟨i1, hi', hz0', hz1', hz2'⟩ := info_parts Tryz.infoBool
  have Hs2 := Lib.hid (And.intro hcap1 hcap2)
  clear hcap1 hcap2
  have hoB : w3.drew.ownsRow 0 4 1 (.slice po2 A.taken.length cap2) A.taken.length (A.taken.map Value.bool) := ownsRow_of_heap (w := w3) rfl ho2
  go_region_law (((refine step_append_make _ (by rfl) _ _ 26 3 (by rfl) 0 4 i1 (.bool false) .i64 .i64 1 Tryz.underlying26 Tryz.underlying3 hi' hz0' hz1' hz2' (by rfl) (by rfl) (.slice po2 A.taken.length cap2) A.taken.length _ (by rfl) hoB m (by rfl) hm0 Hs2.out.1 Hs2.out.2 (by omega) ?_); intro g2 cap3 w4 hown hgrow hat hlt2; obtain ⟨k0, k1⟩ := keepd hgrow hbs2 hne2 4; have k2 := k0.trans hce2; have k3 := k1.trans hf2; clear k0 k1))
  have hg2 : w3.grownBy w4 (Value.slice po2 A.taken.length cap2).ownBlock := ⟨hgrow.os, hgrow.tape, hgrow.output, hgrow.size, hgrow.block⟩
  have hup := up_taken hR2 Hv2.out hown hg2 hat hlt2
  clear hown hgrow hat k2 k3 hg2 hoB hR2 hlt2 ho2 hce2 hne2 hbs2 hf2 Hv2 sl2
  generalize w4.setCell ⟨b, 4, none⟩ (.slice (some ⟨g2, 0, none⟩) (A.taken.length + m) cap3) = w5 at *
  go_wp2_with fail
  go_ret2
  have h0 := hK2.size
  have h1 := hup.2.size
  refine ⟨rfl, hup.1.more' ?_ ?_, hK2.trans hup.2⟩
  · intro q hq
    rcases hq with (hq | hq) | hq
    · exact .inl hq
    · exact .inr ⟨hq.1, by omega⟩
    · exact .inr ⟨by omega, hq.2⟩
  · intro q hq
    rcases hq with hq | hq
    · exact hup.1.ltF q (.inl (.inl hq))
    · exact hq.2

set_option maxHeartbeats 1000000 in
theorem take_cut {w : World} {F : Nat → Prop} {b : Nat} {A : Ar} (c d : Nat) (hc : 1 ≤ c) (hcd : c < d) (hd : d < 21) (h : Rep w F b A) (hl : A.free c = []) (hs : A.size ≤ 1048576) (ht : A.places.length ≤ 1048576) (hroom : A.size < A.places.length + 2 ^ c)
    (l : List Nat) (x : Nat) (hx : x ≤ 1048576) (hld : A.free d = l ++ [x]) (hno : ∀ k, c < k → k < d → A.free k = []) (hsz : ∀ k, (A.free k).length ≤ 1048576) :
    Calls Tryz.prog 141 #[.pointer (some ⟨b, 0, none⟩), .int .i64 c] w (Ends F w b (.tuple #[.int .i64 x, .bool true]) (CutA (WithFree A d l) c d x)) := by
  have Hl := Lib.hid (And.intro hl (And.intro hld (And.intro hno hsz)))
  clear hl hld hno hsz
  have hb1 := pow_bd c (by omega)
  have hmI : ((2 ^ c : Nat) : Int) = 2 ^ c := by simp
  obtain ⟨m, hm⟩ : ∃ m : Nat, 2 ^ c = m := ⟨_, rfl⟩
  rw [hm] at hroom hmI
  rw [← hmI] at hb1
  have hw1 : IntKind.i64.wrap (2 ^ c) = (m : Int) := by rw [← hmI]; exact IntWalk.i64_in _ (by omega)
  clear hm hmI
  have h' := h
  obtain ⟨sl, hR⟩ := h
  have ho := hR.own 0 (by omega)
  have hce := hR.cell 0 (by omega)
  have hsz := hR.head 0 _ rfl
  obtain ⟨po, cap, hv⟩ := row_form ho
  rw [show A.hd.length + 0 = 3 from rfl, hv] at hce
  rw [show A.rows 0 = A.places.map (Value.int .u64) from rfl, List.length_map] at hce
  have hw2 : IntKind.i64.wrap ((A.places.length : Int) + m) = (A.places.length : Int) + m := IntWalk.i64_in _ (by omega)
  have hle : ¬ ((A.places.length : Int) + m ≤ A.size) := by omega
  clear hv ho hR
  go_enter Tryz.func141, Tryz.ntmps141
  go_wp2_with (go_at_call 157; refine (first_rep_none _ (by omega) h' Hl.out.1).mono ?_; rintro e w1 ⟨rfl, rfl⟩)
  go_region
  all_goals go_wp2_with (go_at_call 158; refine (cut_some (w := w.drew) (F := F) c d hc hcd hd h'.drew l x hx Hl.out.2.1 Hl.out.2.2.1 Hl.out.2.2.2).mono ?_; rintro e w1 ⟨rfl, hr1, hk1⟩)
  all_goals go_ret2
  all_goals exact ⟨rfl, hr1, ⟨hk1.os, hk1.tape, hk1.output, hk1.size, hk1.block⟩⟩

set_option maxHeartbeats 1000000 in
theorem take_none {w : World} {F : Nat → Prop} {b : Nat} {A : Ar} (c : Nat) (hc : 1 ≤ c) (hc2 : c < 21) (h : Rep w F b A) (hl : A.free c = []) (hs : A.size ≤ 1048576) (ht : A.places.length ≤ 1048576) (hroom : A.size < A.places.length + 2 ^ c)
    (hno : ∀ k, c < k → k < 21 → A.free k = []) :
    Calls Tryz.prog 141 #[.pointer (some ⟨b, 0, none⟩), .int .i64 c] w fun e w' => e = .returned (.tuple #[.int .i64 0, .bool false]) ∧ w' = w.drew := by
  have Hl := Lib.hid (And.intro hl hno)
  clear hl hno
  have hb1 := pow_bd c (by omega)
  have hmI : ((2 ^ c : Nat) : Int) = 2 ^ c := by simp
  obtain ⟨m, hm⟩ : ∃ m : Nat, 2 ^ c = m := ⟨_, rfl⟩
  rw [hm] at hroom hmI
  rw [← hmI] at hb1
  have hw1 : IntKind.i64.wrap (2 ^ c) = (m : Int) := by rw [← hmI]; exact IntWalk.i64_in _ (by omega)
  clear hm hmI
  have h' := h
  obtain ⟨sl, hR⟩ := h
  have ho := hR.own 0 (by omega)
  have hce := hR.cell 0 (by omega)
  have hsz := hR.head 0 _ rfl
  obtain ⟨po, cap, hv⟩ := row_form ho
  rw [show A.hd.length + 0 = 3 from rfl, hv] at hce
  rw [show A.rows 0 = A.places.map (Value.int .u64) from rfl, List.length_map] at hce
  have hw2 : IntKind.i64.wrap ((A.places.length : Int) + m) = (A.places.length : Int) + m := IntWalk.i64_in _ (by omega)
  have hle : ¬ ((A.places.length : Int) + m ≤ A.size) := by omega
  clear hv ho hR
  go_enter Tryz.func141, Tryz.ntmps141
  go_wp2_with (go_at_call 157; refine (first_rep_none _ (by omega) h' Hl.out.1).mono ?_; rintro e w1 ⟨rfl, rfl⟩)
  go_region
  all_goals go_wp2_with (go_at_call 158; refine (cut_none (w := w.drew) (F := F) c hc hc2 h'.drew Hl.out.2).mono ?_; rintro e w1 ⟨rfl, rfl⟩)
  all_goals go_ret2
  all_goals exact ⟨rfl, rfl⟩
end Go.Proofs.YtkcmfldcdokobaaGreatDoor
