/- What the functions New, Place and the arena's method Blocks do. What Alloc does, by where the block comes from; the statements' common example. -/
import Derived.Test.YtkcmfldcdokobaaGreatDoorM06
/- What the functions New, Place and the arena's method Blocks do. -/
namespace Go.Proofs.YtkcmfldcdokobaaGreatDoor
open Go.RowKit

def Ar.new (size quota : Nat) : Ar := ⟨size, quota, 0, [], [], fun _ => []⟩
def only (b : Nat) : Nat → Prop := fun k => k = b

theorem new_rep (w : World) (size quota : Nat) (k : Nat) (t : TypeId) :
    Rep ((w.alloc (.cells #[.int .i64 size, .int .i64 quota, .int .i64 0, .slice none 0 0, .slice none 0 0, .slice none 0 0, .slice none 0 0, .slice none 0 0, .slice none 0 0, .slice none 0 0, .slice none 0 0, .slice none 0 0,
      .slice none 0 0, .slice none 0 0, .slice none 0 0, .slice none 0 0, .slice none 0 0, .slice none 0 0, .slice none 0 0, .slice none 0 0, .slice none 0 0, .slice none 0 0, .slice none 0 0, .slice none 0 0, .slice none 0 0, .slice none 0 0] t)).drewN k)
      (only w.heap.size) w.heap.size (Ar.new size quota) := by
  refine ⟨fun _ => .slice none 0 0, Reps.heap (w := w.alloc (.cells #[.int .i64 size, .int .i64 quota, .int .i64 0, .slice none 0 0, .slice none 0 0, .slice none 0 0, .slice none 0 0, .slice none 0 0, .slice none 0 0, .slice none 0 0, .slice none 0 0, .slice none 0 0,
      .slice none 0 0, .slice none 0 0, .slice none 0 0, .slice none 0 0, .slice none 0 0, .slice none 0 0, .slice none 0 0, .slice none 0 0, .slice none 0 0, .slice none 0 0, .slice none 0 0, .slice none 0 0, .slice none 0 0, .slice none 0 0] t)) ?_ rfl⟩
  have hrow := fun j => cell_of_row (w.alloc (.cells #[.int .i64 size, .int .i64 quota, .int .i64 0, .slice none 0 0, .slice none 0 0, .slice none 0 0, .slice none 0 0, .slice none 0 0, .slice none 0 0, .slice none 0 0, .slice none 0 0, .slice none 0 0,
      .slice none 0 0, .slice none 0 0, .slice none 0 0, .slice none 0 0, .slice none 0 0, .slice none 0 0, .slice none 0 0, .slice none 0 0, .slice none 0 0, .slice none 0 0, .slice none 0 0, .slice none 0 0, .slice none 0 0, .slice none 0 0] t)) w.heap.size j _ t (0, 0) (heap_alloc_new w _)
  refine ⟨rfl, ?_, ?_, ?_, ?_, ?_, ?_, ?_⟩
  · intro q hq; rw [hq]; simp
  · intro j v hj
    rw [hrow]
    match j, hj with
    | 0, hj => exact hj
    | 1, hj => exact hj
    | 2, hj => exact hj
  · intro q hq
    rw [hrow]
    simp only [Ar.hd, List.length_cons, List.length_nil]
    match q, hq with
    | 0, _ | 1, _ | 2, _ | 3, _ | 4, _ | 5, _ | 6, _ | 7, _ | 8, _ | 9, _ | 10, _ | 11, _ | 12, _ | 13, _ | 14, _ | 15, _ | 16, _ | 17, _ | 18, _ | 19, _ | 20, _ | 21, _ | 22, _ => rfl
    | q + 23, h => exact absurd h (by omega)
  · intro j
    exact frozen_of_row _ _ _ _ _ (heap_alloc_new w _)
  · intro q hq
    have : (Ar.new size quota).rows q = [] := by
      unfold Ar.rows Ar.new
      split
      · rfl
      · split <;> rfl
    rw [this]
    exact World.ownsRow_nil _ _ _ _
  · intro q g hq hg; simp [Value.ownBlock] at hg
  · intro i q g hi hq hg; simp [Value.ownBlock] at hg

set_option maxHeartbeats 400000 in
theorem arNew_ok (w : World) (size quota : Nat) (h1 : 2 ≤ size) (h2 : size ≤ 1048576) (h3 : 1 ≤ quota) (h4 : quota ≤ size) :
    Calls Tryz.prog 110 #[.int .i64 size, .int .i64 quota] w fun e w' => e = .returned (.tuple #[.pointer (some ⟨w.heap.size, 0, none⟩), .nilIface]) ∧
      Rep w' (only w.heap.size) w.heap.size (Ar.new size quota) ∧ Kp (fun _ => False) w w' ∧ w'.heap.size = w.heap.size + 1 := by
  go_enter Tryz.func110, Tryz.ntmps110
  go_wp2
  go_ret2
  exact ⟨rfl, new_rep w size quota 0 109, (Kp.refl _ w).alloc _, by simp⟩

/-- the names of the blocks that are taken, among the first k places -/
def namesTo (l : List Bool) (k : Nat) : List Nat := (List.range k).filterMap fun q => if l.getD q false then some (q + 1) else none
def Ar.names (A : Ar) : List Nat := namesTo A.taken A.taken.length
theorem namesTo_succ (l : List Bool) (k : Nat) : namesTo l (k + 1) = namesTo l k ++ (if l.getD k false then [k + 1] else []) := by
  unfold namesTo
  rw [List.range_succ, List.filterMap_append]
  congr 1
  simp only [List.filterMap_cons, List.filterMap_nil]
  split <;> rename_i h <;> split at h <;> simp_all
theorem namesTo_len (l : List Bool) (k : Nat) : (namesTo l k).length ≤ k := by
  unfold namesTo
  have := List.length_filterMap_le (fun q => if l.getD q false then some (q + 1) else none) (List.range k)
  simpa using this

set_option maxHeartbeats 400000 in
theorem blocks_any {w : World} {F : Nat → Prop} {b : Nat} {A : Ar} (h : Rep w F b A) (ht : A.taken.length ≤ 1048576) :
    Calls Tryz.prog 20 #[.pointer (some ⟨b, 0, none⟩)] w fun e w' => ∃ v, e = .returned v ∧ w'.ownsRow w.heap.size 3 1 v A.names.length (A.names.map fun (x : Nat) => Value.int .i64 x) ∧ Kp (fun _ => False) w w' := by
  obtain ⟨po, cap, hce, hq⟩ := holds_cells h
  go_enter Tryz.func20, Tryz.ntmps20
  go_wp2_with fail
  obtain ⟨L, hL⟩ : ∃ L, A.taken.length = L := ⟨_, rfl⟩
  have Hfin := Lib.hid hL
  rw [hL] at hce ht hq
  simp only [hL]
  clear hL hce
  go_loopg [3, 11] L (fun gk s i wr => ∃ (k : Nat) (v : Value), k ≤ L ∧ gk = L - k ∧ i = .int .i64 k ∧ v = s ∧ wr.ownsRow w.heap.size 3 1 v (namesTo A.taken k).length ((namesTo A.taken k).map fun (x : Nat) => Value.int .i64 x) ∧ Kp (fun _ => False) w wr)
  case atStart => exact ⟨0, _, by omega, rfl, rfl, rfl, World.ownsRow_nil _ _ _ _, Kp.refl _ w⟩
  case round =>
    obtain ⟨k, v, hk, rfl, rfl, rfl, hown, hkp⟩ := hrel
    by_cases hlt : k < L
    · obtain ⟨g, rfl, hc⟩ := hq k hlt
      have hgl := World.block_lt_of_cell? _ _ hc
      have hc' := (hkp.cell (p := ⟨g, k, none⟩) hgl (fun e => e)).trans hc
      have hki : (k : Int) < L := by omega
      have hsucc := namesTo_succ A.taken k
      have hlen := namesTo_len A.taken k
      cases hx : A.taken.getD k false with
      | false =>
        rw [hx] at hc' hsucc
        rw [if_neg (by decide), List.append_nil] at hsucc
        have Hs := Lib.hid hsucc
        clear hsucc hc hx hq
        go_wp2_with fail
        go_roundg (L - (k + 1))
        case measure => omega
        case rel => exact ⟨k + 1, v, by omega, rfl, by go_num, rfl, by rw [Hs.out]; exact hown, hkp⟩
      | true =>
        rw [hx] at hc' hsucc
        rw [if_pos rfl] at hsucc
        have Hs := Lib.hid hsucc
        clear hsucc hc hx hq
        obtain ⟨xs, hxs⟩ : ∃ xs, namesTo A.taken k = xs := ⟨_, rfl⟩
        rw [hxs] at hown hlen
        have Hxs := Lib.hid hxs
        clear hxs
        have hsz := hkp.size
        obtain ⟨i0, hi, hz0, hz1, hz2⟩ := info_parts Tryz.infoIntA
        have hoA : ∀ o, (wr.alloc o).ownsRow w.heap.size 3 1 v xs.length (xs.map fun (x : Nat) => Value.int .i64 x) := fun o => by simpa using hown.alloc o
        have hnA : ∀ j u, [Value.int .i64 (k + 1)][j]? = some u → (wr.alloc (.cells #[.int .i64 (k + 1)] 3)).cell? ((⟨wr.heap.size, 0, none⟩ : Addr).add j) = some u :=
          World.news_of_block (cs := #[.int .i64 (k + 1)]) (heap_alloc_new wr _)
        have hone : ∀ u ∈ [Value.int .i64 (k + 1)], u.oneCell' = true := by intro u hu; simp at hu; subst hu; rfl
        have hcap1 : xs.length + 1 ≤ maxLen := by unfold maxLen; omega
        have hcap2 : (xs.length + 1) * 8 ≤ 140737488355328 := by omega
        have hbase : ∀ o, w.heap.size ≤ (wr.alloc o).heap.size := fun o => by simp; omega
        have Hc := Lib.hid (And.intro hcap1 hcap2)
        clear hcap1 hcap2
        go_wp2_with (at_builtin; refine wpList_append_lies _ rfl _ _ 22 rfl w.heap.size 3 i0 (.int .i64 0) 1 8 Tryz.underlying22 hi hz0 hz1 hz2 rfl (by omega) v xs.length _ rfl (hoA _) ⟨wr.heap.size, 0, none⟩ 1 1 [.int .i64 (k + 1)] rfl rfl hnA hone (by omega) Hc.out.1 Hc.out.2 (hbase _) (wr.heap.size + 1) (by simp) ?_; intro g1 cap1 w2 hown2 hgrow hat hlt2)
        go_roundg (L - (k + 1))
        case measure => omega
        case rel =>
          refine ⟨k + 1, _, by omega, rfl, by go_num, rfl, ?_, ?_⟩
          · rw [Hs.out, Hxs.out]
            simpa using hown2
          · refine (hkp.alloc _).grown hgrow (fun q hq => .inr ?_)
            exact (hown.lt q hq).1
    · obtain rfl : k = L := by omega
      clear hq
      go_wp2_with fail
      go_ret
      exact ⟨v, rfl, by rw [show A.names = namesTo A.taken k from by unfold Ar.names; rw [Hfin.out]]; exact hown, hkp⟩
end Go.Proofs.YtkcmfldcdokobaaGreatDoor

/- What Alloc does, by where the block comes from; the statements' common example. -/
namespace Go.Proofs.YtkcmfldcdokobaaGreatDoor
open Go.RowKit

theorem alloc_top {w : World} {F : Nat → Prop} {b : Nat} {A : Ar} (n c : Nat) (h : Rep w F b A) (hn : n ≤ 1048576) (hc : cls n = c) (hc2 : c < 21) (hq : A.used + 2 ^ c ≤ A.quota) (hqs : A.quota ≤ 1048576) (hs : A.size ≤ 1048576)
    (hf : A.free c = []) (hroom : A.places.length + 2 ^ c ≤ A.size) (hte : A.taken.length = A.places.length) :
    Calls Tryz.prog 96 #[.pointer (some ⟨b, 0, none⟩), .int .i64 n] w (Ends F w b (.tuple #[.int .i64 (A.places.length + 1), .nilIface]) ((A.up (2 ^ c)).took A.places.length c n)) := by
  have hcs := cls_spec n hn
  rw [hc] at hcs
  refine alloc_ok n c A.places.length h hn hc hcs.1 hc2 hcs.2.2.1 hq hqs (fun w h => take_top c hc2 h hf hs hroom (by omega)) rfl ?_ ?_ ?_
  · simp [Ar.up]
  · simp [Ar.up, hte]
  · simp [Ar.up]; omega

theorem alloc_list {w : World} {F : Nat → Prop} {b : Nat} {A : Ar} (n c : Nat) (h : Rep w F b A) (hn : n ≤ 1048576) (hc : cls n = c) (hc2 : c < 21) (hq : A.used + 2 ^ c ≤ A.quota) (hqs : A.quota ≤ 1048576)
    (l : List Nat) (x : Nat) (hf : A.free c = l ++ [x]) (hroom : x + 2 ^ c ≤ A.places.length) (hpl : A.places.length ≤ 1048576) (hte : A.taken.length = A.places.length) :
    Calls Tryz.prog 96 #[.pointer (some ⟨b, 0, none⟩), .int .i64 n] w (Ends F w b (.tuple #[.int .i64 (x + 1), .nilIface]) ((WithFree A c l).took x c n)) := by
  have hcs := cls_spec n hn
  rw [hc] at hcs
  refine alloc_ok n c x h hn hc hcs.1 hc2 hcs.2.2.1 hq hqs (fun w h => (take_list c hc2 h l x hf).mono ?_) rfl hroom hte hpl
  rintro e w' ⟨rfl, h1, h2, h3⟩
  exact ⟨rfl, h1.more' (fun q hq => .inl hq) (fun q hq => by rcases hq with hq | hq; exact h1.ltF q hq; exact hq.2), h2⟩

theorem alloc_cut {w : World} {F : Nat → Prop} {b : Nat} {A : Ar} (n c d : Nat) (h : Rep w F b A) (hn : n ≤ 1048576) (hc : cls n = c) (hcd : c < d) (hd : d < 21) (hq : A.used + 2 ^ c ≤ A.quota) (hqs : A.quota ≤ 1048576) (hs : A.size ≤ 1048576)
    (hfc : A.free c = []) (hfull : A.size < A.places.length + 2 ^ c) (l : List Nat) (x : Nat) (hf : A.free d = l ++ [x]) (hno : ∀ k, c < k → k < d → A.free k = []) (hsz : ∀ k, (A.free k).length ≤ 1048576)
    (hroom : x + 2 ^ d ≤ A.places.length) (hpl : A.places.length ≤ 1048576) (hte : A.taken.length = A.places.length) :
    Calls Tryz.prog 96 #[.pointer (some ⟨b, 0, none⟩), .int .i64 n] w (Ends F w b (.tuple #[.int .i64 (x + 1), .nilIface]) ((CutA (WithFree A d l) c d x).took x c n)) := by
  have hcs := cls_spec n hn
  rw [hc] at hcs
  have hpow : 2 ^ c ≤ 2 ^ d := Nat.pow_le_pow_right (by omega) (by omega)
  exact alloc_ok n c x h hn hc hcs.1 (by omega) hcs.2.2.1 hq hqs (fun w h => take_cut c d hcs.1 hcd hd h hfc hs hpl hfull l x (by omega) hf hno hsz) rfl (by show x + 2 ^ c ≤ A.places.length; omega) hte hpl

theorem alloc_noroom {w : World} {F : Nat → Prop} {b : Nat} {A : Ar} (n c : Nat) (h : Rep w F b A) (hn : n ≤ 1048576) (hc : cls n = c) (hc2 : c < 21) (hu : A.used ≤ 1048576) (hq : A.used + 2 ^ c ≤ A.quota) (hs : A.size ≤ 1048576) (hpl : A.places.length ≤ 1048576)
    (hfc : A.free c = []) (hfull : A.size < A.places.length + 2 ^ c) (hno : ∀ k, c < k → k < 21 → A.free k = []) :
    Calls Tryz.prog 96 #[.pointer (some ⟨b, 0, none⟩), .int .i64 n] w (EndsBad F w b A (fun v => .tuple #[.int .i64 0, v]) ⟨#[97, 108, 108, 111, 99]⟩ n (.iface 67 (.int .i64 2))) := by
  have hcs := cls_spec n hn
  rw [hc] at hcs
  exact alloc_none n c h hn hc (by omega) hu hq (fun w h => take_none c hcs.1 hc2 h hfc hs hpl hfull hno)

theorem new_then {w w1 w2 : World} (hz : w1.heap.size = w.heap.size + 1) (k1 : Kp (fun _ => False) w w1) (k2 : Kp (only w.heap.size) w1 w2) : Kp (fun _ => False) w w2 :=
  k1.trans (k2.mono fun q _ hq => .inr (by rw [hq]; omega))

end Go.Proofs.YtkcmfldcdokobaaGreatDoor
