/- What Alloc does, by where the block comes from; the statements' common example. -/
import Derived.Test.YthilajdjkglkkaaNew
namespace Go.Proofs.Ythilajdjkglkkaa
open Go.RowKit

theorem alloc_top {w : World} {F : Nat → Prop} {b : Nat} {A : Ar} (n c : Nat) (h : Rep w F b A) (hn : n ≤ 1048576) (hc : cls n = c) (hc2 : c < 21) (hq : A.used + 2 ^ c ≤ A.quota) (hqs : A.quota ≤ 1048576) (hs : A.size ≤ 1048576)
    (hf : A.free c = []) (hroom : A.places.length + 2 ^ c ≤ A.size) (hte : A.taken.length = A.places.length) :
    Calls Try.prog 11 #[.pointer (some ⟨b, 0, none⟩), .int .i64 n] w (Ends F w b (.tuple #[.int .i64 (A.places.length + 1), .nilIface]) ((A.up (2 ^ c)).took A.places.length c n)) := by
  have hcs := cls_spec n hn
  rw [hc] at hcs
  refine alloc_ok n c A.places.length h hn hc hcs.1 hc2 hcs.2.2.1 hq hqs (fun w h => take_top c hc2 h hf hs hroom (by omega)) rfl ?_ ?_ ?_
  · simp [Ar.up]
  · simp [Ar.up, hte]
  · simp [Ar.up]; omega

theorem alloc_list {w : World} {F : Nat → Prop} {b : Nat} {A : Ar} (n c : Nat) (h : Rep w F b A) (hn : n ≤ 1048576) (hc : cls n = c) (hc2 : c < 21) (hq : A.used + 2 ^ c ≤ A.quota) (hqs : A.quota ≤ 1048576)
    (l : List Nat) (x : Nat) (hf : A.free c = l ++ [x]) (hroom : x + 2 ^ c ≤ A.places.length) (hpl : A.places.length ≤ 1048576) (hte : A.taken.length = A.places.length) :
    Calls Try.prog 11 #[.pointer (some ⟨b, 0, none⟩), .int .i64 n] w (Ends F w b (.tuple #[.int .i64 (x + 1), .nilIface]) ((WithFree A c l).took x c n)) := by
  have hcs := cls_spec n hn
  rw [hc] at hcs
  refine alloc_ok n c x h hn hc hcs.1 hc2 hcs.2.2.1 hq hqs (fun w h => (take_list c hc2 h l x hf).mono ?_) rfl hroom hte hpl
  rintro e w' ⟨rfl, h1, h2, h3⟩
  exact ⟨rfl, h1.more' (fun q hq => .inl hq) (fun q hq => by rcases hq with hq | hq; exact h1.ltF q hq; exact hq.2), h2⟩

theorem alloc_cut {w : World} {F : Nat → Prop} {b : Nat} {A : Ar} (n c d : Nat) (h : Rep w F b A) (hn : n ≤ 1048576) (hc : cls n = c) (hcd : c < d) (hd : d < 21) (hq : A.used + 2 ^ c ≤ A.quota) (hqs : A.quota ≤ 1048576) (hs : A.size ≤ 1048576)
    (hfc : A.free c = []) (hfull : A.size < A.places.length + 2 ^ c) (l : List Nat) (x : Nat) (hf : A.free d = l ++ [x]) (hno : ∀ k, c < k → k < d → A.free k = []) (hsz : ∀ k, (A.free k).length ≤ 1048576)
    (hroom : x + 2 ^ d ≤ A.places.length) (hpl : A.places.length ≤ 1048576) (hte : A.taken.length = A.places.length) :
    Calls Try.prog 11 #[.pointer (some ⟨b, 0, none⟩), .int .i64 n] w (Ends F w b (.tuple #[.int .i64 (x + 1), .nilIface]) ((CutA (WithFree A d l) c d x).took x c n)) := by
  have hcs := cls_spec n hn
  rw [hc] at hcs
  have hpow : 2 ^ c ≤ 2 ^ d := Nat.pow_le_pow_right (by omega) (by omega)
  exact alloc_ok n c x h hn hc hcs.1 (by omega) hcs.2.2.1 hq hqs (fun w h => take_cut c d hcs.1 hcd hd h hfc hs hpl hfull l x (by omega) hf hno hsz) rfl (by show x + 2 ^ c ≤ A.places.length; omega) hte hpl

theorem alloc_noroom {w : World} {F : Nat → Prop} {b : Nat} {A : Ar} (n c : Nat) (h : Rep w F b A) (hn : n ≤ 1048576) (hc : cls n = c) (hc2 : c < 21) (hu : A.used ≤ 1048576) (hq : A.used + 2 ^ c ≤ A.quota) (hs : A.size ≤ 1048576) (hpl : A.places.length ≤ 1048576)
    (hfc : A.free c = []) (hfull : A.size < A.places.length + 2 ^ c) (hno : ∀ k, c < k → k < 21 → A.free k = []) :
    Calls Try.prog 11 #[.pointer (some ⟨b, 0, none⟩), .int .i64 n] w (EndsBad F w b A (fun v => .tuple #[.int .i64 0, v]) ⟨#[97, 108, 108, 111, 99]⟩ n (.iface 47 (.int .i64 2))) := by
  have hcs := cls_spec n hn
  rw [hc] at hcs
  exact alloc_none n c h hn hc (by omega) hu hq (fun w h => take_none c hcs.1 hc2 h hfc hs hpl hfull hno)

theorem new_then {w w1 w2 : World} (hz : w1.heap.size = w.heap.size + 1) (k1 : Kp (fun _ => False) w w1) (k2 : Kp (only w.heap.size) w1 w2) : Kp (fun _ => False) w w2 :=
  k1.trans (k2.mono fun q _ hq => .inr (by rw [hq]; omega))

set_option maxHeartbeats 400000 in
theorem awake_any (w : World) : Calls Try.prog 15 #[] w fun e w' => e = .returned (.bool true) ∧ Kp (fun _ => False) w w' := by
  go_enter Try.func15, Try.ntmps15
  go_wp2_with fail
  refine (new_ok w 16 16 (by omega) (by omega) (by omega) (by omega)).mono ?_
  rintro e w1 ⟨rfl, h1, k1, z1⟩
  have Hz := Lib.hid z1
  clear z1
  go_wp2_with fail
  refine (alloc_top 1 1 h1 (by omega) (by decide) (by omega) (by decide) (by decide) (by decide) rfl (by decide) rfl).mono ?_
  rintro e w2 ⟨rfl, h2, k2⟩
  go_wp2_with fail
  refine (alloc_top 2 2 h2 (by omega) (by decide) (by omega) (by decide) (by decide) (by decide) rfl (by decide) rfl).mono ?_
  rintro e w3 ⟨rfl, h3, k3⟩
  go_wp2_with fail
  refine (alloc_top 1 1 h3 (by omega) (by decide) (by omega) (by decide) (by decide) (by decide) rfl (by decide) rfl).mono ?_
  rintro e w4 ⟨rfl, h4, k4⟩
  go_wp2_with (go_at_call 17; refine (used_any h4).mono ?_; rintro e w' ⟨rfl, rfl⟩)
  go_ret
  refine ⟨?_, ?_⟩
  · rfl
  · exact new_then Hz.out k1 ((k2.trans k3).trans (k4.mono fun q _ hq => Ext.ext k2.size k3.size hq))
end Go.Proofs.Ythilajdjkglkkaa
