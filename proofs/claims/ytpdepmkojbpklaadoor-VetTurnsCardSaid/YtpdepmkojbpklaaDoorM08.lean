/- Which terms have just the fields of their kind. -/
import Derived.Test.YtpdepmkojbpklaaDoorM02
import Derived.Test.YtpdepmkojbpklaaDoorM07
/- Which terms have just the fields of their kind. -/
namespace Go.Proofs.YtpdepmkojbpklaaDoor
open Go.RowKit

def Tm.kind : Tm → Int | .mk k _ _ _ _ _ => k
def Tm.num : Tm → Int | .mk _ n _ _ _ _ => n
def Tm.name : Tm → ByteArray | .mk _ _ s _ _ _ => s
def Tm.items : Tm → List Tm | .mk _ _ _ it _ _ => it
def Tm.rest : Tm → List Tm | .mk _ _ _ _ re _ => re
def Tm.bytes : Tm → List UInt8 | .mk _ _ _ _ _ b => b

/-- may a list end so? -/
def endsB : List Tm → Bool
  | [] => true
  | [t] => decide (t.kind ≠ 7) && decide (t.kind ≠ 6)
  | _ => false
/-- just the fields of its kind -/
def fitsK (k n : Int) (s : ByteArray) (it re : List Tm) (bys : List UInt8) : Bool :=
  if k = 1 then decide (s.toList = []) && decide (it.length = 0) && decide (re.length = 0) && ((bys.length : Int) == 0)
  else if k = 2 then if 1 ≤ s.size ∧ s.size ≤ 255 then decide (n = 0) && decide (it.length = 0) && decide (re.length = 0) && ((bys.length : Int) == 0) else false
  else if k = 3 ∨ k = 4 then if 0 ≤ n ∧ n ≤ 1152921504606846975 then decide (s.toList = []) && decide (it.length = 0) && decide (re.length = 0) && ((bys.length : Int) == 0) else false
  else if k = 5 then decide (n = 0) && decide (s.toList = []) && decide (re.length = 0) && ((bys.length : Int) == 0)
  else if k = 6 then decide (n = 0) && decide (s.toList = []) && decide (it.length = 0) && decide (re.length = 0) && ((bys.length : Int) == 0)
  else if k = 7 then !((it.length : Int) == 0) && endsB re && decide (n = 0) && decide (s.toList = []) && ((bys.length : Int) == 0)
  else if k = 8 then decide (n = 0) && decide (s.toList = []) && decide (it.length = 0) && decide (re.length = 0)
  else false
def fitsB : Tm → Bool | .mk k n s it re bys => fitsK k n s it re bys

set_option maxRecDepth 100000 in
set_option maxHeartbeats 1000000 in
theorem fitsk_int (n : Int) (s : ByteArray) (a a2 a3 : Option Addr) (l c l2 d l3 e : Nat) (w : World) :
    Calls Tryd.prog 60 #[.agg #[.int .i64 1, .int .i64 n, .string s, .slice a l c, .slice a2 l2 d, .slice a3 l3 e]] w fun e w' => e = .returned (.bool (decide (s.toList = []) && decide (l = 0) && decide (l2 = 0) && ((l3 : Int) == 0))) ∧ Kp (fun _ => False) w w' := by
  go_enter Tryd.func60, Tryd.ntmps60
  go_wp2
  all_goals
    go_ret
    exact ⟨by first | rfl | simp [*], (Kp.refl _ w).alloc _⟩

set_option maxRecDepth 100000 in
set_option maxHeartbeats 1000000 in
theorem fitsk_ref (n : Int) (s : ByteArray) (a a2 a3 : Option Addr) (l c l2 d l3 e : Nat) (w : World) (h0 : 0 ≤ n) (h1 : n ≤ 1152921504606846975) :
    Calls Tryd.prog 60 #[.agg #[.int .i64 3, .int .i64 n, .string s, .slice a l c, .slice a2 l2 d, .slice a3 l3 e]] w fun e w' => e = .returned (.bool (decide (s.toList = []) && decide (l = 0) && decide (l2 = 0) && ((l3 : Int) == 0))) ∧ Kp (fun _ => False) w w' := by
  have h2 : ¬ n < 0 := by omega
  have h3 : ¬ 1152921504606846975 < n := by omega
  go_enter Tryd.func60, Tryd.ntmps60
  go_wp2
  all_goals
    go_ret
    exact ⟨by first | rfl | simp [*], (Kp.refl _ w).alloc _⟩

set_option maxRecDepth 100000 in
set_option maxHeartbeats 1000000 in
theorem fitsk_ref_low (n : Int) (s : ByteArray) (a a2 a3 : Option Addr) (l c l2 d l3 e : Nat) (w : World) (h0 : n < 0) :
    Calls Tryd.prog 60 #[.agg #[.int .i64 3, .int .i64 n, .string s, .slice a l c, .slice a2 l2 d, .slice a3 l3 e]] w fun e w' => e = .returned (.bool (false)) ∧ Kp (fun _ => False) w w' := by
  go_enter Tryd.func60, Tryd.ntmps60
  go_wp2
  all_goals
    go_ret
    exact ⟨by first | rfl | simp [*], (Kp.refl _ w).alloc _⟩

set_option maxRecDepth 100000 in
set_option maxHeartbeats 1000000 in
theorem fitsk_ref_high (n : Int) (s : ByteArray) (a a2 a3 : Option Addr) (l c l2 d l3 e : Nat) (w : World) (h1 : 1152921504606846975 < n) :
    Calls Tryd.prog 60 #[.agg #[.int .i64 3, .int .i64 n, .string s, .slice a l c, .slice a2 l2 d, .slice a3 l3 e]] w fun e w' => e = .returned (.bool (false)) ∧ Kp (fun _ => False) w w' := by
  have h2 : ¬ n < 0 := by omega
  go_enter Tryd.func60, Tryd.ntmps60
  go_wp2
  all_goals
    go_ret
    exact ⟨by first | rfl | simp [*], (Kp.refl _ w).alloc _⟩

set_option maxRecDepth 100000 in
set_option maxHeartbeats 1000000 in
theorem fitsk_pid (n : Int) (s : ByteArray) (a a2 a3 : Option Addr) (l c l2 d l3 e : Nat) (w : World) (h0 : 0 ≤ n) (h1 : n ≤ 1152921504606846975) :
    Calls Tryd.prog 60 #[.agg #[.int .i64 4, .int .i64 n, .string s, .slice a l c, .slice a2 l2 d, .slice a3 l3 e]] w fun e w' => e = .returned (.bool (decide (s.toList = []) && decide (l = 0) && decide (l2 = 0) && ((l3 : Int) == 0))) ∧ Kp (fun _ => False) w w' := by
  have h2 : ¬ n < 0 := by omega
  have h3 : ¬ 1152921504606846975 < n := by omega
  go_enter Tryd.func60, Tryd.ntmps60
  go_wp2
  all_goals
    go_ret
    exact ⟨by first | rfl | simp [*], (Kp.refl _ w).alloc _⟩

set_option maxRecDepth 100000 in
set_option maxHeartbeats 1000000 in
theorem fitsk_pid_low (n : Int) (s : ByteArray) (a a2 a3 : Option Addr) (l c l2 d l3 e : Nat) (w : World) (h0 : n < 0) :
    Calls Tryd.prog 60 #[.agg #[.int .i64 4, .int .i64 n, .string s, .slice a l c, .slice a2 l2 d, .slice a3 l3 e]] w fun e w' => e = .returned (.bool (false)) ∧ Kp (fun _ => False) w w' := by
  go_enter Tryd.func60, Tryd.ntmps60
  go_wp2
  all_goals
    go_ret
    exact ⟨by first | rfl | simp [*], (Kp.refl _ w).alloc _⟩

set_option maxRecDepth 100000 in
set_option maxHeartbeats 1000000 in
theorem fitsk_pid_high (n : Int) (s : ByteArray) (a a2 a3 : Option Addr) (l c l2 d l3 e : Nat) (w : World) (h1 : 1152921504606846975 < n) :
    Calls Tryd.prog 60 #[.agg #[.int .i64 4, .int .i64 n, .string s, .slice a l c, .slice a2 l2 d, .slice a3 l3 e]] w fun e w' => e = .returned (.bool (false)) ∧ Kp (fun _ => False) w w' := by
  have h2 : ¬ n < 0 := by omega
  go_enter Tryd.func60, Tryd.ntmps60
  go_wp2
  all_goals
    go_ret
    exact ⟨by first | rfl | simp [*], (Kp.refl _ w).alloc _⟩

set_option maxRecDepth 100000 in
set_option maxHeartbeats 1000000 in
theorem fitsk_nil (n : Int) (s : ByteArray) (a a2 a3 : Option Addr) (l c l2 d l3 e : Nat) (w : World) :
    Calls Tryd.prog 60 #[.agg #[.int .i64 6, .int .i64 n, .string s, .slice a l c, .slice a2 l2 d, .slice a3 l3 e]] w fun e w' => e = .returned (.bool (decide (n = 0) && decide (s.toList = []) && decide (l = 0) && decide (l2 = 0) && ((l3 : Int) == 0))) ∧ Kp (fun _ => False) w w' := by
  go_enter Tryd.func60, Tryd.ntmps60
  go_wp2
  all_goals
    go_ret
    exact ⟨by first | rfl | simp [*], (Kp.refl _ w).alloc _⟩

set_option maxRecDepth 100000 in
set_option maxHeartbeats 1000000 in
theorem fitsk_tuple (n : Int) (s : ByteArray) (a a2 a3 : Option Addr) (l c l2 d l3 e : Nat) (w : World) :
    Calls Tryd.prog 60 #[.agg #[.int .i64 5, .int .i64 n, .string s, .slice a l c, .slice a2 l2 d, .slice a3 l3 e]] w fun e w' => e = .returned (.bool (decide (n = 0) && decide (s.toList = []) && decide (l2 = 0) && ((l3 : Int) == 0))) ∧ Kp (fun _ => False) w w' := by
  go_enter Tryd.func60, Tryd.ntmps60
  go_wp2
  all_goals
    go_ret
    exact ⟨by first | rfl | simp [*], (Kp.refl _ w).alloc _⟩

set_option maxRecDepth 100000 in
set_option maxHeartbeats 1000000 in
theorem fitsk_bin (n : Int) (s : ByteArray) (a a2 a3 : Option Addr) (l c l2 d l3 e : Nat) (w : World) :
    Calls Tryd.prog 60 #[.agg #[.int .i64 8, .int .i64 n, .string s, .slice a l c, .slice a2 l2 d, .slice a3 l3 e]] w fun e w' => e = .returned (.bool (decide (n = 0) && decide (s.toList = []) && decide (l = 0) && decide (l2 = 0))) ∧ Kp (fun _ => False) w w' := by
  go_enter Tryd.func60, Tryd.ntmps60
  go_wp2
  all_goals
    go_ret
    exact ⟨by first | rfl | simp [*], (Kp.refl _ w).alloc _⟩

set_option maxRecDepth 100000 in
set_option maxHeartbeats 1000000 in
theorem fitsk_atom (n : Int) (s : ByteArray) (a a2 a3 : Option Addr) (l c l2 d l3 e : Nat) (w : World) (h0 : 1 ≤ s.size) (h1 : s.size ≤ 255) :
    Calls Tryd.prog 60 #[.agg #[.int .i64 2, .int .i64 n, .string s, .slice a l c, .slice a2 l2 d, .slice a3 l3 e]] w fun e w' => e = .returned (.bool (decide (n = 0) && decide (l = 0) && decide (l2 = 0) && ((l3 : Int) == 0))) ∧ Kp (fun _ => False) w w' := by
  have h2 : ((s.size : Int) == 0) = false := by rw [beq_eq_false_iff_ne]; omega
  have h3 : ¬ (255 : Int) < s.size := by omega
  go_enter Tryd.func60, Tryd.ntmps60
  go_wp2
  all_goals
    go_ret
    exact ⟨by first | rfl | simp [*], (Kp.refl _ w).alloc _⟩

set_option maxRecDepth 100000 in
set_option maxHeartbeats 1000000 in
theorem fitsk_atom_none (n : Int) (s : ByteArray) (a a2 a3 : Option Addr) (l c l2 d l3 e : Nat) (w : World) (h0 : s.size = 0) :
    Calls Tryd.prog 60 #[.agg #[.int .i64 2, .int .i64 n, .string s, .slice a l c, .slice a2 l2 d, .slice a3 l3 e]] w fun e w' => e = .returned (.bool (false)) ∧ Kp (fun _ => False) w w' := by
  have h2 : ((s.size : Int) == 0) = true := by rw [h0]; rfl
  clear h0
  go_enter Tryd.func60, Tryd.ntmps60
  go_wp2
  all_goals
    go_ret
    exact ⟨by first | rfl | simp [*], (Kp.refl _ w).alloc _⟩

set_option maxRecDepth 100000 in
set_option maxHeartbeats 1000000 in
theorem fitsk_atom_long (n : Int) (s : ByteArray) (a a2 a3 : Option Addr) (l c l2 d l3 e : Nat) (w : World) (h0 : 255 < s.size) (hm : s.size ≤ maxLen) :
    Calls Tryd.prog 60 #[.agg #[.int .i64 2, .int .i64 n, .string s, .slice a l c, .slice a2 l2 d, .slice a3 l3 e]] w fun e w' => e = .returned (.bool (false)) ∧ Kp (fun _ => False) w w' := by
  unfold maxLen at hm
  have h2 : ((s.size : Int) == 0) = false := by rw [beq_eq_false_iff_ne]; omega
  have h3 : (255 : Int) < s.size := by omega
  go_enter Tryd.func60, Tryd.ntmps60
  go_wp2
  all_goals
    go_ret
    exact ⟨by first | rfl | simp [*], (Kp.refl _ w).alloc _⟩

set_option maxRecDepth 100000 in
set_option maxHeartbeats 1000000 in
theorem fitsk_other (n : Int) (s : ByteArray) (a a2 a3 : Option Addr) (l c l2 d l3 e : Nat) (w : World) (k : Int) (h1 : k ≠ 1) (h2 : k ≠ 2) (h3 : k ≠ 3) (h4 : k ≠ 4) (h5 : k ≠ 5) (h6 : k ≠ 6) (h7 : k ≠ 7) (h8 : k ≠ 8) :
    Calls Tryd.prog 60 #[.agg #[.int .i64 k, .int .i64 n, .string s, .slice a l c, .slice a2 l2 d, .slice a3 l3 e]] w fun e w' => e = .returned (.bool (false)) ∧ Kp (fun _ => False) w w' := by
  have b1 : (k == 1) = false := by simpa using h1
  have b2 : (k == 2) = false := by simpa using h2
  have b3 : (k == 3) = false := by simpa using h3
  have b4 : (k == 4) = false := by simpa using h4
  have b5 : (k == 5) = false := by simpa using h5
  have b6 : (k == 6) = false := by simpa using h6
  have b7 : (k == 7) = false := by simpa using h7
  have b8 : (k == 8) = false := by simpa using h8
  clear h1 h2 h3 h4 h5 h6 h7 h8
  go_enter Tryd.func60, Tryd.ntmps60
  go_wp2
  all_goals
    go_ret
    exact ⟨by first | rfl | simp [*], (Kp.refl _ w).alloc _⟩

theorem ends_none (a : Option Addr) (c : Nat) (w : World) : Calls Tryd.prog 68 #[.slice a 0 c] w fun e w' => e = .returned (.bool true) ∧ w = w' := by
  go_enter Tryd.func68, Tryd.ntmps68
  go_wp2
  go_ret
  exact ⟨rfl, rfl⟩
theorem ends_many (a : Option Addr) (l c : Nat) (w : World) (h : 2 ≤ l) : Calls Tryd.prog 68 #[.slice a l c] w fun e w' => e = .returned (.bool false) ∧ w = w' := by
  have h1 : ((l : Int) != 1) = true := by rw [bne_iff_ne]; omega
  have h2 : ((l : Int) == 0) = false := by rw [beq_eq_false_iff_ne]; omega
  go_enter Tryd.func68, Tryd.ntmps68
  go_wp2
  go_ret
  exact ⟨rfl, rfl⟩
theorem ends_one (b off c : Nat) (k : Int) (w : World) (h : w.cell? ⟨b, off, none⟩ = some (.int .i64 k)) : Calls Tryd.prog 68 #[.slice (some ⟨b, off, none⟩) 1 c] w fun e w' => e = .returned (.bool (decide (k ≠ 7) && decide (k ≠ 6))) ∧ w = w' := by
  by_cases h7 : k = 7
  · have hb : (k != 7) = false := by simpa using h7
    subst h7
    go_enter Tryd.func68, Tryd.ntmps68
    go_wp2
    go_ret
    exact ⟨rfl, rfl⟩
  · have hb : (k != 7) = true := by simpa using h7
    by_cases h6 : k = 6
    · subst h6
      go_enter Tryd.func68, Tryd.ntmps68
      go_wp2
      go_ret
      exact ⟨rfl, rfl⟩
    · have hc : (k != 6) = true := by simpa using h6
      have e7 : decide (k ≠ 7) = true := by simpa using h7
      have e6 : decide (k ≠ 6) = true := by simpa using h6
      have He := Lib.hid (And.intro e7 e6)
      clear h7 h6 e7 e6
      go_enter Tryd.func68, Tryd.ntmps68
      go_wp2
      go_ret
      exact ⟨by rw [He.out.1, He.out.2]; rfl, rfl⟩

set_option maxRecDepth 100000 in
set_option maxHeartbeats 1000000 in
theorem fitsk_list (n : Int) (s : ByteArray) (a a2 a3 : Option Addr) (l c l2 d l3 e : Nat) (w : World) (E : Bool)
    (hE : ∀ w', Kp (fun _ => False) w w' → Calls Tryd.prog 68 #[.slice a2 l2 d] w' fun e w'' => e = .returned (.bool E) ∧ w' = w'') :
    Calls Tryd.prog 60 #[.agg #[.int .i64 7, .int .i64 n, .string s, .slice a l c, .slice a2 l2 d, .slice a3 l3 e]] w fun e w' => e = .returned (.bool (!((l : Int) == 0) && E && decide (n = 0) && decide (s.toList = []) && ((l3 : Int) == 0))) ∧ Kp (fun _ => False) w w' := by
  have HE := Lib.hid hE
  clear hE
  by_cases hl : l = 0
  · subst hl
    go_enter Tryd.func60, Tryd.ntmps60
    go_wp2
    all_goals
      go_ret
      exact ⟨by first | rfl | simp [*], (Kp.refl _ w).alloc _⟩
  · have hb : ((l : Int) == 0) = false := by rw [beq_eq_false_iff_ne]; omega
    clear hl
    cases E
    · go_enter Tryd.func60, Tryd.ntmps60
      go_wp2_with (go_at_call 68; refine (HE.out _ ((Kp.refl _ w).alloc _)).mono ?_; rintro e w' ⟨rfl, rfl⟩)
      all_goals
        go_ret
        exact ⟨by first | rfl | simp [*], (Kp.refl _ w).alloc _⟩
    · go_enter Tryd.func60, Tryd.ntmps60
      go_wp2_with (go_at_call 68; refine (HE.out _ ((Kp.refl _ w).alloc _)).mono ?_; rintro e w' ⟨rfl, rfl⟩)
      all_goals
        go_ret
        exact ⟨by first | rfl | simp [*], (Kp.refl _ w).alloc _⟩

theorem endsB_any {F : Nat → Prop} {w : World} {h : Nat} {l : List Tm} {a : Option Addr} {n c : Nat} (hl : ListAt F w (TermAt F w h) l (.slice a n c)) :
    ∀ w', Kp (fun _ => False) w w' → Calls Tryd.prog 68 #[.slice a n c] w' fun e w'' => e = .returned (.bool (endsB l)) ∧ w' = w'' := by
  obtain ⟨po, cap, e, h2, h3, h4⟩ := hl
  injection e with e1 e2 e3
  subst e1
  subst e2
  subst e3
  intro w' hk
  match l, h4 with
  | [], _ => exact ends_none _ _ _
  | [t], h4 =>
    obtain ⟨b, off, c0, c1, c2, c3, c4, c5, rfl, hb, d0, _, _, _, _, _, ht⟩ := h4 0 t rfl
    cases h with
    | zero => exact ht.elim
    | succ h =>
      obtain ⟨k, n, s, it, re, bys⟩ := t
      obtain ⟨vi, vr, vb, e, _⟩ := ht
      injection e with e _
      subst e
      rw [Nat.zero_mul, Nat.add_zero] at d0
      exact ends_one b off _ k w' (cells_kp hk (F := F) (fun _ _ e => e) _ _ _ hb d0)
  | _ :: _ :: r, _ => exact ends_many _ _ _ _ (by simp)
/-- fits, of any term -/
theorem fits_any {F : Nat → Prop} {w : World} {h : Nat} {T : Tm} {cs : List Value} (hT : TermAt F w h T cs) :
    Calls Tryd.prog 60 #[.agg cs.toArray] w fun e w' => e = .returned (.bool (fitsB T)) ∧ Kp (fun _ => False) w w' := by
  cases h with
  | zero => exact hT.elim
  | succ h =>
    obtain ⟨k, n, s, it, re, bys⟩ := T
    obtain ⟨vi, vr, vb, rfl, ⟨b1, b2, b3, b4, hs⟩, ⟨a, c, rfl, _⟩, hre, ⟨a3, e, rfl, _⟩⟩ := hT
    obtain ⟨a2, l2, d, rfl⟩ := hre.form
    have hE := endsB_any hre
    obtain ⟨_, _, e2, _⟩ := hre
    injection e2 with _ e2 _
    subst e2
    have fin : ∀ B, fitsB (.mk k n s it re bys) = B → (Calls Tryd.prog 60 #[.agg #[.int .i64 k, .int .i64 n, .string s, .slice a it.length c, .slice a2 re.length d, .slice a3 bys.length e]] w fun e w' => e = .returned (.bool B) ∧ Kp (fun _ => False) w w') →
        Calls Tryd.prog 60 #[.agg [Value.int .i64 k, .int .i64 n, .string s, .slice a it.length c, .slice a2 re.length d, .slice a3 bys.length e].toArray] w fun e w' => e = .returned (.bool (fitsB (.mk k n s it re bys))) ∧ Kp (fun _ => False) w w' :=
      fun B hB h => h.mono fun e w' ⟨he, hk⟩ => ⟨he.trans (by rw [hB]), hk⟩
    by_cases h1 : k = 1
    · exact fin _ (by show fitsK k n s it re bys = _; unfold fitsK; rw [if_pos h1]) (by subst h1; exact fitsk_int _ _ _ _ _ _ _ _ _ _ _ _)
    by_cases h2 : k = 2
    · have e0 : fitsB (.mk k n s it re bys) = if 1 ≤ s.size ∧ s.size ≤ 255 then decide (n = 0) && decide (it.length = 0) && decide (re.length = 0) && ((bys.length : Int) == 0) else false := by
        show fitsK k n s it re bys = _; unfold fitsK; rw [if_neg h1, if_pos h2]
      by_cases hz : s.size = 0
      · exact fin _ (by rw [e0, if_neg (by omega)]) (by subst h2; exact fitsk_atom_none _ _ _ _ _ _ _ _ _ _ _ _ hz)
      · by_cases hl : 255 < s.size
        · exact fin _ (by rw [e0, if_neg (by omega)]) (by subst h2; exact fitsk_atom_long _ _ _ _ _ _ _ _ _ _ _ _ hl hs)
        · exact fin _ (by rw [e0, if_pos (by omega)]) (by subst h2; exact fitsk_atom _ _ _ _ _ _ _ _ _ _ _ _ (by omega) (by omega))
    by_cases h34 : k = 3 ∨ k = 4
    · have e0 : fitsB (.mk k n s it re bys) = if 0 ≤ n ∧ n ≤ 1152921504606846975 then decide (s.toList = []) && decide (it.length = 0) && decide (re.length = 0) && ((bys.length : Int) == 0) else false := by
        show fitsK k n s it re bys = _; unfold fitsK; rw [if_neg h1, if_neg h2, if_pos h34]
      by_cases hz : n < 0
      · refine fin _ (by rw [e0, if_neg (by omega)]) ?_
        rcases h34 with rfl | rfl
        · exact fitsk_ref_low _ _ _ _ _ _ _ _ _ _ _ _ hz
        · exact fitsk_pid_low _ _ _ _ _ _ _ _ _ _ _ _ hz
      · by_cases hl : 1152921504606846975 < n
        · refine fin _ (by rw [e0, if_neg (by omega)]) ?_
          rcases h34 with rfl | rfl
          · exact fitsk_ref_high _ _ _ _ _ _ _ _ _ _ _ _ hl
          · exact fitsk_pid_high _ _ _ _ _ _ _ _ _ _ _ _ hl
        · refine fin _ (by rw [e0, if_pos (by omega)]) ?_
          rcases h34 with rfl | rfl
          · exact fitsk_ref _ _ _ _ _ _ _ _ _ _ _ _ (by omega) (by omega)
          · exact fitsk_pid _ _ _ _ _ _ _ _ _ _ _ _ (by omega) (by omega)
    by_cases h5 : k = 5
    · exact fin _ (by show fitsK k n s it re bys = _; unfold fitsK; rw [if_neg h1, if_neg h2, if_neg h34, if_pos h5]) (by subst h5; exact fitsk_tuple _ _ _ _ _ _ _ _ _ _ _ _)
    by_cases h6 : k = 6
    · exact fin _ (by show fitsK k n s it re bys = _; unfold fitsK; rw [if_neg h1, if_neg h2, if_neg h34, if_neg h5, if_pos h6]) (by subst h6; exact fitsk_nil _ _ _ _ _ _ _ _ _ _ _ _)
    by_cases h7 : k = 7
    · exact fin _ (by show fitsK k n s it re bys = _; unfold fitsK; rw [if_neg h1, if_neg h2, if_neg h34, if_neg h5, if_neg h6, if_pos h7]) (by subst h7; exact fitsk_list _ _ _ _ _ _ _ _ _ _ _ _ _ hE)
    by_cases h8 : k = 8
    · exact fin _ (by show fitsK k n s it re bys = _; unfold fitsK; rw [if_neg h1, if_neg h2, if_neg h34, if_neg h5, if_neg h6, if_neg h7, if_pos h8]) (by subst h8; exact fitsk_bin _ _ _ _ _ _ _ _ _ _ _ _)
    · exact fin _ (by show fitsK k n s it re bys = _; unfold fitsK; rw [if_neg h1, if_neg h2, if_neg h34, if_neg h5, if_neg h6, if_neg h7, if_neg h8]) (fitsk_other _ _ _ _ _ _ _ _ _ _ _ _ _ h1 h2 (by omega) (by omega) h5 h6 h7 h8)
end Go.Proofs.YtpdepmkojbpklaaDoor
