/- any numbers: who is asked to end stops all that are up, from the last to the first, and then exits -/
import Derived.Test.YtbdogiblndlimaaRows
import Derived.Test.YtbdogiblndlimaaSuUse
import Derived.BigGuardPart
import Derived.WalkKit
import Derived.ProofKit
import Derived.OpenShut
import Derived.ShutString
import Derived.ChangeOld
import Derived.Below
import Derived.Deep.Strs
namespace Go.Proofs.Ytbdogiblndlimaa.supLeaves
open Go.ChangeShapes Go.WideShapes Go.ChangeAt Go.RowKit
open Go.ChangeMaps (open_string shut_string)
set_option linter.unusedVariables false

theorem own : ownKnob Try.prog.godebug = none := by kernel_rfl
theorem laidOut : laidOutB Try.prog = true := by kernel_rfl

def kc : Ch := (opF, 0, 5)
def lvK (k n : Nat) : List Kd := (List.range k).map fun j => ⟨0, 5, decide (j < n)⟩
def stN (k : Nat) (sg : Int) (n si : Nat) : Su := ⟨sg, lvK k n, 0, 1, [], 2, 0, k, 2, n - 1, si, false⟩
theorem lvK_len (k n : Nat) : (lvK k n).length = k := by simp [lvK]
theorem lvK_get {k n j : Nat} (h : j < k) : (lvK k n)[j]? = some ⟨0, 5, decide (j < n)⟩ := by simp [lvK, h]
theorem lvK_up (k n j : Nat) (h : n ≤ k) : upAt (lvK k n) j = decide (j < n) := by
  rcases Nat.lt_or_ge j k with h1 | h1
  · rw [upAt_of (lvK_get h1)]
  · rw [upAt_out (by rw [lvK_len]; exact h1), decide_eq_false (by omega)]
theorem lvK_t {k n j : Nat} (h : j < k) : tAt (lvK k n) j = 5 := tAt_of (lvK_get h)
theorem lvK_down {k n : Nat} (h : n < k) : setU (lvK k (n + 1)) n false = lvK k n := by
  apply List.ext_getElem?
  intro j
  rw [setU_get]
  rcases Nat.lt_or_ge j k with h1 | h1
  · rw [lvK_get h1, lvK_get h1]
    by_cases e : n = j
    · subst e; simp
    · have : j < n + 1 ↔ j < n := by omega
      simp [e, this]
  · rw [List.getElem?_eq_none (by rw [lvK_len]; exact h1), List.getElem?_eq_none (by rw [lvK_len]; exact h1)]; rfl
theorem lvK_last {k n : Nat} (h : n ≤ k) : ∀ m, n ≤ m → m ≤ k → lastUp (lvK k n) 0 m = if n = 0 then none else some (n - 1)
  | 0, h1, _ => by
    obtain rfl : n = 0 := by omega
    rfl
  | m + 1, h1, h2 => by
    rw [lastUp, if_neg (by omega), lvK_up k n m h]
    by_cases e : m < n
    · obtain rfl : n = m + 1 := by omega
      rw [decide_eq_true e, if_pos rfl, if_neg (by omega)]; rfl
    · rw [decide_eq_false e]
      exact lvK_last h m (by omega) (by omega)
theorem lvK_ups (k n : Nat) (h : n ≤ k) : (upsI (lvK k n) (lvK k n).length).length = n := by
  have key : ∀ m, m ≤ k → (upsI (lvK k n) m).length = min m n := by
    intro m
    induction m with
    | zero => intro _; rfl
    | succ m ih =>
      intro hm
      rw [upsI_succ, List.length_append, ih (by omega), lvK_up k n m h]
      by_cases e : m < n
      · simp [e]; omega
      · simp [e]; omega
  rw [lvK_len, key k (Nat.le_refl _)]
  omega
theorem new_lv (k : Nat) (sg : Int) : newS ⟨sg, 0, 1⟩ (List.replicate k kc) = ⟨sg, lvK k 0, 0, 1, [], 0, 0, 0, 0, 0, 0, false⟩ := by
  have : (List.replicate k kc).map kidOf = lvK k 0 := by
    apply List.ext_getElem?
    intro j
    rcases Nat.lt_or_ge j k with h1 | h1
    · rw [lvK_get h1, List.getElem?_map, List.getElem?_replicate, if_pos h1]; rfl
    · rw [List.getElem?_eq_none (by simp; exact h1), List.getElem?_eq_none (by rw [lvK_len]; exact h1)]
  unfold newS
  rw [this]; rfl
theorem begin_lv (k : Nat) (sg : Int) : beginS ⟨sg, lvK k 0, 0, 1, [], 0, 0, 0, 0, 0, 0, false⟩ = ⟨sg, lvK k k, 0, 1, [], 1, 0, 0, 0, 0, 0, false⟩ := by
  have : upTo (lvK k 0) (lvK k 0).length = lvK k k := by
    apply List.ext_getElem?
    intro j
    unfold upTo
    rw [lift_get, lvK_len]
    rcases Nat.lt_or_ge j k with h1 | h1
    · rw [lvK_get h1, lvK_get h1]; simp [h1]
    · rw [List.getElem?_eq_none (by rw [lvK_len]; exact h1), List.getElem?_eq_none (by rw [lvK_len]; exact h1)]; rfl
  unfold beginS
  rw [if_pos rfl]
  simp only [this]
theorem turn_lv {k n : Nat} (sg : Int) (now st hl si : Nat) (kd : Bool) (h : n + 1 ≤ k) : turnS ⟨sg, lvK k (n + 1), 0, 1, [], st, 0, k, 2, hl, si, kd⟩ now = stN k sg (n + 1) now ∧ turnA ⟨sg, lvK k (n + 1), 0, 1, [], st, 0, k, 2, hl, si, kd⟩ = [(2, (n : Int))] := by
  have hl := lvK_last h k (by omega) (Nat.le_refl _)
  rw [if_neg (by omega), Nat.add_sub_cancel] at hl
  have ht : tAt (lvK k (n + 1)) n = 5 := lvK_t (by omega)
  unfold turnS turnA
  simp only [hl]
  unfold haltS haltA
  simp only [ht]
  exact ⟨rfl, rfl⟩
theorem turn_lv0 {k : Nat} (sg : Int) (now st hl si : Nat) (kd : Bool) : turnS ⟨sg, lvK k 0, 0, 1, [], st, 0, k, 2, hl, si, kd⟩ now = ⟨sg, lvK k 0, 0, 1, [], 3, 0, k, 2, hl, si, kd⟩ ∧ turnA ⟨sg, lvK k 0, 0, 1, [], st, 0, k, 2, hl, si, kd⟩ = [(4, 0)] := by
  have hl := lvK_last (k := k) (n := 0) (by omega) k (by omega) (Nat.le_refl _)
  rw [if_pos rfl] at hl
  unfold turnS turnA
  simp only [hl]
  exact ⟨rfl, rfl⟩
theorem stop_lv (k n si now : Nat) (sg : Int) : stopS (stN k sg n si) now = stN k sg n si ∧ stopA (stN k sg n si) = [] := by
  refine ⟨?_, rfl⟩
  show endS (stN k sg n si) = _
  unfold endS stN
  simp only [lvK_len]
theorem down_lv {k n : Nat} (sg : Int) (si now : Nat) (h : n + 2 ≤ k) : downS (stN k sg (n + 2) si) (n + 1) false now = stN k sg (n + 1) now ∧ downA (stN k sg (n + 2) si) (n + 1) false now = [(2, (n : Int))] := by
  have e : downOf (stN k sg (n + 2) si) (n + 1) = ⟨sg, lvK k (n + 1), 0, 1, [], 2, 0, k, 2, n + 1, si, false⟩ := by
    unfold downOf stN
    simp only [lvK_down (show n + 1 < k by omega)]
    rfl
  have h1 : downS (stN k sg (n + 2) si) (n + 1) false now = turnS (downOf (stN k sg (n + 2) si) (n + 1)) now := by
    unfold downS
    rw [if_neg (by show ¬ (2 = 1); omega), if_pos ⟨rfl, rfl⟩]
  have h2 : downA (stN k sg (n + 2) si) (n + 1) false now = turnA (downOf (stN k sg (n + 2) si) (n + 1)) := by
    unfold downA
    rw [if_neg (by show ¬ (2 = 1); omega), if_pos ⟨rfl, rfl⟩]
  rw [h1, h2, e]
  exact turn_lv sg now 2 (n + 1) si false (by omega)
theorem down_lv0 {k : Nat} (sg : Int) (si now : Nat) (h : 1 ≤ k) : downS (stN k sg 1 si) 0 false now = ⟨sg, lvK k 0, 0, 1, [], 3, 0, k, 2, 0, si, false⟩ ∧ downA (stN k sg 1 si) 0 false now = [(4, 0)] := by
  have e : downOf (stN k sg 1 si) 0 = ⟨sg, lvK k 0, 0, 1, [], 2, 0, k, 2, 0, si, false⟩ := by
    unfold downOf stN
    simp only [lvK_down (show 0 < k by omega)]
  have h1 : downS (stN k sg 1 si) 0 false now = turnS (downOf (stN k sg 1 si) 0) now := by
    unfold downS
    rw [if_neg (by show ¬ (2 = 1); omega), if_pos ⟨rfl, rfl⟩]
  have h2 : downA (stN k sg 1 si) 0 false now = turnA (downOf (stN k sg 1 si) 0) := by
    unfold downA
    rw [if_neg (by show ¬ (2 = 1); omega), if_pos ⟨rfl, rfl⟩]
  rw [h1, h2, e]
  exact turn_lv0 sg now 2 0 si false
/-- so many are up still -/
def LvS (w wr : World) (b k : Nat) (sg : Int) (vl : Value) : Nat → Prop
  | 0 => ∃ si, SS w (fun q => vl.ownBlock = some q) wr b ⟨sg, lvK k 0, 0, 1, [], 3, 0, k, 2, 0, si, false⟩ ∧ AcW wr vl [(4, 0)]
  | j + 1 => ∃ si, SS w (fun q => vl.ownBlock = some q) wr b (stN k sg (j + 1) si) ∧ SuOk (stN k sg (j + 1) si) 4 ∧ AcW wr vl [(2, (j : Int))]
set_option maxHeartbeats 8000000 in
set_option maxRecDepth 100000 in
theorem walk (a0 a1 : Int) (w : World) (w1 : (Lit.int .i64 a0).wf = true) (w2 : (Lit.int .i64 a1).wf = true) :
    Calls Try.prog 4 #[.int .i64 a0, .int .i64 a1] w fun e w' => e = .returned (.bool true) ∧ Below w.heap.size w w' := by
  obtain ⟨b1, b2⟩ := bounds_i64 w1
  obtain ⟨b3, b4⟩ := bounds_i64 w2
  clear w1 w2
  obtain ⟨k0, hk0, hk1⟩ : ∃ K : Nat, a0 % 12 = K ∧ K < 12 := ⟨(a0 % 12).toNat, by omega, by omega⟩
  obtain ⟨sg, hsg, hs1, hs2⟩ : ∃ x : Int, 1 + a1 % 3 = x ∧ 1 ≤ x ∧ x ≤ 3 := ⟨_, rfl, by omega, by omega⟩
  have HP0 := Lib.hid (fun w => place_any w a0 12 b1 b2 (by omega) (by omega))
  have HP1 := Lib.hid (fun w => place_any w a1 3 b3 b4 (by omega) (by omega))
  rw [hk0] at HP0
  obtain ⟨x, hx, hx1, hx2⟩ : ∃ x : Int, a1 % 3 = x ∧ 0 ≤ x ∧ x < 3 := ⟨_, rfl, by omega, by omega⟩
  rw [hx] at HP1 hsg
  obtain rfl : x = sg - 1 := by omega
  clear b1 b2 b3 b4 hsg hx hk0
  obtain ⟨k, hk⟩ : ∃ k, k = k0 + 1 := ⟨_, rfl⟩
  obtain rfl : k0 = k - 1 := by omega
  have hkc : 1 + ((k - 1 : Nat) : Int) = (k : Int) := by omega
  have hk12 : 1 ≤ k ∧ k ≤ 12 := by omega
  obtain ⟨hka, hkb⟩ := hk12
  have hsc : 1 + (sg - 1) = sg := by omega
  have hsp0 : SpB w (w.alloc (.cells #[.int .i64 sg, .int .i64 0, .int .i64 1, .slice none 0 0] 33)) w.heap.size ⟨sg, 0, 1⟩ (.slice none 0 0) (List.replicate 0 kc) :=
    ⟨heap_alloc_new w _, ownsS_nil _ _ _, Nat.le_refl _, (fun g hg => by cases hg), (Kp.refl _ w).alloc _⟩
  have HS0 := Lib.hid hsp0
  have HKC := Lib.hid hkc
  have HSC := Lib.hid hsc
  clear hsp0 hkc hsc hk hk1 hx1 hx2
  go_enter Try.func4, Try.ntmps4
  go_wp2_with fail
  refine (HP0.out _).mono ?_
  rintro e w' ⟨rfl, rfl⟩
  clear HP0
  go_wp2_with fail
  refine (HP1.out _).mono ?_
  rintro e w' ⟨rfl, rfl⟩
  clear HP1
  go_wp2_with fail
  simp only [HSC.out, HKC.out]
  go_loopg [7] k (fun gk s7 wr => ∃ (i : Nat), i ≤ k ∧ gk = k - i ∧ s7 = .int .i64 (i : Nat) ∧ Hid (∃ v, SpB w wr w.heap.size ⟨sg, 0, 1⟩ v (List.replicate i kc)))
  case atStart => exact ⟨0, by omega, rfl, rfl, Lib.hid ⟨_, HS0.out⟩⟩
  case round =>
    obtain ⟨i, hi, rfl, rfl, HR⟩ := hrel
    clear HS0
    obtain ⟨v, hR⟩ := HR.out
    clear HR
    by_cases hlt : i < k
    · have hii : (i : Int) < k := by omega
      have hwd : Kp (fun _ => False) wr wr.drew := (Kp.refl _ wr).drew
      obtain ⟨po, cap, hv, -, -⟩ := ownsS_form hR.row
      rw [List.length_replicate] at hv
      subst hv
      have c3 : wr.cell? ⟨w.heap.size, 3, none⟩ = some (.slice po i cap) := by rw [cell_of_row _ _ 3 _ _ _ hR.main]; rfl
      have hBl : w.heap.size < wr.heap.size := (Array.getElem?_eq_some_iff.1 hR.main).1
      have HP := Lib.hid (hR.push kc (by rw [List.length_replicate]; omega) (hwd.alloc (.cells #[.string opF, .int .i64 0, .int .i64 5] 29)))
      clear hwd hR
      obtain ⟨v', w3, hr, d3, df, hN⟩ := HP.out
      have hz1 : (wr.drew.alloc (.cells #[.string opF, .int .i64 0, .int .i64 5] 29)).heap.size = wr.heap.size + 1 := by
        rw [World.size_alloc]; rfl
      rw [hz1] at hr
      clear hz1
      obtain ⟨po2, cap2, hv, -, -⟩ := ownsS_form hN.row
      rw [List.length_append, List.length_replicate] at hv
      have hlen1 : i + [kc].length = i + 1 := rfl
      rw [hlen1] at hv
      subst hv
      rw [← List.replicate_succ'] at hN
      have HR3 := Lib.hid hr
      have HN := Lib.hid hN
      clear hr hN HP hlen1
      go_wp2_with fail
      go_region_law (first
        | (refine su_step_fn (by rfl) 12 #[.const (.int .i64 0)] #[3] (by rfl) cf_child #[.int .i64 0] (by first | (simp [Act.eval]; done) | simp [Act.eval, Act.put]) ?_; refine (child_any 0 _).mono ?_; rintro e w5 ⟨rfl, rfl⟩; refine ⟨_, rfl, ?_⟩; unfold opF)
        | (refine step_run (by rfl) (.tmp 25) (.tmp 27) 31 (by rfl) (.slice po i cap) (.slice (some ⟨wr.heap.size + 1, 0, none⟩) 1 1) (by first | (simp [Act.eval]; done) | simp [Act.eval, Act.put]) (by first | (simp [Act.eval]; done) | simp [Act.eval, Act.put]) _ _ HR3.out ?_))
      all_goals
        go_wp2_with fail
        go_roundg (k - (i + 1))
        case measure => omega
        case rel => exact ⟨i + 1, by omega, rfl, by go_num, Lib.hid ⟨_, HN.out⟩⟩
    · obtain rfl : i = k := by omega
      have hm := hR.main
      have c0 : wr.cell? ⟨w.heap.size, 0, none⟩ = some (.int .i64 sg) := cell_of_row _ _ 0 _ _ _ hm
      have c1 : wr.cell? ⟨w.heap.size, 1, none⟩ = some (.int .i64 0) := cell_of_row _ _ 1 _ _ _ hm
      have c2 : wr.cell? ⟨w.heap.size, 2, none⟩ = some (.int .i64 1) := cell_of_row _ _ 2 _ _ _ hm
      have c3 : wr.cell? ⟨w.heap.size, 3, none⟩ = some v := cell_of_row _ _ 3 _ _ _ hm
      have hrow : ChR wr v (List.replicate i kc) := ChR.of hR.row (by
        intro c hc
        obtain rfl := (List.mem_replicate.1 hc).2
        unfold ChOk maxLen kc; decide)
      have hri : rightL ⟨sg, 0, 1⟩ (List.replicate i kc) = [] := rightL_nil (by
        rw [List.length_replicate]
        simp [spOk, sgOk, isInB]
        omega) (by
        intro c hc
        obtain rfl := (List.mem_replicate.1 hc).2
        decide)
      have HN := Lib.hid (ss_new (w0 := w) (C := noC) (s := ⟨sg, 0, 1⟩) hrow (by show (-9223372036854775808 : Int) ≤ 0 ∧ (0 : Int) ≤ 9223372036854775807; omega) (by show (-9223372036854775808 : Int) ≤ 1 ∧ (1 : Int) ≤ 9223372036854775807; omega) hri hR.kp (fun q e => e.elim))
      have HO0 := Lib.hid (newS_ok hri 0)
      rw [new_lv] at HN HO0
      unfold specV at HN
      obtain ⟨po, cap, hv, -, -⟩ := ownsS_form hR.row
      rw [List.length_replicate] at hv
      subst hv
      clear hR hm hrow hri
      go_wp2_with fail
      refine HN.out.mono ?_
      rintro e w3 ⟨b, rfl, hS, -⟩
      have HB := Lib.hid (ss_begin hS (by show (lvK i 0).length ≤ 32; rw [lvK_len]; omega))
      rw [begin_lv] at HB
      have HO1 := Lib.hid (HO0.out.begin)
      rw [begin_lv] at HO1
      clear hS HN HO0 c0 c1 c2 c3
      go_wp2_with fail
      refine HB.out.mono ?_
      rintro e w4 ⟨va, rfl, ha, hna, hS1, -⟩
      obtain ⟨pa, ca, rfl, -, -⟩ := ha.form
      obtain ⟨n, rfl⟩ : ∃ n, i = n + 1 := ⟨i - 1, by omega⟩
      have htl := turn_lv (k := n + 1) (n := n) sg 3 1 0 0 false (Nat.le_refl _)
      have es1 : stopS ⟨sg, lvK (n + 1) (n + 1), 0, 1, [], 1, 0, 0, 0, 0, 0, false⟩ 3 = stN (n + 1) sg (n + 1) 3 := by
        show turnS (endS _) 3 = _
        unfold endS
        simp only [lvK_len]
        exact htl.1
      have es2 : stopA ⟨sg, lvK (n + 1) (n + 1), 0, 1, [], 1, 0, 0, 0, 0, 0, false⟩ = [(2, (n : Int))] := by
        show turnA (endS _) = _
        unfold endS
        simp only [lvK_len]
        exact htl.2
      have HT := Lib.hid (ss_stop (hS1.sub (C' := noC) fun _ e => e.elim) (HO1.out.mono (Nat.zero_le 3)) (now := 3))
      rw [es1, es2] at HT
      have HO2 := Lib.hid ((HO1.out.mono (Nat.zero_le 3)).stop)
      rw [es1] at HO2
      clear hS1 HB ha hna HO1 es1 es2 htl
      go_wp2_with fail
      refine HT.out.mono ?_
      rintro e w5 ⟨vl, rfl, hl, hnl, hS2, -⟩
      obtain ⟨pl, cl, rfl, -, -⟩ := hl.form
      have hl1 : ([(2, (n : Int))] : Acts).length = 1 := rfl
      rw [hl1] at hl hS2
      rw [hl1]
      have HL0 : Hid (LvS w w5 b (n + 1) sg (.slice pl 1 cl) (n + 1)) := Lib.hid ⟨3, hS2.sub fun q hq => .inr hq, HO2.out.mono (by omega), hl⟩
      have HAW := Lib.hid suAwake_any
      clear hl hnl hS2 HT HO2 hl1
      go_wp2_with fail
      go_loopg [10, 11] (n + 1) (fun gk s10 s11 wr => ∃ (m : Nat) (x : Int) (vl : Value), m ≤ n + 1 ∧ gk = m ∧ s10 = vl ∧ s11 = .int .i64 x ∧ x = (m : Int) - 1 ∧ Hid (LvS w wr b (n + 1) sg vl m))
      case atStart => exact ⟨n + 1, _, _, by omega, rfl, rfl, rfl, by omega, HL0⟩
      case round =>
        obtain ⟨m, x, vl, hm, hg, hvl, rfl, hx, HR⟩ := hrel
        obtain rfl := hvl.symm
        obtain rfl := hg.symm
        clear HL0
        cases m with
        | zero =>
          obtain rfl : x = -1 := by omega
          obtain ⟨si, hS, hA⟩ := HR.out
          have HD := Lib.hid hS
          obtain ⟨pl, cl, rfl, -, -⟩ := hA.form
          have HSA := Lib.hid (sameActs_any (hA.same ((Kp.refl _ wr).alloc (.cells #[.int .i64 4, .int .i64 0] 40))) (one_lit wr 4 0) (by decide))
          have HS7 : Hid (∀ k, SS w noC ((wr.alloc (.cells #[.int .i64 4, .int .i64 0] 40)).drewN k) b ⟨sg, lvK (n + 1) 0, 0, 1, [], 3, 0, n + 1, 2, 0, si, false⟩) := Lib.hid fun k => (hS.same (su_kpN ((Kp.refl _ wr).alloc _) k)).sub fun _ e => e.elim
          clear hS hA HR hx
          go_wp2_with fail
          refine HSA.out.mono ?_
          rintro e w7 ⟨rfl, q, hk7⟩
          have hS7 : SS w noC w7 b ⟨sg, lvK (n + 1) 0, 0, 1, [], 3, 0, n + 1, 2, 0, si, false⟩ := by rw [hk7]; exact HS7.out q
          have HDn := Lib.hid (ss_done hS7)
          have HUp := Lib.hid (ss_up hS7 (by show (lvK _ _).length ≤ 32; rw [lvK_len]; omega))
          have HK := Lib.hid hS7.kp0
          clear hk7 HS7 HSA hS7 HD
          go_wp2_with fail
          refine HDn.out.mono ?_
          rintro e w8 ⟨rfl, rfl⟩
          clear HDn
          go_wp2_with fail
          refine HUp.out.mono ?_
          rintro e w9 ⟨vu, rfl, hu, -, hku⟩
          have hul := lvK_ups (n + 1) 0 (by omega)
          obtain ⟨pu, cu, hvu, -, -⟩ := ownsS_form hu
          rw [show (upsI (Su.cs ⟨sg, lvK (n + 1) 0, 0, 1, [], 3, 0, n + 1, 2, 0, si, false⟩) (Su.cs ⟨sg, lvK (n + 1) 0, 0, 1, [], 3, 0, n + 1, 2, 0, si, false⟩).length).length = 0 from hul] at hvu
          subst hvu
          have HK9 := Lib.hid (HK.out.trans' hku)
          clear hu hul hku HUp HK
          go_wp2_with fail
          refine (HAW.out _).mono ?_
          rintro e w10 ⟨rfl, hk10⟩
          have HG := Lib.hid ((HK9.out.trans' hk10).below w.heap.size (Nat.le_refl _) fun _ e => e.elim)
          clear hk10 HK9 HAW
          go_wp2_with fail
          go_ret
          exact ⟨rfl, HG.out⟩
        | succ j =>
          obtain rfl : x = (j : Int) := by omega
          obtain ⟨si, hS, hO, hA⟩ := HR.out
          obtain ⟨pl, cl, rfl, -, -⟩ := hA.form
          have hl1 : ([(2, (j : Int))] : Acts).length = 1 := rfl
          rw [hl1] at hA hS
          rw [hl1]
          have HSA := Lib.hid (sameActs_any (hA.same ((Kp.refl _ wr).alloc (.cells #[.int .i64 2, .int .i64 (j : Int)] 40))) (one_lit wr 2 (j : Int)) (by show 1 ≤ _; omega))
          have HS7 : Hid (∀ k, SS w noC ((wr.alloc (.cells #[.int .i64 2, .int .i64 (j : Int)] 40)).drewN k) b (stN (n + 1) sg (j + 1) si)) := Lib.hid fun k => (hS.same (su_kpN ((Kp.refl _ wr).alloc _) k)).sub fun _ e => e.elim
          have HO := Lib.hid hO
          clear hS hA HR hx hl1 hO
          go_wp2_with fail
          refine HSA.out.mono ?_
          rintro e w7 ⟨rfl, q, hk7⟩
          have hS7 : SS w noC w7 b (stN (n + 1) sg (j + 1) si) := by rw [hk7]; exact HS7.out q
          have HT := Lib.hid (ss_stop hS7 HO.out)
          rw [(stop_lv (n + 1) (j + 1) si 4 sg).1, (stop_lv (n + 1) (j + 1) si 4 sg).2] at HT
          clear hk7 HS7 HSA hS7
          go_wp2_with fail
          refine HT.out.mono ?_
          rintro e w8 ⟨vs, rfl, hs, -, hS8, -⟩
          obtain ⟨ps, cps, rfl, -, -⟩ := hs.form
          have hS8' := hS8.sub (C' := noC) fun _ e => e.elim
          have HUp := Lib.hid (ss_up hS8' (by show (lvK _ _).length ≤ 32; rw [lvK_len]; omega))
          have HS8 := Lib.hid hS8'
          clear hs hS8 hS8' HT
          go_wp2_with fail
          refine HUp.out.mono ?_
          rintro e w9 ⟨vu, rfl, hu, -, hku⟩
          have hul := lvK_ups (n + 1) (j + 1) (by omega)
          obtain ⟨pu, cu, hvu, -, -⟩ := ownsS_form hu
          rw [show (upsI (stN (n + 1) sg (j + 1) si).cs (stN (n + 1) sg (j + 1) si).cs.length).length = j + 1 from hul] at hvu
          subst hvu
          have hS9 := HS8.out.same hku
          have hup : upAt (stN (n + 1) sg (j + 1) si).cs j = true := by
            show upAt (lvK (n + 1) (j + 1)) j = true
            rw [lvK_up _ _ _ (by omega)]; simp
          have HD := Lib.hid (ss_down hS9 HO.out (by omega) hup false)
          have HOd := Lib.hid (HO.out.down (c := j) (by show j < (lvK _ _).length; rw [lvK_len]; omega) false)
          clear hu hul hku HUp HS8 hS9 hup HO
          have hj1 : ((j : Int) + 1 != (j : Int) + 1) = false := by simp
          go_wp2_with fail
          refine HD.out.mono ?_
          rintro e w10 ⟨vl, rfl, hl, -, hS10, -⟩
          have HF : Hid (LvS w w10 b (n + 1) sg vl j) := by
            refine Lib.hid ?_
            cases j with
            | zero =>
              rw [(down_lv0 sg si 4 (by omega)).2] at hl
              rw [(down_lv0 sg si 4 (by omega)).1] at hS10
              exact ⟨si, hS10.sub fun q hq => .inr hq, hl⟩
            | succ j =>
              rw [(down_lv sg si 4 (by omega)).2] at hl
              have := HOd.out
              rw [(down_lv sg si 4 (by omega)).1] at hS10 this
              exact ⟨4, hS10.sub fun q hq => .inr hq, this, hl⟩
          obtain ⟨pv, cv, rfl, -, -⟩ := hl.form
          clear hl hS10 HD HOd hj1
          go_wp2_with fail
          go_roundg j
          case measure => omega
          case rel => exact ⟨j, _, _, by omega, rfl, rfl, rfl, rfl, HF⟩

set_option maxRecDepth 100000 in
theorem lifted (os : Os) (started : os.Started) (H : Type) (enc : TypeId × Value → H) :
    ReturnsInHanded {} Try.checked os 4 .any (Rows.supLeavesSpec.pre6 enc Try.prog Try.f4 Rows.supLeavesRow.domain false) (Rows.supLeavesSpec.post enc Try.prog Try.f4 false true false false) := by
  refine returnsInHanded_of_change (C := Try.checked) own started (by kernel_rfl) Try.func4
    (ChangeSpec.witness6 (enc := enc) (C := Try.checked) false ⟨#[], #[.int .i64 0, .int .i64 0], []⟩ 8 (by kernel_rfl) (by kernel_rfl) (by kernel_rfl) (by kernel_rfl)) ?_
  intro W base args ds gs before hval0 hW hcnd _
  have hval : ∀ (j : Nat) t v, Try.f4.params[j]? = some t → args[j]? = some v → Value.okWide Try.prog W .any base t v := hval0
  have hW' := hW
  obtain ⟨p, q, hA0, hV, rfl, hfz, hnd⟩ := hW
  have hA : DataW.TrodAll enc Try.prog W 0 (fun _ => true) true Try.f4.params.toList args.toList ds p := hA0
  rw [Try.params4] at hA hval
  obtain ⟨v0, vs0, d0, ds0, p0, q0, hargs, rfl, rfl, h0, r0⟩ := trodAll_cons hA
  obtain ⟨v1, vs1, d1, ds1, p1, q1, rfl, rfl, rfl, h1, r1⟩ := trodAll_cons r0
  obtain ⟨rfl, rfl, rfl⟩ := trodAll_nil r1
  obtain rfl : args = #[v0, v1] := by cases args; simp_all
  obtain ⟨rfl, rfl⟩ := trodVars_none hV
  obtain ⟨a0, rfl, rfl, rfl, w0⟩ := open_int Try.underlying3 (hval 0 3 v0 rfl rfl) h0
  obtain ⟨a1, rfl, rfl, rfl, w1⟩ := open_int Try.underlying3 (hval 1 3 v1 rfl rfl) h1
  clear hA0 hval0
  simp only [List.append_nil] at hW'
  refine (walk a0 a1 W w0 w1).mono fun e W' ⟨he, bel⟩ => ?_
  subst he
  exact ⟨_, rfl, _, _, _, [], _, [], hW', trodAll_mk1 (shut_bool Try.underlying4 _), (trodAll_cons_mk (shut_int Try.underlying3 w0) (trodAll_cons_mk (shut_int Try.underlying3 w1) trodAll_mk0)), rfl, bel.frame _, fun h => by cases h⟩

theorem over : Rows.supLeavesRow.holds Try.pinned (OpenSpec.ofChange Rows.supLeavesSpec) :=
  OpenClaim.holds_of_wide 4 Try.f4 rfl rfl rfl rfl rfl rfl rfl ⟨rfl, rfl, rfl, rfl, rfl⟩ rfl rfl rfl rfl rfl (by kernel_rfl) Try.func4 (by kernel_rfl)
    (of_decide_eq_true (by kernel_rfl)) (by unfold Func.isWrapper; first | (rw [if_pos (by decide +kernel)]; kernel_rfl) | (rw [if_neg (by decide +kernel)]; exact ⟨rfl, rfl⟩))
    (fun os started H enc _ => lifted os started H enc)

theorem proved : Rows.SupLeavesSaid := over
#print axioms proved
end Go.Proofs.Ytbdogiblndlimaa.supLeaves
