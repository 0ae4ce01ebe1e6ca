/- CodeDeep: a literal as deep as a term may be, and deeper. -/
import Derived.Test.YtaeoohjgdkablaaDoorM33
import Derived.Test.YtaeoohjgdkablaaDoorM39
import Derived.Test.YtaeoohjgdkablaaDoorM42
/- CodeDeep: a literal as deep as a term may be, and deeper. -/
namespace Go.Proofs.YtaeoohjgdkablaaDoor
open Go.RowKit

set_option maxRecDepth 100000 in
set_option maxHeartbeats 4000000 in
theorem read_d {F : Nat → Prop} {w : World} {v : Value} {j : Nat} (h : BytesAt F w (encM (dM j)) v) (hl : (encM (dM j)).length ≤ 1000000000) (hj1 : 200 ≤ j) (hj2 : j ≤ 60000) (hg : Laid0 w) :
    Calls Tryd.prog 11 #[v] w fun e w' => ∃ x, e = .returned (.tuple #[.agg #[.string ⟨#[]⟩, .slice none 0 0, .slice none 0 0], x]) ∧ Chain w' x [Lk.fault readS 6, Lk.fault termS 200, Lk.kind 2] ∧ Kp (fun _ => False) w w' := by
  have hmf : ∀ (fn : Fn) (first cap : Array Value) (w : World), (Instr.makeFunc fn first cap).run Tryd.prog w = .ok (.func fn first cap) w := fun _ _ _ _ => rfl
  have h0 := bytes_any h
  obtain ⟨po, len, cap, rfl⟩ := h.form
  obtain ⟨w1, hw1⟩ : ∃ w1, ((w.alloc (.cells #[.string ⟨#[]⟩, .slice none 0 0, .slice none 0 0] 33)).alloc (.cells #[.nilIface] 35)).alloc (.cells #[.slice po len cap, .int .i64 0] 69) = w1 := ⟨_, rfl⟩
  have hk1 : Kp (fun _ => False) w w1 := by rw [← hw1]; exact (((Kp.refl _ w).alloc _).alloc _).alloc _
  have hr : RAt w1 (w.heap.size + 1 + 1) (.slice po len cap) (encM (dM j)) 0 := by
    refine ⟨?_, ?_, Nat.zero_le _⟩
    · rw [← hw1]
      have := heap_alloc_new ((w.alloc (.cells #[.string ⟨#[]⟩, .slice none 0 0, .slice none 0 0] 33)).alloc (.cells #[.nilIface] 35)) (.cells #[.slice po len cap, .int .i64 0] 69)
      simpa using this
    · exact (bytes_kp h0 hk1 (fun _ _ e => e)).imp (fun q e => by omega) (fun _ _ _ _ e => e)
  have hz : w1.heap.size = w.heap.size + 1 + 1 + 1 := by rw [← hw1]; simp
  have b0 : w1.heap[w.heap.size]? = some (.cells #[.string ⟨#[]⟩, .slice none 0 0, .slice none 0 0] 33 (0, 0)) := by
    rw [← hw1, Below.heap_alloc _ _ _ (by simp; omega), Below.heap_alloc _ _ _ (by simp)]; exact heap_alloc_new w _
  have b1 : w1.heap[w.heap.size + 1]? = some (.cells #[.nilIface] 35 (0, 0)) := by
    rw [← hw1, Below.heap_alloc _ _ _ (by simp)]
    have := heap_alloc_new (w.alloc (.cells #[.string ⟨#[]⟩, .slice none 0 0, .slice none 0 0] 33)) (.cells #[.nilIface] 35)
    simpa using this
  have H0 := Lib.hid (And.intro hr (And.intro hk1 (And.intro hz (And.intro b0 (And.intro b1 hg)))))
  have HW := Lib.hid hw1
  clear h h0 hr hw1 hk1 hz b0 b1 hg
  have HJ := Lib.hid (And.intro hj1 hj2)
  clear hj1 hj2
  go_enter_defers Tryd.func11, Tryd.ntmps11
  go_wp2_with fail
  rw [HW.out]
  refine (module_d H0.out.1 hl HJ.out.1 HJ.out.2).mono ?_
  rintro e w2 ⟨x, rfl, hch, hk2⟩
  obtain ⟨g, rfl⟩ : ∃ g, x = .iface 39 (.pointer (some ⟨g, 0, none⟩)) := by
    obtain ⟨g, _, e, _⟩ := chain_fault hch.out
    exact ⟨g, e⟩
  have hbA := (hk2.block _ (Array.getElem?_eq_some_iff.1 H0.out.2.2.2.1).1 (by omega)).trans H0.out.2.2.2.1
  have hbB := (hk2.block _ (Array.getElem?_eq_some_iff.1 H0.out.2.2.2.2.1).1 (by omega)).trans H0.out.2.2.2.2.1
  have hlt := World.block_lt_of_cell? _ _ H0.out.2.2.2.2.2
  have hg2 : Laid0 w2 := (hk2.cell (by have := H0.out.2.2.1; simp only at hlt ⊢; omega) (by simp only; omega)).trans ((H0.out.2.1.cell hlt (fun e => e)).trans H0.out.2.2.2.2.2)
  have H2 := Lib.hid (And.intro hch (And.intro hk2 (And.intro hbA (And.intro hbB hg2))))
  clear hch hk2 hbA hbB hg2 hlt
  go_wp2_with fail
  refine leaves_cons (f := 25) (args := #[.pointer (some ⟨w.heap.size, 0, none⟩), .pointer (some ⟨w.heap.size + 1, 0, none⟩)]) (by simp) (by simp [go_sem]) ?_
  refine (read_refuse w.heap.size (w.heap.size + 1) g w2 _ _ _ _ H2.out.2.2.2.2 (by omega) H2.out.2.2.1 H2.out.2.2.2.1).mono ?_
  rintro e u' w9 ⟨rfl, rfl, hrA, hrB, hk9⟩
  obtain ⟨i0, i1, i2, -⟩ := three_facts hrA
  have g0 : w9.cell? ⟨w.heap.size + 1, 0, none⟩ = some (.iface 39 (.pointer (some ⟨g, 0, none⟩))) := by rw [cell_of_row w9 _ 0 _ _ _ hrB]; rfl
  have hz := H0.out.2.2.1
  have hk09 : Kp (fun _ => False) w w9 := kp_new (kp_new H0.out.2.1 (H2.out.2.1.mono fun q _ e => .inr (by omega))) (hk9.mono fun q _ e => .inr (by omega))
  have HF := Lib.hid (And.intro (ChainB.kp hk9 (fun q e => by omega) H2.out.1).out hk09)
  clear hrA hrB hk9 hk09 H2 hz
  simp [Leaves, settle, results, Tryd.results11, go_sem, i0, i1, i2, g0]
  exact HF.out

def pairs : Nat → List UInt8
  | 0 => []
  | j + 1 => pairs j ++ [5, 1]
theorem pairs_comm : ∀ j, [5, 1] ++ pairs j = pairs j ++ [5, 1]
  | 0 => rfl
  | j + 1 => by rw [pairs, ← List.append_assoc, pairs_comm j]
theorem encT_dT : ∀ j, encT (dT j) = pairs j ++ [6]
  | 0 => by simp [dT, encT, pairs]
  | j + 1 => by
    have e1 : encNat 1 = [1] := encNat_small (by omega)
    have e : encT (dT (j + 1)) = [5, 1] ++ encT (dT j) := by simp [dT, encT, encTs, e1]
    rw [e, encT_dT j, ← List.append_assoc, pairs_comm, pairs]
theorem pairs_len : ∀ j, (pairs j).length = 2 * j
  | 0 => rfl
  | j + 1 => by simp [pairs, pairs_len j]; omega
def dpre (j : Nat) : List UInt8 := [84, 82, 80, 69, 0, 1] ++ pairs j
theorem dpre_len (j : Nat) : (dpre j).length = 6 + 2 * j := by simp [dpre, pairs_len]; omega
theorem encM_dM (j : Nat) : encM (dM j) = dpre j ++ [6, 0] := by
  have e0 : encNat 0 = [0] := encNat_small (by omega)
  have e1 : encNat 1 = [1] := encNat_small (by omega)
  simp [encM, dM, encB, encL, encTs, encFs, e0, e1, encT_dT, dpre]
theorem dM_ok {j : Nat} (hj : j < 200) : okM (dM j) := by
  refine ⟨fun T hT => ?_, fun f hf => by simp [dM] at hf⟩
  obtain rfl : T = dT j := by simpa [dM] using hT
  exact ⟨dT_tok j 200 hj, by rw [dT_size]; omega⟩
theorem buf_new {w : World} (l : List UInt8) (hl : l.length ≤ 1000000) : BufAt w.heap.size (w.alloc (.cells (bcells l).toArray 5)) (.slice (some ⟨w.heap.size, 0, none⟩) l.length l.length) l := by
  refine ⟨.inl ⟨by rw [bcells_len]; omega, .inr ⟨w.heap.size, _, _, rfl, Nat.le_refl _, heap_alloc_new w _, Nat.le_refl _, by unfold maxLen; omega, by simp [bcells_len], ?_⟩⟩, by simp⟩
  rw [Nat.mul_one]
  conv => lhs; rw [← bcells_len l]
  exact List.take_length
/-- two bytes are put behind -/
theorem app_two {B : Nat} {w : World} {v : Value} {l : List UInt8} (c d : UInt8) (h : BufAt B w v l) (hl : (l ++ [c, d]).length ≤ 70368744177664) :
    ∃ po n cp w', (Builtin.append_ #[23, 23] 23 #[v, .slice (some ⟨w.heap.size, 0, none⟩) 2 2]).run Tryd.prog (w.alloc (.cells #[.int .u8 c.toNat, .int .u8 d.toNat] 5)) = .ok (.slice po n cp) w' ∧ BufAt B w' (.slice po n cp) (l ++ [c, d]) ∧ Kb B w w' := by
  have hk : Kp (fun _ => False) w (w.alloc (.cells #[.int .u8 c.toNat, .int .u8 d.toNat] 5)) := (Kp.refl _ w).alloc _
  obtain ⟨p, n, cp, w', h1, h2, h3⟩ := app_bytes (F := fun _ => True) (h.kp hk) (m := [c, d]) (x := .slice (some ⟨w.heap.size, 0, none⟩) 2 2)
    ⟨_, 2, rfl, by simp, by simp, fun i x hx => by
      have hi := (List.getElem?_eq_some_iff.1 hx).1
      simp only [List.length_cons, List.length_nil] at hi
      refine ⟨w.heap.size, 0, rfl, trivial, ?_⟩
      obtain rfl | rfl : i = 0 ∨ i = 1 := by omega
      · obtain rfl : c = x := by simpa using hx
        rw [cell_of_row _ _ _ _ _ _ (heap_alloc_new w _)]; rfl
      · obtain rfl : d = x := by simpa using hx
        rw [cell_of_row _ _ _ _ _ _ (heap_alloc_new w _)]; rfl⟩ hl
  exact ⟨p, n, cp, w', h1, h2, (Kb.of hk).trans h3⟩

set_option maxRecDepth 100000 in
set_option maxHeartbeats 4000000 in
theorem deep_walk (n0 : Int) (w : World) (hn1 : -9223372036854775808 ≤ n0) (hn2 : n0 ≤ 9223372036854775807) (hg : Laid0 w) :
    Calls Tryd.prog 4 #[.int .i64 n0] w fun e w' => e = .returned (.bool true) ∧ Kp (fun _ => False) w w' := by
  have HG := Lib.hid hg
  have HI := Lib.hid (And.intro hn1 hn2)
  have hb0 := Lib.hid (buf_new (w := w) [84, 82, 80, 69, 0, 1] (by simp))
  clear hg hn1 hn2
  go_enter Tryd.func4, Tryd.ntmps4
  go_wp2_with fail
  refine Calls.mono (place_far _ n0 400 HI.out.1 HI.out.2 (by omega) (by omega)) ?_
  rintro e w' ⟨k, rfl, hk, rfl⟩
  have hki : (k : Int) < 400 := hk
  go_wp2_with fail
  obtain ⟨w1, hw1⟩ : ∃ w1, w.alloc (.cells (bcells [84, 82, 80, 69, 0, 1]).toArray 5) = w1 := ⟨_, rfl⟩
  have hw1' : w.alloc (.cells #[.int .u8 84, .int .u8 82, .int .u8 80, .int .u8 69, .int .u8 0, .int .u8 1] 5) = w1 := hw1
  have hk1 : Kp (fun _ => False) w w1 := by rw [← hw1]; exact (Kp.refl _ w).alloc _
  have hb1 := hb0.out
  rw [hw1] at hb1
  rw [hw1']
  have HB := Lib.hid (And.intro hb1 hk1)
  clear hw1 hw1' hb1 hk1 hb0
  go_loopg [4, 5] (194 + k) (fun gk bb ii wr => ∃ (i : Nat) (po : Option Addr) (n c : Nat), i ≤ 194 + k ∧ gk = 194 + k - i ∧ ii = .int .i64 ((i + 1 : Nat) : Int) ∧ bb = .slice po n c ∧ BufAt w.heap.size wr (.slice po n c) (dpre i) ∧ Kp (fun _ => False) w wr)
  case atStart => exact ⟨0, _, 6, 6, by omega, rfl, rfl, rfl, HB.out.1, HB.out.2⟩
  case round =>
    obtain ⟨i, po, n, c, hi, rfl, rfl, rfl, hb, hkr⟩ := hrel
    by_cases hlt : i < 194 + k
    · obtain ⟨p2, n2, c2, w2, hr2, hb2, hk2⟩ := app_two 5 1 hb (by simp [dpre_len]; omega)
      have hlti : ((i + 1 : Nat) : Int) < 195 + k := by omega
      have H2 := Lib.hid (And.intro hr2 (And.intro (show BufAt w.heap.size w2 (.slice p2 n2 c2) (dpre (i + 1)) by rw [show dpre (i + 1) = dpre i ++ [5, 1] by simp [dpre, pairs]]; exact hb2) (kp_new hkr (Kp.mono hk2 fun q _ e => .inr e.1))))
      clear hr2 hb2 hk2 hb hkr
      go_wp2_with (at_builtin; refine wpList_run rfl (.tmp 17) (.tmp 18) 23 rfl (.slice po n c) (.slice (some ⟨wr.heap.size, 0, none⟩) 2 2) rfl rfl _ w2 H2.out.1 ?_)
      go_roundg (194 + k - (i + 1))
      case measure => omega
      case rel => exact ⟨i + 1, _, _, _, by omega, rfl, by simp, rfl, H2.out.2.1, H2.out.2.2⟩
    · obtain rfl : i = 194 + k := by omega
      have hlti : ¬ ((194 + k + 1 : Nat) : Int) < 195 + k := by omega
      obtain ⟨p2, n2, c2, w2, hr2, hb2, hk2⟩ := app_two 6 0 hb (by simp [dpre_len]; omega)
      rw [← encM_dM] at hb2
      have hlen : (encM (dM (194 + k))).length ≤ 1000000 := by rw [encM_dM]; simp [dpre_len]; omega
      have hkw2 : Kp (fun _ => False) w w2 := kp_new hkr (Kp.mono hk2 fun q _ e => .inr e.1)
      have H2 := Lib.hid (And.intro hr2 (And.intro (hb2.at' (by omega)) (And.intro hkw2 (And.intro hlen (HG.out.kp hkw2 fun e => e)))))
      clear hr2 hb2 hk2 hb hkr hlen hkw2
      go_wp2_with (at_builtin; refine wpList_run rfl (.tmp 20) (.tmp 21) 23 rfl (.slice po n c) (.slice (some ⟨wr.heap.size, 0, none⟩) 2 2) rfl rfl _ w2 H2.out.1 ?_)
      by_cases hdeep : k < 6
      · have hki2 : (195 + k : Int) ≤ 200 := by omega
        refine (read_ok (m := dM (194 + k)) H2.out.2.1 (dM_ok (by omega)) (fun T hT => by
          obtain rfl : T = dT (194 + k) := by simpa [dM] using hT
          exact dT_wf _) (by exact (by decide : (⟨#[]⟩ : ByteArray).size ≤ 1099511627776)) (by have := H2.out.2.2.2.1; omega)).mono ?_
        rintro e w3 ⟨hh, vl, vf, rfl, hM, hk3⟩
        obtain ⟨vl', vf', e', -, hLs, hFs⟩ := hM
        obtain ⟨rfl, rfl⟩ : vl = vl' ∧ vf = vf' := by simpa using e'
        obtain ⟨q1, c1, rfl, -⟩ := hLs
        obtain ⟨q2, c2', rfl, -⟩ := hFs
        have H3 := Lib.hid (H2.out.2.2.1.trans' (hk3.trans' ((Kp.refl _ w3).alloc (.cells #[.string ⟨#[]⟩, .slice q1 1 c1, .slice q2 0 c2'] 33))))
        clear hk3 e'
        go_wp2_with fail
        refine (cdAwake_any _).mono ?_
        rintro e w4 ⟨rfl, hk4⟩
        have H4 := Lib.hid (H3.out.trans' hk4)
        clear hk4
        go_wp2_with fail
        go_ret
        exact ⟨rfl, H4.out⟩
      · have hki2 : ¬ (195 + k : Int) ≤ 200 := by omega
        refine (read_d H2.out.2.1 (by have := H2.out.2.2.2.1; omega) (by omega) (by omega) H2.out.2.2.2.2).mono ?_
        rintro e w3 ⟨x, rfl, hch, hk3⟩
        obtain ⟨gx, inner, rfl, -⟩ := chain_fault hch
        obtain ⟨w4, hw4⟩ : ∃ w4, w3.alloc (.cells #[.string ⟨#[]⟩, .slice none 0 0, .slice none 0 0] 33) = w4 := ⟨_, rfl⟩
        have hz4 : w4.heap.size = w3.heap.size + 1 := by rw [← hw4]; simp
        have hk4 : Kp (fun _ => False) w3 w4 := by rw [← hw4]; exact (Kp.refl _ w3).alloc _
        obtain ⟨w5, hw5⟩ : ∃ w5, (w4.alloc (.cells #[.string ⟨#[116, 101, 114, 109]⟩, .int .i64 200, .iface 40 (.int .i64 2)] 42)).alloc (.cells #[.string ⟨#[114, 101, 97, 100]⟩, .int .i64 6, .iface 39 (.pointer (some ⟨w3.heap.size + 1, 0, none⟩))] 42) = w5 := ⟨_, rfl⟩
        have hk5 : Kp (fun _ => False) w4 w5 := by rw [← hw5]; exact ((Kp.refl _ w4).alloc _).alloc _
        have hf1 : w5.heap[w3.heap.size + 1]? = some (.cells #[.string ⟨#[116, 101, 114, 109]⟩, .int .i64 200, .iface 40 (.int .i64 2)] 42 (0, 0)) := by
          rw [← hw5, ← hz4, Below.heap_alloc _ _ _ (by simp)]; exact heap_alloc_new w4 _
        have hf2 : w5.heap[w3.heap.size + 1 + 1]? = some (.cells #[.string ⟨#[114, 101, 97, 100]⟩, .int .i64 6, .iface 39 (.pointer (some ⟨w3.heap.size + 1, 0, none⟩))] 42 (0, 0)) := by
          rw [← hw5, ← hz4]
          have := heap_alloc_new (w4.alloc (.cells #[.string ⟨#[116, 101, 114, 109]⟩, .int .i64 200, .iface 40 (.int .i64 2)] 42)) (.cells #[.string ⟨#[114, 101, 97, 100]⟩, .int .i64 6, .iface 39 (.pointer (some ⟨w4.heap.size, 0, none⟩))] 42)
          simpa using this
        have hch2 : Chain w5 (.iface 39 (.pointer (some ⟨w3.heap.size + 1 + 1, 0, none⟩))) [Lk.fault readS 6, Lk.fault termS 200, Lk.kind 2] :=
          .inr ⟨rfl, _, _, rfl, hf2, .inr ⟨rfl, _, _, rfl, hf1, .inl ⟨rfl, rfl, rfl, rfl, by decide⟩⟩⟩
        have HE := Lib.hid (err_any [Lk.fault readS 6, Lk.fault termS 200, Lk.kind 2] _ _ _ (by simp) (Chain.kp (hk4.trans' hk5) _ _ hch) hch2)
        have H5 := Lib.hid (H2.out.2.2.1.trans' (hk3.trans' (hk4.trans' hk5)))
        have HW4 := Lib.hid (And.intro hw4 hw5)
        clear hk3 hk4 hk5 hch hch2 hf1 hf2 hw4 hw5 hz4
        go_wp2_with fail
        rw [HW4.out.1, HW4.out.2]
        refine HE.out.mono ?_
        rintro e w6 ⟨rfl, hk6⟩
        have H6 := Lib.hid (H5.out.trans' hk6)
        clear hk6
        go_wp2_with fail
        refine (cdAwake_any _).mono ?_
        rintro e w7 ⟨rfl, hk7⟩
        have H7 := Lib.hid (H6.out.trans' hk7)
        clear hk7
        go_wp2_with fail
        go_ret
        exact ⟨rfl, H7.out⟩
end Go.Proofs.YtaeoohjgdkablaaDoor
