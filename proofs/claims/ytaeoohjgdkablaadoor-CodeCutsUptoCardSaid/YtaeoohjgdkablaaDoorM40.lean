/- CodeCuts: a module's bytes, cut, and with bytes behind them. CodeRound: what is written is read as the same module; what is read is written as the same bytes. -/
import Derived.Test.YtaeoohjgdkablaaDoorM39
/- CodeCuts: a module's bytes, cut, and with bytes behind them. -/
namespace Go.Proofs.YtaeoohjgdkablaaDoor
open Go.RowKit

theorem own_some {B : Nat} {w : World} {v : Value} {l : List UInt8} (h : w.ownsRow B 5 1 v l.length (bcells l)) (hl : 0 < l.length) : ∃ g cap, v = .slice (some ⟨g, 0, none⟩) l.length cap ∧ B ≤ g ∧ g < w.heap.size ∧ l.length ≤ cap := by
  rcases h.2 with ⟨_, h0⟩ | ⟨g, cap, cur, rfl, hb, hg, h1, _⟩
  · omega
  · exact ⟨g, cap, rfl, hb, (Array.getElem?_eq_some_iff.1 hg).1, h1⟩
theorem bytes_take {F : Nat → Prop} {w : World} {l : List UInt8} {a : Option Addr} {n cap : Nat} (h : BytesAt F w l (.slice a n cap)) (k : Nat) (hk : k ≤ l.length) : BytesAt F w (l.take k) (.slice a k cap) := by
  obtain ⟨po, c, e, h1, h2, h3⟩ := h
  injection e with e1 e2 e3
  subst e1 e3
  have hl : (l.take k).length = k := by rw [List.length_take]; omega
  refine ⟨a, cap, by rw [hl], by omega, by omega, fun i x hi => h3 i x ?_⟩
  have := (List.getElem?_eq_some_iff.1 hi).1
  rwa [List.getElem?_take_of_lt (by omega)] at hi
set_option maxRecDepth 100000 in
set_option maxHeartbeats 400000 in
theorem copyBuf_any {F : Nat → Prop} {w : World} {l : List UInt8} {v : Value} (h : BytesAt F w l v) (hl : l.length ≤ 70368744177664) :
    Calls Tryd.prog 15 #[v] w fun e w' => ∃ po n c, e = .returned (.slice po n c) ∧ BufAt w.heap.size w' (.slice po n c) l ∧ Kp (fun _ => False) w w' := by
  obtain ⟨po, n, c, w', hr, hb, hk⟩ := app_bytes (BufAt.nil (Nat.le_refl w.heap.size)) h (by simpa using hl)
  obtain ⟨p0, c0, rfl, -⟩ := h
  have H := Lib.hid (And.intro hb (kb_new hk))
  clear hb hk
  go_enter Tryd.func15, Tryd.ntmps15
  go_wp2_with (at_builtin; refine wpList_run rfl _ _ 23 rfl (.slice none 0 0) (.slice p0 l.length c0) rfl rfl _ w' hr ?_)
  go_ret
  exact ⟨_, _, _, rfl, by simpa using H.out.1, H.out.2⟩

set_option maxRecDepth 100000 in
set_option maxHeartbeats 4000000 in
theorem cuts_walk {w : World} {h : Nat} {m : Md} {v0 v1 v2 : Value} (at' : Int) {ms : List UInt8} {pm : Option Addr} {cm : Nat} (hm : MdAt (fun q => q < w.heap.size) w h m [v0, v1, v2]) (hb : mb m ≤ 1048576) (hms : BytesAt (fun q => q < w.heap.size) w ms (.slice pm ms.length cm)) (hml : ms.length ≤ 1048576) (hg : Laid0 w)
    (ha1 : -9223372036854775808 ≤ at') (ha2 : at' ≤ 9223372036854775807) :
    Calls Tryd.prog 6 #[.agg #[v0, v1, v2], .int .i64 at', .slice pm ms.length cm] w fun e w' => e = .returned (.bool true) ∧ Kp (fun _ => False) w w' := by
  have hlin := encM_lin hm
  have hpos := encM_pos m
  obtain ⟨L, hL⟩ : ∃ L, (encM m).length = L := ⟨_, rfl⟩
  obtain ⟨ml, hmL⟩ : ∃ ml, ms.length = ml := ⟨_, rfl⟩
  rw [hmL] at hms hml ⊢
  obtain ⟨wa, hwa⟩ : ∃ wa, w.alloc (.cells #[v0, v1, v2] 33) = wa := ⟨_, rfl⟩
  have hka : Kp (fun _ => False) w wa := by rw [← hwa]; exact (Kp.refl _ w).alloc _
  have hza : wa.heap.size = w.heap.size + 1 := by rw [← hwa]; simp
  have bA : wa.heap[w.heap.size]? = some (.cells #[v0, v1, v2] 33 (0, 0)) := by rw [← hwa]; exact heap_alloc_new w _
  have HA := Lib.hid (And.intro hm (And.intro hka (And.intro hza (And.intro bA (And.intro hg (And.intro hL (show 7 ≤ L ∧ L ≤ 900000000 by omega)))))))
  have HI := Lib.hid (And.intro (And.intro ha1 ha2) (And.intro hms (And.intro hmL hml)))
  obtain ⟨a0, a1, a2, -⟩ := three_facts bA
  clear hlin hpos hm hka hza bA hg hL ha1 ha2 hb hms hmL hml
  go_enter Tryd.func6, Tryd.ntmps6
  go_wp2_with fail
  refine (copyModule_any (HA.out.1.kp HA.out.2.1 fun _ _ e => e)).mono ?_
  rintro e w2 ⟨po, n, c, po2, n2, c2, rfl, hM2, hk2⟩
  have HM2 := Lib.hid (And.intro hM2 hk2)
  clear hM2 hk2 hwa a0 a1 a2
  go_wp2_with fail
  have hz2 := HM2.out.2.size
  refine (write_any (Nat.le_refl _) (HM2.out.1.imp (fun q e => e.2) fun _ _ _ _ e => e) (by have h1 := HA.out.2.2.2.2.2.1; have h2 := HA.out.2.2.2.2.2.2; omega)).mono ?_
  rintro e w3 (⟨⟨pv, nv, cv, rfl, hB, hk3⟩, hok⟩ | ⟨x, rfl, hk3, hch⟩)
  · obtain ⟨g, cap, e', hgB, hgs, hcap⟩ := own_some (hB.own (by have h1 := HA.out.2.2.2.2.2.1; have h2 := HA.out.2.2.2.2.2.2; omega)) (by have h1 := HA.out.2.2.2.2.2.1; have h2 := HA.out.2.2.2.2.2.2; omega)
    injection e' with e1 e2 e3
    subst e1 e3
    obtain rfl : nv = L := by rw [e2]; exact HA.out.2.2.2.2.2.1
    have hL7 : ¬ (nv : Int) < 7 := by have := HA.out.2.2.2.2.2.2; omega
    rw [← e2] at hcap
    have hB' := hB.at' (by have h1 := HA.out.2.2.2.2.2.1; have h2 := HA.out.2.2.2.2.2.2; omega)
    have HB := Lib.hid (And.intro hB' (And.intro (kb_new hk3) (And.intro (md_may HA.out.1 hok (by have h1 := HA.out.2.2.2.2.2.1; have h2 := HA.out.2.2.2.2.2.2; omega)) (And.intro hgB hgs))))
    clear hB hB' hk3 hok e2 hgB hgs
    go_wp2_with fail
    refine Calls.mono (place_far _ at' nv HI.out.1.1 HI.out.1.2 (by have := HA.out.2.2.2.2.2.2; omega) (by have := HA.out.2.2.2.2.2.2; omega)) ?_
    rintro e w3' ⟨k, rfl, hk, rfl⟩
    have hkc : (k : Int) ≤ cv := by omega
    have hbk := bytes_take HB.out.1 k (by have h1 := HA.out.2.2.2.2.2.1; omega)
    have hg3 : Laid0 w3 := HA.out.2.2.2.2.1.kp (HA.out.2.1.trans' (HM2.out.2.trans' HB.out.2.1)) (fun e => e)
    have HK := Lib.hid (And.intro hbk (And.intro hg3 (show k < nv by omega)))
    clear hbk hg3 hL7 hk
    go_wp2_with fail
    refine (read_any HK.out.1 (by rw [List.length_take]; have h1 := HA.out.2.2.2.2.2.1; have h2 := HA.out.2.2.2.2.2.2; omega) HK.out.2.1).mono ?_
    rintro e w4 (⟨m', hh, q1, n1, c1, q2, n2', c2', rfl, hM, hmd, he, hk4⟩ | ⟨x', rfl, ⟨nn, ls, _, hch⟩, _, _, hk4⟩)
    · have h1 := encM_cut (x := []) (y := (encM m).drop k) HB.out.2.2.1 hmd (by rw [← he, List.append_nil, List.take_append_drop])
      have h2 := congrArg List.length h1
      have h3 := HA.out.2.2.2.2.2.1
      have h4 := HK.out.2.2
      simp only [List.length_nil, List.length_drop] at h2
      omega
    · obtain ⟨gx, inner, rfl, -⟩ := chain_fault hch
      obtain ⟨w5, hw5⟩ : ∃ w5, w4.alloc (.cells #[.string ⟨#[]⟩, .slice none 0 0, .slice none 0 0] 33) = w5 := ⟨_, rfl⟩
      have hk5 : Kp (fun _ => False) w3 w5 := by rw [← hw5]; exact hk4.trans' ((Kp.refl _ w4).alloc _)
      have H5 := Lib.hid (And.intro hk5 (bytes_kp HB.out.1 hk5 fun _ _ e => e))
      have HW5 := Lib.hid hw5
      clear hk4 hk5 hch hw5
      go_wp2_with fail
      rw [HW5.out]
      clear HW5
      refine Calls.mono (copyBuf_any H5.out.2 (by have h1 := HA.out.2.2.2.2.2.1; have h2 := HA.out.2.2.2.2.2.2; omega)) ?_
      rintro e w6 ⟨p6, n6, c6, rfl, hb6, hk6⟩
      have hkw6 : Kp (fun _ => False) w w6 := HA.out.2.1.trans' (HM2.out.2.trans' (HB.out.2.1.trans' (H5.out.1.trans' hk6)))
      have hms6 := bytes_kp HI.out.2.1 hkw6 fun _ _ e => e
      obtain ⟨p7, n7, c7, w7, hr7, hb7, hk7⟩ := app_bytes hb6 hms6 (by rw [List.length_append]; have h1 := HA.out.2.2.2.2.2.1; have h2 := HA.out.2.2.2.2.2.2; have h3 := HI.out.2.2.1; have h4 := HI.out.2.2.2; omega)
      have hkw7 : Kp (fun _ => False) w5 w7 := kp_new hk6 (Kp.mono hk7 fun q _ e => .inr e.1)
      have hg7 : Laid0 w7 := HK.out.2.1.kp (H5.out.1.trans' hkw7) (fun e => e)
      have hbb7 := hb7.at' (by rw [List.length_append]; have h1 := HA.out.2.2.2.2.2.1; have h2 := HA.out.2.2.2.2.2.2; have h3 := HI.out.2.2.1; have h4 := HI.out.2.2.2; omega)
      have H7 := Lib.hid (And.intro hr7 (And.intro hbb7 (And.intro hkw7 hg7)))
      clear hb6 hk6 hkw6 hms6 hr7 hb7 hk7 hkw7 hg7 hbb7
      go_wp2_with (at_builtin; refine wpList_run rfl (.tmp 39) (.tmp 40) 23 rfl (.slice p6 n6 c6) (.slice pm ml cm) rfl rfl _ w7 H7.out.1 ?_)
      by_cases h0 : ms = []
      · have hml0 : ml = 0 := by have := HI.out.2.2.1; rw [h0] at this; simpa using this.symm
        subst hml0
        refine (read_ok (m := m) (by have := H7.out.2.1; rw [h0, List.append_nil] at this; exact this) HB.out.2.2.1.1 HB.out.2.2.1.2.1 HB.out.2.2.1.2.2.1 (by have h1 := HA.out.2.2.2.2.2.1; have h2 := HA.out.2.2.2.2.2.2; omega)).mono ?_
        rintro e w8 ⟨hh, vl, vf, rfl, hM8, hk8⟩
        obtain ⟨vl', vf', e', -, hLs, hFs⟩ := hM8
        obtain ⟨rfl, rfl⟩ : vl = vl' ∧ vf = vf' := by simpa using e'
        obtain ⟨q1, n1, c1, rfl⟩ := hLs.form
        obtain ⟨q2, n2', c2', rfl⟩ := FnsAt.form hFs
        have H8 := Lib.hid (HA.out.2.1.trans' (HM2.out.2.trans' (HB.out.2.1.trans' (H5.out.1.trans' (H7.out.2.2.1.trans' (hk8.trans' ((Kp.refl _ w8).alloc (.cells #[.string m.name, .slice q1 n1 c1, .slice q2 n2' c2'] 33))))))))
        clear hk8 hLs hFs e'
        go_wp2_with fail
        refine (cdAwake_any _).mono ?_
        rintro e w9 ⟨rfl, hk9⟩
        have H9 := Lib.hid (H8.out.trans' hk9)
        clear hk9
        go_wp2_with fail
        go_ret
        exact ⟨rfl, H9.out⟩
      · refine (read_any H7.out.2.1 (by rw [List.length_append]; have h1 := HA.out.2.2.2.2.2.1; have h2 := HA.out.2.2.2.2.2.2; have h3 := HI.out.2.2.1; have h4 := HI.out.2.2.2; omega) H7.out.2.2.2).mono ?_
        rintro e w8 (⟨m', hh, q1, n1, c1, q2, n2', c2', rfl, hM, hmd, he, hk8⟩ | ⟨x', rfl, _, _, hch, hk8⟩)
        · have h1 := encM_cut (x := ms) (y := []) HB.out.2.2.1 hmd (by rw [he, List.append_nil])
          exact absurd h1 h0
        · have hch := hch m ms HB.out.2.2.1 rfl
          obtain ⟨gy, inner, rfl, -⟩ := chain_fault hch
          obtain ⟨w9, hw9⟩ : ∃ w9, (w8.alloc (.cells #[.string ⟨#[]⟩, .slice none 0 0, .slice none 0 0] 33)).alloc (.cells #[.string ⟨#[114, 101, 97, 100]⟩, .int .i64 nv, .iface 40 (.int .i64 10)] 42) = w9 := ⟨_, rfl⟩
          have hk89 : Kp (fun _ => False) w8 w9 := by rw [← hw9]; exact ((Kp.refl _ w8).alloc _).alloc _
          have hch2 : Chain w9 (.iface 39 (.pointer (some ⟨w8.heap.size + 1, 0, none⟩))) [Lk.fault readS nv, Lk.kind 10] :=
            .inr ⟨rfl, _, .iface 40 (.int .i64 10), rfl, by
              show w9.heap[w8.heap.size + 1]? = some (.cells #[.string ⟨#[114, 101, 97, 100]⟩, .int .i64 nv, .iface 40 (.int .i64 10)] 42 (0, 0))
              rw [← hw9]
              have := heap_alloc_new (w8.alloc (.cells #[.string ⟨#[]⟩, .slice none 0 0, .slice none 0 0] 33)) (.cells #[.string ⟨#[114, 101, 97, 100]⟩, .int .i64 nv, .iface 40 (.int .i64 10)] 42)
              simpa using this, .inl ⟨rfl, rfl, rfl, rfl, by decide⟩⟩
          rw [HA.out.2.2.2.2.2.1] at hch
          have HE := Lib.hid (err_any [Lk.fault readS nv, Lk.kind 10] _ _ _ (by simp) (Chain.kp hk89 _ _ hch) hch2)
          have H8 := Lib.hid (HA.out.2.1.trans' (HM2.out.2.trans' (HB.out.2.1.trans' (H5.out.1.trans' (H7.out.2.2.1.trans' (hk8.trans' hk89))))))
          have HW9 := Lib.hid hw9
          have hmn : ¬ (ml : Int) = 0 := fun e => h0 (List.eq_nil_of_length_eq_zero (by have := HI.out.2.2.1; omega))
          clear hk8 hk89 hch hch2 hw9
          go_wp2_with fail
          rw [HW9.out]
          refine HE.out.mono ?_
          rintro e w10 ⟨rfl, hk10⟩
          have H10 := Lib.hid (H8.out.trans' hk10)
          clear hk10
          go_wp2_with fail
          refine (cdAwake_any _).mono ?_
          rintro e w11 ⟨rfl, hk11⟩
          have H11 := Lib.hid (H10.out.trans' hk11)
          clear hk11
          go_wp2_with fail
          go_ret
          exact ⟨rfl, H11.out⟩
  · have hk3 := kb_new hk3
    have hx : ∃ gx, x = .iface 39 (.pointer (some ⟨gx, 0, none⟩)) := by
      rcases hch with ⟨_, _, _, _, _, _, hc⟩ | ⟨_, _, _, _, _, hc⟩
      · obtain ⟨gx, _, e, _⟩ := chain_fault hc.out
        exact ⟨gx, e⟩
      · obtain ⟨gx, _, e, _⟩ := chain_fault hc.out
        exact ⟨gx, e⟩
    obtain ⟨gx, rfl⟩ := hx
    have HK := Lib.hid (HA.out.2.1.trans' (HM2.out.2.trans' hk3))
    clear hk3 hch
    go_wp2_with fail
    refine (cdAwake_any _).mono ?_
    rintro e w9 ⟨rfl, hk9⟩
    have H9 := Lib.hid (HK.out.trans' hk9)
    clear hk9
    go_wp2_with fail
    go_ret
    exact ⟨rfl, H9.out⟩
end Go.Proofs.YtaeoohjgdkablaaDoor

/- CodeRound: what is written is read as the same module; what is read is written as the same bytes. -/
namespace Go.Proofs.YtaeoohjgdkablaaDoor
open Go.RowKit

theorem zero_md (F : Nat → Prop) (w : World) (h : Nat) : MdAt F w h ⟨⟨#[]⟩, [], []⟩ [.string ⟨#[]⟩, .slice none 0 0, .slice none 0 0] :=
  ⟨_, _, rfl, by decide, ⟨none, 0, rfl, by simp, by simp, fun i t h => by simp at h⟩, ⟨none, 0, rfl, by simp, by simp, fun i t h => by simp at h⟩⟩

set_option maxRecDepth 100000 in
set_option maxHeartbeats 8000000 in
theorem round_walk {w : World} {h : Nat} {m : Md} {v0 v1 v2 : Value} {ms : List UInt8} {pm : Option Addr} {cm : Nat} (hm : MdAt (fun q => q < w.heap.size) w h m [v0, v1, v2]) (hb : mb m ≤ 1048576) (hms : BytesAt (fun q => q < w.heap.size) w ms (.slice pm ms.length cm)) (hml : ms.length ≤ 1048576) (hg : Laid0 w) :
    Calls Tryd.prog 7 #[.agg #[v0, v1, v2], .slice pm ms.length cm] w fun e w' => e = .returned (.bool true) ∧ Kp (fun _ => False) w w' := by
  have hlin := encM_lin hm
  have hpos := encM_pos m
  obtain ⟨L, hL⟩ : ∃ L, (encM m).length = L := ⟨_, rfl⟩
  obtain ⟨ml, hmL⟩ : ∃ ml, ms.length = ml := ⟨_, rfl⟩
  rw [hmL] at hms hml ⊢
  obtain ⟨wa, hwa⟩ : ∃ wa, w.alloc (.cells #[v0, v1, v2] 33) = wa := ⟨_, rfl⟩
  have hka : Kp (fun _ => False) w wa := by rw [← hwa]; exact (Kp.refl _ w).alloc _
  have hza : wa.heap.size = w.heap.size + 1 := by rw [← hwa]; simp
  have bA : wa.heap[w.heap.size]? = some (.cells #[v0, v1, v2] 33 (0, 0)) := by rw [← hwa]; exact heap_alloc_new w _
  have HA := Lib.hid (And.intro hm (And.intro hka (And.intro hza (And.intro bA (And.intro hg (And.intro hL (show 7 ≤ L ∧ L ≤ 900000000 by omega)))))))
  have HI := Lib.hid (And.intro hms (And.intro hmL hml))
  obtain ⟨a0, a1, a2, -⟩ := three_facts bA
  clear hlin hpos hm hka hza bA hg hL hb hms hmL hml
  go_enter Tryd.func7, Tryd.ntmps7
  go_wp2_with fail
  refine (copyModule_any (HA.out.1.kp HA.out.2.1 fun _ _ e => e)).mono ?_
  rintro e w2 ⟨po, n, c, po2, n2, c2, rfl, hM2, hk2⟩
  have HM2 := Lib.hid (And.intro hM2 hk2)
  clear hM2 hk2 hwa a0 a1 a2
  go_wp2_with fail
  have hz2 := HM2.out.2.size
  refine (write_any (Nat.le_refl _) (HM2.out.1.imp (fun q e => e.2) fun _ _ _ _ e => e) (by have h1 := HA.out.2.2.2.2.2.1; have h2 := HA.out.2.2.2.2.2.2; omega)).mono ?_
  rintro e w3 (⟨⟨pv, nv, cv, rfl, hB, hk3⟩, hok⟩ | ⟨x, rfl, hk3, hch⟩)
  · have hB' := hB.at' (by have h1 := HA.out.2.2.2.2.2.1; have h2 := HA.out.2.2.2.2.2.2; omega)
    have hmd := md_may HA.out.1 hok (by have h1 := HA.out.2.2.2.2.2.1; have h2 := HA.out.2.2.2.2.2.2; omega)
    have HB := Lib.hid (And.intro hB' (And.intro (kb_new hk3) hmd))
    clear hB hB' hk3 hok hmd
    go_wp2_with fail
    refine (read_ok (m := m) HB.out.1 HB.out.2.2.1 HB.out.2.2.2.1 HB.out.2.2.2.2.1 (by have h1 := HA.out.2.2.2.2.2.1; have h2 := HA.out.2.2.2.2.2.2; omega)).mono ?_
    rintro e w4 ⟨hh, vl, vf, rfl, hM4, hk4⟩
    obtain ⟨vl', vf', e', -, hLs, hFs⟩ := id hM4
    obtain ⟨rfl, rfl⟩ : vl = vl' ∧ vf = vf' := by simpa using e'
    obtain ⟨q1, n1, c1, rfl⟩ := hLs.form
    obtain ⟨q2, n2', c2', rfl⟩ := FnsAt.form hFs
    obtain ⟨w5, hw5⟩ : ∃ w5, w4.alloc (.cells #[.string m.name, .slice q1 n1 c1, .slice q2 n2' c2'] 33) = w5 := ⟨_, rfl⟩
    have hk5 : Kp (fun _ => False) w4 w5 := by rw [← hw5]; exact (Kp.refl _ w4).alloc _
    have bN : w5.heap[w4.heap.size]? = some (.cells #[.string m.name, .slice q1 n1 c1, .slice q2 n2' c2'] 33 (0, 0)) := by rw [← hw5]; exact heap_alloc_new w4 _
    have hka5 := HM2.out.2.trans' (HB.out.2.1.trans' (hk4.trans' hk5))
    have bA5 := (hka5.block _ (Array.getElem?_eq_some_iff.1 HA.out.2.2.2.1).1 (fun e => e)).trans HA.out.2.2.2.1
    obtain ⟨x0, x1, x2, -⟩ := three_facts bA5
    obtain ⟨y0, y1, y2, -⟩ := three_facts bN
    have HM1 := (hM4.le (Nat.le_max_left hh h)).kp hk5 fun _ _ e => e
    have HM2' := (HA.out.1.le (Nat.le_max_right hh h)).kp (HA.out.2.1.trans' hka5) fun _ _ e => e
    have HQ := Lib.hid (And.intro (sameModule_any HM2' HM1) (HA.out.2.1.trans' hka5))
    clear hM4 hk4 hk5 bN bA5 HM1 HM2' hka5 hLs hFs e'
    subst hw5
    go_wp2_with fail
    refine HQ.out.1.mono ?_
    rintro e w8 ⟨rfl, hk8⟩
    rw [sameM_true rfl]
    have H8 := Lib.hid (HQ.out.2.trans' hk8)
    clear hk8 x0 x1 x2 y0 y1 y2
    go_wp2_with fail
    refine Calls.mono (copyBuf_any (bytes_kp HI.out.1 H8.out fun _ _ e => e) (by have h3 := HI.out.2.1; have h4 := HI.out.2.2; omega)) ?_
    rintro e w9 ⟨p9, n9, c9, rfl, hb9, hk9⟩
    have hbb9 := hb9.at' (by have h3 := HI.out.2.1; have h4 := HI.out.2.2; omega)
    have hkw9 := H8.out.trans' hk9
    have H9 := Lib.hid (And.intro hbb9 (And.intro (HA.out.2.2.2.2.1.kp hkw9 fun e => e) hkw9))
    clear hb9 hbb9 hk9 hkw9
    go_wp2_with fail
    refine (read_any H9.out.1 (by have h3 := HI.out.2.1; have h4 := HI.out.2.2; omega) H9.out.2.1).mono ?_
    rintro e w10 (⟨m', hh', r1, s1, t1, r2, s2, t2, rfl, hM, hmd, he, hk10⟩ | ⟨x', rfl, ⟨nn, ls, _, hch'⟩, _, _, hk10⟩)
    · obtain ⟨w11, hw11⟩ : ∃ w11, w10.alloc (.cells #[.string m'.name, .slice r1 s1 t1, .slice r2 s2 t2] 33) = w11 := ⟨_, rfl⟩
      have hk11 : Kp (fun _ => False) w10 w11 := by rw [← hw11]; exact (Kp.refl _ w10).alloc _
      have hz11 : w11.heap.size = w10.heap.size + 1 := by rw [← hw11]; simp
      have bN : w11.heap[w10.heap.size]? = some (.cells #[.string m'.name, .slice r1 s1 t1, .slice r2 s2 t2] 33 (0, 0)) := by rw [← hw11]; exact heap_alloc_new w10 _
      obtain ⟨y0, y1, y2, -⟩ := three_facts bN
      have hM11 : MdAt (fun q => q < w11.heap.size) w11 hh' m' [.string m'.name, .slice r1 s1 t1, .slice r2 s2 t2] := (hM.kp hk11 fun _ _ e => e).imp (fun q e => by have := e.2; omega) (fun _ _ _ _ e => e)
      have HW := Lib.hid (write_any (Nat.le_refl _) hM11 (by rw [← he]; have h3 := HI.out.2.1; have h4 := HI.out.2.2; omega))
      have H11 := Lib.hid (And.intro (H9.out.2.2.trans' (hk10.trans' hk11)) (And.intro hmd he))
      clear hM hmd he hk10 hk11 hz11 bN hM11
      subst hw11
      go_wp2_with fail
      refine HW.out.mono ?_
      rintro e w12 (⟨⟨pv', nv', cv', rfl, hB', hk12⟩, -⟩ | ⟨x, rfl, hk12, hbad⟩)
      · have hkw12 := H11.out.1.trans' (kb_new hk12)
        have hcv1 := conv_any (hB'.at' (by rw [← H11.out.2.2]; have h3 := HI.out.2.1; have h4 := HI.out.2.2; omega))
        have hcv2 := conv_any (bytes_kp HI.out.1 hkw12 fun _ _ e => e)
        rw [← H11.out.2.2] at hcv1
        obtain ⟨s, hs⟩ : ∃ s, strB ms = s := ⟨_, rfl⟩
        rw [hs] at hcv1 hcv2
        have H12 := Lib.hid hkw12
        clear hB' hk12 hkw12 hs y0 y1 y2
        go_wp2_with fail
        refine (cdAwake_any _).mono ?_
        rintro e w13 ⟨rfl, hk13⟩
        have H13 := Lib.hid (H12.out.trans' hk13)
        clear hk13
        go_wp2_with fail
        go_ret
        exact ⟨rfl, H13.out⟩
      · exfalso
        rcases hbad with ⟨i, T, _, _, hi, hno, _⟩ | ⟨_, i, f, hi, hf, _⟩
        · exact hno (H11.out.2.1.1.1 T (List.mem_of_getElem? hi))
        · have := H11.out.2.1.1.2 f (List.mem_of_getElem? hi)
          rw [hf] at this
          cases this
    · obtain ⟨gy, inner, rfl, -⟩ := chain_fault hch'
      obtain ⟨w11, hw11⟩ : ∃ w11, w10.alloc (.cells #[.string ⟨#[]⟩, .slice none 0 0, .slice none 0 0] 33) = w11 := ⟨_, rfl⟩
      have hk11 : Kp (fun _ => False) w10 w11 := by rw [← hw11]; exact (Kp.refl _ w10).alloc _
      have bN : w11.heap[w10.heap.size]? = some (.cells #[.string ⟨#[]⟩, .slice none 0 0, .slice none 0 0] 33 (0, 0)) := by rw [← hw11]; exact heap_alloc_new w10 _
      obtain ⟨y0, y1, y2, -⟩ := three_facts bN
      have HQ' := Lib.hid (And.intro (sameModule_any (zero_md (fun _ => True) w11 1) (zero_md (fun _ => True) w11 1)) (H9.out.2.2.trans' (hk10.trans' hk11)))
      clear hk10 hk11 bN hch'
      subst hw11
      go_wp2_with fail
      refine HQ'.out.1.mono ?_
      rintro e w12 ⟨rfl, hk12⟩
      rw [sameM_true rfl]
      have H12 := Lib.hid (HQ'.out.2.trans' hk12)
      clear hk12 y0 y1 y2
      go_wp2_with fail
      refine (cdAwake_any _).mono ?_
      rintro e w13 ⟨rfl, hk13⟩
      have H13 := Lib.hid (H12.out.trans' hk13)
      clear hk13
      go_wp2_with fail
      go_ret
      exact ⟨rfl, H13.out⟩
  · have hk3 := kb_new hk3
    have hx : ∃ gx, x = .iface 39 (.pointer (some ⟨gx, 0, none⟩)) := by
      rcases hch with ⟨_, _, _, _, _, _, hc⟩ | ⟨_, _, _, _, _, hc⟩
      · obtain ⟨gx, _, e, _⟩ := chain_fault hc.out
        exact ⟨gx, e⟩
      · obtain ⟨gx, _, e, _⟩ := chain_fault hc.out
        exact ⟨gx, e⟩
    obtain ⟨gx, rfl⟩ := hx
    obtain ⟨w8, hw8⟩ : ∃ w8, w3 = w8 := ⟨_, rfl⟩
    rw [hw8] at hk3 ⊢
    have H8 := Lib.hid (HA.out.2.1.trans' (HM2.out.2.trans' hk3))
    clear hk3 hch hw8
    go_wp2_with fail
    refine Calls.mono (copyBuf_any (bytes_kp HI.out.1 H8.out fun _ _ e => e) (by have h3 := HI.out.2.1; have h4 := HI.out.2.2; omega)) ?_
    rintro e w9 ⟨p9, n9, c9, rfl, hb9, hk9⟩
    have hbb9 := hb9.at' (by have h3 := HI.out.2.1; have h4 := HI.out.2.2; omega)
    have hkw9 := H8.out.trans' hk9
    have H9 := Lib.hid (And.intro hbb9 (And.intro (HA.out.2.2.2.2.1.kp hkw9 fun e => e) hkw9))
    clear hb9 hbb9 hk9 hkw9
    go_wp2_with fail
    refine (read_any H9.out.1 (by have h3 := HI.out.2.1; have h4 := HI.out.2.2; omega) H9.out.2.1).mono ?_
    rintro e w10 (⟨m', hh', r1, s1, t1, r2, s2, t2, rfl, hM, hmd, he, hk10⟩ | ⟨x', rfl, ⟨nn, ls, _, hch'⟩, _, _, hk10⟩)
    · obtain ⟨w11, hw11⟩ : ∃ w11, w10.alloc (.cells #[.string m'.name, .slice r1 s1 t1, .slice r2 s2 t2] 33) = w11 := ⟨_, rfl⟩
      have hk11 : Kp (fun _ => False) w10 w11 := by rw [← hw11]; exact (Kp.refl _ w10).alloc _
      have hz11 : w11.heap.size = w10.heap.size + 1 := by rw [← hw11]; simp
      have bN : w11.heap[w10.heap.size]? = some (.cells #[.string m'.name, .slice r1 s1 t1, .slice r2 s2 t2] 33 (0, 0)) := by rw [← hw11]; exact heap_alloc_new w10 _
      obtain ⟨y0, y1, y2, -⟩ := three_facts bN
      have hM11 : MdAt (fun q => q < w11.heap.size) w11 hh' m' [.string m'.name, .slice r1 s1 t1, .slice r2 s2 t2] := (hM.kp hk11 fun _ _ e => e).imp (fun q e => by have := e.2; omega) (fun _ _ _ _ e => e)
      have HW := Lib.hid (write_any (Nat.le_refl _) hM11 (by rw [← he]; have h3 := HI.out.2.1; have h4 := HI.out.2.2; omega))
      have H11 := Lib.hid (And.intro (H9.out.2.2.trans' (hk10.trans' hk11)) (And.intro hmd he))
      clear hM hmd he hk10 hk11 hz11 bN hM11
      subst hw11
      go_wp2_with fail
      refine HW.out.mono ?_
      rintro e w12 (⟨⟨pv', nv', cv', rfl, hB', hk12⟩, -⟩ | ⟨x, rfl, hk12, hbad⟩)
      · have hkw12 := H11.out.1.trans' (kb_new hk12)
        have hcv1 := conv_any (hB'.at' (by rw [← H11.out.2.2]; have h3 := HI.out.2.1; have h4 := HI.out.2.2; omega))
        have hcv2 := conv_any (bytes_kp HI.out.1 hkw12 fun _ _ e => e)
        rw [← H11.out.2.2] at hcv1
        obtain ⟨s, hs⟩ : ∃ s, strB ms = s := ⟨_, rfl⟩
        rw [hs] at hcv1 hcv2
        have H12 := Lib.hid hkw12
        clear hB' hk12 hkw12 hs y0 y1 y2
        go_wp2_with fail
        refine (cdAwake_any _).mono ?_
        rintro e w13 ⟨rfl, hk13⟩
        have H13 := Lib.hid (H12.out.trans' hk13)
        clear hk13
        go_wp2_with fail
        go_ret
        exact ⟨rfl, H13.out⟩
      · exfalso
        rcases hbad with ⟨i, T, _, _, hi, hno, _⟩ | ⟨_, i, f, hi, hf, _⟩
        · exact hno (H11.out.2.1.1.1 T (List.mem_of_getElem? hi))
        · have := H11.out.2.1.1.2 f (List.mem_of_getElem? hi)
          rw [hf] at this
          cases this
    · obtain ⟨gy, inner, rfl, -⟩ := chain_fault hch'
      obtain ⟨w11, hw11⟩ : ∃ w11, w10.alloc (.cells #[.string ⟨#[]⟩, .slice none 0 0, .slice none 0 0] 33) = w11 := ⟨_, rfl⟩
      have hk11 : Kp (fun _ => False) w10 w11 := by rw [← hw11]; exact (Kp.refl _ w10).alloc _
      have bN : w11.heap[w10.heap.size]? = some (.cells #[.string ⟨#[]⟩, .slice none 0 0, .slice none 0 0] 33 (0, 0)) := by rw [← hw11]; exact heap_alloc_new w10 _
      obtain ⟨y0, y1, y2, -⟩ := three_facts bN
      have HQ' := Lib.hid (And.intro (sameModule_any (zero_md (fun _ => True) w11 1) (zero_md (fun _ => True) w11 1)) (H9.out.2.2.trans' (hk10.trans' hk11)))
      clear hk10 hk11 bN hch'
      subst hw11
      go_wp2_with fail
      refine HQ'.out.1.mono ?_
      rintro e w12 ⟨rfl, hk12⟩
      rw [sameM_true rfl]
      have H12 := Lib.hid (HQ'.out.2.trans' hk12)
      clear hk12 y0 y1 y2
      go_wp2_with fail
      refine (cdAwake_any _).mono ?_
      rintro e w13 ⟨rfl, hk13⟩
      have H13 := Lib.hid (H12.out.trans' hk13)
      clear hk13
      go_wp2_with fail
      go_ret
      exact ⟨rfl, H13.out⟩
end Go.Proofs.YtaeoohjgdkablaaDoor
