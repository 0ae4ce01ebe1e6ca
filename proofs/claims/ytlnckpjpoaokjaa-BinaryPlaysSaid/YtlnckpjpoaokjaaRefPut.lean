/- The document's own heap of binaries: Put. (Made by gen_xput.py.) -/
import Derived.Test.YtlnckpjpoaokjaaRefDrop
import Derived.Deep.RegionHeld3
import Derived.Deep.RegionLaw
namespace Go.Proofs.Ytlnckpjpoaokjaa
open Go.RowKit
section
variable {F : Nat → Prop} {w w3 : World} {b : Nat} {a : Bn} {ss fs : Value} {ps : List (Value × Value × Value)} {N : Nat}

set_option maxRecDepth 100000 in
/-- bytes behind nil: new memory -/
theorem run_bytes {G : Nat → Prop} {w : World} {l : List UInt8} {pv : Option Addr} {len cap : Nat} (h : BytesAt G w l (.slice pv len cap)) :
    ∃ pv' len' cap' w', (Builtin.append_ #[35, 35] 35 #[.slice none 0 0, .slice pv len cap]).run Try.prog w = .ok (.slice pv' len' cap') w' ∧ BytesAt (Byt (Own w.heap.size w') w') w' l (.slice pv' len' cap') ∧ Kp (fun _ => False) w w' := by
  obtain ⟨po, cap2, e, h2, h3, h4⟩ := h
  injection e with e0 e1 e2
  subst e0 e1 e2
  obtain ⟨i0, hi, hz0, hz1, hz2⟩ := info_parts Try.infoByte
  by_cases hl : l = []
  · subst hl
    exact ⟨none, 0, 0, w, run_append_empty 35 35 5 i0 Try.underlying35 hi pv cap w, bytesAt_nil _ _, Kp.refl _ w⟩
  · have hpos : 0 < l.length := List.length_pos_iff.2 hl
    obtain ⟨b, off, rfl, hF, hc0⟩ := h4 0 l[0] (List.getElem?_eq_getElem hpos)
    have hnA : ∀ i u, (bcells l)[i]? = some u → w.cell? ((⟨b, off, none⟩ : Addr).add i) = some u := by
      intro i u hu
      rw [bcells, List.getElem?_map] at hu
      obtain ⟨c, hc, rfl⟩ := Option.map_eq_some_iff.1 hu
      obtain ⟨b2, off2, e2, _, hcell⟩ := h4 i c hc
      injection e2 with e2
      rw [e2, Go.WideShapes.add_plain]
      exact hcell
    obtain ⟨g1, cap1, w3, hr, hown, hgrow, hat, hlt3⟩ := run_append_lies (P := Try.prog) w 35 35 w.heap.size 5 i0 (.int .u8 0) 1 1 Try.underlying35 hi hz0 hz1 hz2 rfl (by omega) (.slice none 0 0) 0 [] (World.ownsRow_nil _ _ _ _)
      ⟨b, off, none⟩ l.length cap (bcells l) (by rw [bcells_len]; omega) hnA (bcells_one l) hpos (by unfold maxLen; omega) (by omega) (Nat.le_refl _) w.heap.size rfl
    rw [Nat.zero_add] at hown hr
    refine ⟨_, _, _, w3, hr, ⟨_, cap1, rfl, ?_, h3, fun i c hic => ⟨g1, 0, rfl, ⟨⟨?_, hlt3⟩, ?_⟩, ?_⟩⟩, (Kp.refl _ w).grown hgrow (fun k hk => by simp [Value.ownBlock] at hk)⟩
    · rcases hown.2 with ⟨e, _⟩ | ⟨g, cp, cur, e, _, _, h5, _⟩
      · cases e
      · injection e with _ _ e
        omega
    · rcases hat with e | e
      · simp [Value.ownBlock] at e
      · omega
    · rcases hown.2 with ⟨e, _⟩ | ⟨g, cp, cur, e, _, hg, h5, _⟩
      · cases e
      · injection e with e
        injection e with e
        injection e with e
        exact ⟨cur, by rw [e]; exact hg⟩
    · have hil := (List.getElem?_eq_some_iff.1 hic).1
      rw [Nat.zero_add, hown.cellAt i (by omega), List.nil_append, bcells_get hic]

set_option maxRecDepth 100000 in
/-- a row's tail behind nil: new memory -/
theorem run_rest (w : World) {gf capf x : Nat} {r : List Nat} (hf : w.ownsRow 0 3 1 (.slice (some ⟨gf, 0, none⟩) (r.length + 1) capf) (r.length + 1) (nats (x :: r))) (hl : r.length ≤ 4096) (po : Option Addr) (hpo : 0 < r.length → po = some ⟨gf, 1, none⟩) (cap : Nat) :
    ∃ p n c w', (Builtin.append_ #[34, 34] 34 #[.slice none 0 0, .slice po r.length cap]).run Try.prog w = .ok (.slice p n c) w' ∧
      w'.ownsRow 0 3 1 (.slice p n c) r.length (nats r) ∧ Kp (fun _ => False) w w' ∧ ∀ g, (Value.slice p n c).ownBlock = some g → w.heap.size ≤ g ∧ g < w'.heap.size := by
  obtain ⟨i0, hi, hz0, hz1, hz2⟩ := info_parts Try.infoInt
  by_cases h0 : r = []
  · subst h0
    exact ⟨none, 0, 0, w, run_append_empty 34 34 3 i0 Try.underlying34 hi po cap w, World.ownsRow_nil _ _ _ _, Kp.refl _ w, fun g hg => by simp [Value.ownBlock] at hg⟩
  · have hpos : 0 < r.length := List.length_pos_iff.2 h0
    obtain rfl := hpo hpos
    have hcells : ∀ j u, (nats r)[j]? = some u → w.cell? ((⟨gf, 1, none⟩ : Addr).add j) = some u := fun j u hu => by
      have hj := (List.getElem?_eq_some_iff.1 hu).1
      rw [nats_len] at hj
      rw [Go.WideShapes.add_plain, Nat.add_comm, hf.cellAt (j + 1) (by omega)]
      exact hu
    obtain ⟨g1, cap1, w3, hr, hown, hgrow, hat, hlt3⟩ := run_append_lies (P := Try.prog) w 34 34 0 3 i0 (.int .i64 0) 1 8 Try.underlying34 hi hz0 hz1 hz2 rfl (by omega) (.slice none 0 0) 0 [] (World.ownsRow_nil _ _ _ _)
      ⟨gf, 1, none⟩ r.length cap (nats r) (by rw [nats_len]; omega) hcells (fun u hu => by unfold nats at hu; obtain ⟨x, _, rfl⟩ := List.mem_map.1 hu; rfl) hpos (by unfold maxLen; omega) (by omega) (Nat.zero_le _) w.heap.size rfl
    rw [Nat.zero_add] at hown hr
    refine ⟨_, _, _, w3, hr, hown, (Kp.refl _ w).grown hgrow (fun k hk => by simp [Value.ownBlock] at hk), fun g hg => ?_⟩
    simp [Value.ownBlock] at hg
    subst hg
    rcases hat with e | e
    · simp [Value.ownBlock] at e
    · omega

theorem Try.infoS : (Try.prog.info? 103).map (fun i => (i.zero, i.size, i.bytes)) = some (some (.agg #[.int .i64 0, .int .i64 0, .slice none 0 0]), 3, 40) := by kernel_rfl

theorem xput_slots {a1 : Bn} {i : Nat} {s : Sl} (h : XRep F w b a1 ss fs ps) (hs : a1.slots[i]? = some s) {g cap : Nat} (hv : ss = .slice (some ⟨g, 0, none⟩) a1.slots.length cap) {l : List UInt8} {v' : Value} (hb : BytesAt (Byt F w) w l v') (u : Nat) :
    (∃ qs, XRep F (((w.setCell ⟨g, i * 3, none⟩ (.int .i64 (s.gen + 1 : Nat))).setCell ⟨g, i * 3 + 1, none⟩ (.int .i64 1)).setCell ⟨g, i * 3 + 2, none⟩ v') b { a1 with used := u, slots := a1.slots.set i ⟨l, 1, s.gen⟩ } ss fs qs) ∧
      Kp F w (((w.setCell ⟨g, i * 3, none⟩ (.int .i64 (s.gen + 1 : Nat))).setCell ⟨g, i * 3 + 1, none⟩ (.int .i64 1)).setCell ⟨g, i * 3 + 2, none⟩ v') := by
  obtain ⟨g0, c0, v, hv0, hp, hby, _⟩ := h.slot hs
  have hil := (List.getElem?_eq_some_iff.1 hs).1
  have hpl := (List.getElem?_eq_some_iff.1 hp).1
  have hg0 : ss.ownBlock = some g := by rw [hv]; rfl
  obtain ⟨_, cur, _, hgg, _⟩ := row_blk h.rs hg0
  have hk1 : Kp (fun q => q = g) w ((w.setCell ⟨g, i * 3, none⟩ (.int .i64 (s.gen + 1 : Nat))).setCell ⟨g, i * 3 + 1, none⟩ (.int .i64 1)) := ((Kp.refl (fun q => q = g) w).setCell _ _ (.inl rfl)).setCell _ _ (.inl rfl)
  have hb1 := byt_kp hb hk1 (fun q _ e cs hc => by subst e; exact blk_ne hc hgg (by decide) rfl)
  by_cases hc : s.count = 0
  · -- the given slot's number and count, then its bytes
    have h1 := h.setSlot (s' := ⟨s.bs, 0, s.gen + 1⟩) hs hv hp (i * 3) (.int .i64 (s.gen + 1 : Nat)) v (by rw [(t3_set ps i _ hp _).1]; rw [hc]; rfl) hby
    have h2 := h1.1.setSlot (s := ⟨s.bs, 0, s.gen + 1⟩) (s' := ⟨s.bs, 1, s.gen⟩) (by simp [hil]) hv (List.getElem?_set_self hpl) (i * 3 + 1) (.int .i64 1) v
      (by rw [(t3_set _ i _ (List.getElem?_set_self hpl) _).2.1]; rfl) (by
        obtain ⟨x, hx1, hx2⟩ := h1.1.el i ⟨s.bs, 0, s.gen + 1⟩ (List.getElem?_set_self (by simpa using hil))
        rw [List.getElem?_set_self (by simpa using hpl)] at hx1
        injection hx1 with hx1
        injection hx1 with _ hx1
        injection hx1 with _ hx1
        subst hx1
        exact hx2)
    have h3 := h2.1.setSlot (s := ⟨s.bs, 1, s.gen⟩) (s' := ⟨l, 1, s.gen⟩) (by simp [hil]) hv (List.getElem?_set_self (by simpa using hpl)) (i * 3 + 2) v' v'
      (by rw [(t3_set _ i _ (List.getElem?_set_self (by simpa using hpl)) _).2.2]; rfl) hb1
    have h4 := (h1.2.trans' h2.2).trans' h3.2
    have h5 := h3.1
    simp only [List.set_set] at h5
    exact ⟨⟨_, h5.inF, h5.lt, h5.hb, h5.rs, h5.rf, h5.fS, h5.fF, h5.el⟩, h4⟩
  · have hcp : 0 < s.count := by omega
    have h1 := h.setSlot (s' := s) hs hv hp (i * 3) (.int .i64 (s.gen + 1 : Nat)) v (by rw [(t3_set ps i _ hp _).1, ← given_pos hcp]) hby
    have h2 := h1.1.setSlot (s := s) (s' := ⟨s.bs, 1, s.gen⟩) (by simp [hil]) hv (List.getElem?_set_self hpl) (i * 3 + 1) (.int .i64 1) v
      (by rw [(t3_set _ i _ (List.getElem?_set_self hpl) _).2.1, given_pos hcp]; rfl) (by
        obtain ⟨x, hx1, hx2⟩ := h1.1.el i s (List.getElem?_set_self (by simpa using hil))
        rw [List.getElem?_set_self (by simpa using hpl)] at hx1
        injection hx1 with hx1
        injection hx1 with _ hx1
        injection hx1 with _ hx1
        subst hx1
        exact hx2)
    have h3 := h2.1.setSlot (s := ⟨s.bs, 1, s.gen⟩) (s' := ⟨l, 1, s.gen⟩) (by simp [hil]) hv (List.getElem?_set_self (by simpa using hpl)) (i * 3 + 2) v' v'
      (by rw [(t3_set _ i _ (List.getElem?_set_self (by simpa using hpl)) _).2.2]; rfl) hb1
    have h4 := (h1.2.trans' h2.2).trans' h3.2
    have h5 := h3.1
    simp only [List.set_set] at h5
    exact ⟨⟨_, h5.inF, h5.lt, h5.hb, h5.rs, h5.rf, h5.fS, h5.fF, h5.el⟩, h4⟩

set_option maxRecDepth 100000 in
set_option maxHeartbeats 1000000 in
theorem xput_full (h : XRep F w b a ss fs ps) (hI : BInv N a) (po : Option Addr) (len cap : Nat) (hlen : len ≤ 140737488351232) (hfull : (a.slots.length = a.most ∧ a.free = []) ∨ a.room < a.used + len) :
    Calls Try.prog 13 #[.pointer (some ⟨b, 0, none⟩), .slice po len cap] w (XBad w (fun v => .tuple #[.int .i64 (-1), v]) [Lk.fault putS len, Lk.kind 2]) := by
  obtain ⟨c0, c1, c2, c3, f0⟩ := h.cells
  obtain ⟨pS, capS, hS⟩ := slice_form h.rs
  obtain ⟨pF, capF, hF⟩ := slice_form h.rf
  rw [hS] at c2
  rw [hF] at c3
  have i1 := hI.most
  have i2 := hI.room
  have i3 := hI.len
  have i4 := hI.le
  have hd : a.free.length = 0 ↔ a.free = [] := List.length_eq_zero_iff
  have hus : Calls Try.prog 24 #[.pointer (some ⟨b, 0, none⟩)] w fun e w' => e = .returned (.int .i64 a.used) ∧ w' = w := (xused_any h hI).mono fun e w' ⟨h1, h2⟩ => ⟨h1, h2.symm⟩
  have husn : ∀ n, Calls Try.prog 24 #[.pointer (some ⟨b, 0, none⟩)] (w.drewN n) fun e w' => e = .returned (.int .i64 a.used) ∧ w' = w.drewN n := fun n =>
    (xused_any (h.kp (Kp.drewN' (Kp.refl (fun _ => False) w) n) (fun _ _ e => e)) hI).mono fun e w' ⟨h1, h2⟩ => ⟨h1, h2.symm⟩
  obtain ⟨L, hL⟩ : ∃ L, a.slots.length = L := ⟨_, rfl⟩
  obtain ⟨f, hf⟩ : ∃ f, a.free.length = f := ⟨_, rfl⟩
  obtain ⟨M, hM⟩ : ∃ M, a.most = M := ⟨_, rfl⟩
  obtain ⟨R, hR⟩ : ∃ R, a.room = R := ⟨_, rfl⟩
  obtain ⟨U, hU⟩ : ∃ U, a.used = U := ⟨_, rfl⟩
  rw [hU] at hus husn
  have Hus := Lib.hid (And.intro hus husn)
  simp only [hL, hf, hM, hR, hU] at *
  have g3 : IntKind.i64.wrap ((U : Int) + len) = (U : Int) + len := IntWalk.i64_in _ (by omega)
  have key : ∀ (H : ((f : Int) == 0) = true ∧ (M : Int) ≤ L ∨ ((f : Int) == 0) = true ∧ ¬ (M : Int) ≤ L ∧ (R : Int) < U + len ∨ ((f : Int) == 0) = false ∧ (R : Int) < U + len), Calls Try.prog 13 #[.pointer (some ⟨b, 0, none⟩), .slice po len cap] w (XBad w (fun v => .tuple #[.int .i64 (-1), v]) [Lk.fault putS len, Lk.kind 2]) := by
    intro H
    rcases H with ⟨k1, k2⟩ | ⟨k1, k2, k3⟩ | ⟨k1, k3⟩
    · have k4 : decide (M ≤ L) = true := by simp; omega
      clear hfull hd h hI hS hF hL hf hM hR hU hus husn
      go_enter Try.func13, Try.ntmps13
      go_wp2_with fail
      go_quiet (fail)
      go_wp2_with (first | (go_at_call 41; refine (k_any _ _).mono ?_; rintro e w1 ⟨rfl, rfl⟩) | (go_at_call 40; refine (f_any _ _ _ _).mono ?_; rintro e w1 ⟨rfl, rfl⟩))
      go_ret2
      exact (xbad1 w (fun v => .tuple #[.int .i64 (-1), v]) putS len 2 _)
    · have k4 : decide (M ≤ L) = false := by simp; omega
      have k5 : decide ((R : Int) < (U : Int) + len) = true := by simpa using k3
      have k6 : decide (R < U + len) = true := by simp; omega
      clear hfull hd h hI hS hF hL hf hM hR hU hus husn k2
      go_enter Try.func13, Try.ntmps13
      go_wp2_with fail
      go_quiet ((go_at_call 24; first | exact Calls.quiet_of_same Hus.out.1 | exact Calls.quiet_of_same (Hus.out.2 _)))
      go_wp2_with (first | (go_at_call 41; refine (k_any _ _).mono ?_; rintro e w1 ⟨rfl, rfl⟩) | (go_at_call 40; refine (f_any _ _ _ _).mono ?_; rintro e w1 ⟨rfl, rfl⟩))
      go_ret2
      exact (xbad1 w (fun v => .tuple #[.int .i64 (-1), v]) putS len 2 _)
    · have k5 : decide ((R : Int) < (U : Int) + len) = true := by simpa using k3
      have k6 : decide (R < U + len) = true := by simp; omega
      clear hfull hd h hI hS hF hL hf hM hR hU hus husn
      go_enter Try.func13, Try.ntmps13
      go_wp2_with fail
      go_quiet ((go_at_call 24; first | exact Calls.quiet_of_same Hus.out.1 | exact Calls.quiet_of_same (Hus.out.2 _)))
      go_wp2_with (first | (go_at_call 41; refine (k_any _ _).mono ?_; rintro e w1 ⟨rfl, rfl⟩) | (go_at_call 40; refine (f_any _ _ _ _).mono ?_; rintro e w1 ⟨rfl, rfl⟩))
      go_ret2
      exact (xbad1 w (fun v => .tuple #[.int .i64 (-1), v]) putS len 2 _)
  refine key ?_
  by_cases hf0 : f = 0
  · have k1 : ((f : Int) == 0) = true := by simp; omega
    by_cases hml : (M : Int) ≤ L
    · exact .inl ⟨k1, hml⟩
    · exact .inr (.inl ⟨k1, hml, by omega⟩)
  · have k1 : ((f : Int) == 0) = false := by simp; omega
    have : ¬ a.free = [] := fun e => hf0 (hd.2 e)
    exact .inr (.inr ⟨k1, by rcases hfull with ⟨_, e⟩ | e; exact absurd e this; omega⟩)

end
end Go.Proofs.Ytlnckpjpoaokjaa
