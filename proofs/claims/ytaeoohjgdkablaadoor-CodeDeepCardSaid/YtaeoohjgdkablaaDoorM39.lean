/- What the laws of code's bytes are made of: a place in a row, a byte that is turned, a module that was written may be read. CodeFlips: a module's bytes, one of them turned. -/
import Derived.Test.YtaeoohjgdkablaaDoorM16
import Derived.Test.YtaeoohjgdkablaaDoorM33
import Derived.Test.YtaeoohjgdkablaaDoorM37
import Derived.Test.YtaeoohjgdkablaaDoorM38
import Derived.Deep.DeepCutAuto
import Derived.Deep.CutBlock
/- What the laws of code's bytes are made of: a place in a row, a byte that is turned, a module that was written may be read. -/
namespace Go.Proofs.YtaeoohjgdkablaaDoor
open Go.RowKit

set_option maxHeartbeats 400000 in
theorem place_far (w : World) (v n : Int) (_h1 : -9223372036854775808 ≤ v) (_h2 : v ≤ 9223372036854775807) (hn : 0 < n) (hn2 : n ≤ 1000000000) :
    Calls Tryd.prog 13 #[.int .i64 v, .int .i64 n] w fun e w' => ∃ k : Nat, e = .returned (.int .i64 k) ∧ (k : Int) < n ∧ w = w' := by
  have HE := Lib.hid (place_emod v n hn)
  have h3 := Int.lt_tmod_of_pos v hn
  have h4 := Int.tmod_lt_of_pos v hn
  obtain ⟨k, hk, hk1⟩ : ∃ k : Nat, (k : Int) = v % n ∧ (k : Int) < n := by
    have h1 := Int.emod_nonneg v (b := n) (by omega)
    have h2 := Int.emod_lt_of_pos v (b := n) (by omega)
    exact ⟨(v % n).toNat, by omega, by omega⟩
  have HK := Lib.hid (And.intro hk hk1)
  clear hk hk1
  by_cases hneg : v.tmod n < 0
  · go_enter Tryd.func13, Tryd.ntmps13
    go_wp2_with fail
    go_ret
    exact ⟨k, by rw [HE.out.1 hneg, HK.out.1]; rfl, HK.out.2, rfl⟩
  · go_enter Tryd.func13, Tryd.ntmps13
    go_wp2_with fail
    go_ret
    exact ⟨k, by rw [HE.out.2 (by omega), HK.out.1]; rfl, HK.out.2, rfl⟩

theorem encF_mem {l : List Fn4} {f : Fn4} (h : f ∈ l) : (encF f).length ≤ (encFs l).length := by
  obtain ⟨i, hi, rfl⟩ := List.getElem_of_mem h
  have h1 := encFs_drop (List.getElem?_eq_getElem hi)
  have h2 : encFs l = encFs (l.take i) ++ encFs (l.drop i) := by
    conv => lhs; rw [← List.take_append_drop i l]
    simp only [encFs, List.flatMap_append]
  rw [h2, h1]
  simp only [List.length_append]; omega
/-- what was written may be read -/
theorem md_may {F : Nat → Prop} {w : World} {h : Nat} {m : Md} {cs : List Value} (hm : MdAt F w h m cs) (ho : okM m) (hl : (encM m).length ≤ 1000000000) : okMd m := by
  obtain ⟨vl, vf, _, hn, hll, hf⟩ := hm
  have hs : m.name.data.toList.length = m.name.size := Array.length_toList
  have e4 : ([84, 82, 80, 69] : List UInt8).length = 4 := rfl
  simp only [encM, encL, encB, List.length_append, e4] at hl
  refine ⟨ho, fun T hT => ?_, by omega, fun f hfm => ?_⟩
  · obtain ⟨cs, ht⟩ := list_mem hll T hT
    exact wfT_of ht (ho.1 T hT).1 (ho.1 T hT).2
  · have h1 := encF_mem hfm
    have hs2 : f.name.data.toList.length = f.name.size := Array.length_toList
    simp only [encF, encB, List.length_append] at h1
    omega
theorem encM_pos (m : Md) : 7 ≤ (encM m).length := by
  have e4 : ([84, 82, 80, 69] : List UInt8).length = 4 := rfl
  have h1 := encNat_pos m.name.data.toList.length
  have h2 := encNat_pos m.lits.length
  have h3 := encNat_pos m.funcs.length
  simp only [encM, encL, encB, List.length_append, e4]; omega
mutual
/-- no term's bytes begin another's -/
theorem encT_one : ∀ (S T : Tm) (x y : List UInt8), wfT S → wfT T → encT S ++ x = encT T ++ y → S = T ∧ x = y
  | .mk k n s it re bys, .mk k' n' s' it' re' bys', x, y, hS, hT, h => by
    rw [encT_head hS, encT_head hT, List.append_assoc, List.append_assoc, List.append_assoc, List.append_assoc] at h
    rw [wfT] at hS hT
    obtain ⟨hd, h2⟩ := encH_cut hS.1 hT.1 h
    clear h
    injection hd with e1 e2 e3 e4 e5
    subst e1 e2 e3 e4
    obtain ⟨e6, h⟩ := encTs_both it it' _ _ e5 hS.2.1 hT.2.1 h2
    clear h2
    subst e6
    by_cases h7 : k = 7
    · rw [if_pos h7, if_pos h7, List.append_assoc, List.append_assoc] at h
      obtain ⟨e8, h3⟩ := encNat_cut h
      obtain ⟨e9, h4⟩ := encTs_both re re' _ _ e8 hS.2.2.1 hT.2.2.1 h3
      exact ⟨by rw [e9], h4⟩
    · rw [if_neg h7, if_neg h7] at h
      have a1 := hS.2.2.2
      have a2 := hT.2.2.2
      rw [if_neg h7] at a1 a2
      exact ⟨by rw [a1, a2], by simpa using h⟩
theorem encTs_both : ∀ (a b : List Tm) (x y : List UInt8), a.length = b.length → wfTs a → wfTs b → encTs a ++ x = encTs b ++ y → a = b ∧ x = y
  | [], [], x, y, _, _, _, h => ⟨rfl, by simpa [encTs] using h⟩
  | s :: a, t :: b, x, y, hl, ha, hb, h => by
    simp only [encTs, List.append_assoc] at h
    rw [wfTs] at ha hb
    obtain ⟨h1, h2⟩ := encT_one s t _ _ ha.1 hb.1 h
    obtain ⟨h3, h4⟩ := encTs_both a b _ _ (by simpa using hl) ha.2 hb.2 h2
    exact ⟨by rw [h1, h3], h4⟩
  | [], _ :: _, _, _, hl, _, _, _ => by simp at hl
  | _ :: _, [], _, _, hl, _, _, _ => by simp at hl
end
theorem encFs_both : ∀ (a b : List Fn4) (x y : List UInt8), a.length = b.length → encFs a ++ x = encFs b ++ y → x = y
  | [], [], x, y, _, h => by simpa [encFs] using h
  | s :: a, t :: b, x, y, hl, h => by
    have e1 : encFs (s :: a) = encF s ++ encFs a := by simp [encFs]
    have e2 : encFs (t :: b) = encF t ++ encFs b := by simp [encFs]
    rw [e1, e2, List.append_assoc, List.append_assoc] at h
    exact encFs_both a b x y (by simpa using hl) (encF_cut h)
  | [], _ :: _, _, _, hl, _ => by simp at hl
  | _ :: _, [], _, _, hl, _ => by simp at hl
/-- no module's bytes begin another's -/
theorem encM_cut {m m' : Md} {x y : List UInt8} (h1 : okMd m) (h2 : okMd m') (h : encM m ++ x = encM m' ++ y) : x = y := by
  rw [encM_app, encM_app] at h
  have h := List.append_cancel_left h
  obtain ⟨_, h⟩ := encB_cut h
  obtain ⟨e, h⟩ := encNat_cut h
  obtain ⟨_, h⟩ := encTs_both _ _ _ _ e (wfTs_of _ h1.2.1) (wfTs_of _ h2.2.1) h
  unfold restM at h
  obtain ⟨e2, h⟩ := encNat_cut h
  exact encFs_both _ _ _ _ e2 h
/-- a row of bytes of one's own, and a byte of it that is turned -/
theorem own_turn {B : Nat} {w : World} {v : Value} {l : List UInt8} {k : Nat} {y : UInt8} (h : w.ownsRow B 5 1 v l.length (bcells l)) (hy : l[k]? = some y) (hl : l.length ≤ 140737488351232) :
    ∃ g cap, v = .slice (some ⟨g, 0, none⟩) l.length cap ∧ B ≤ g ∧ g < w.heap.size ∧ w.cell? ⟨g, k, none⟩ = some (.int .u8 y.toNat) ∧ w.frozen? ⟨g, k, none⟩ = false ∧
      ∀ (w1 : World) (x : UInt8), w1.heap = w.heap → BytesAt (fun q => q = g) (w1.setCell ⟨g, k, none⟩ (.int .u8 x.toNat)) (l.set k x) v := by
  have hrow := h
  have hk := (List.getElem?_eq_some_iff.1 hy).1
  rcases h.2 with ⟨_, h0⟩ | ⟨g, cap, cur, rfl, hb, hg, h1, h2, h3, h4⟩
  · omega
  · have hgl := (Array.getElem?_eq_some_iff.1 hg).1
    have hbl := bcells_len l
    refine ⟨g, cap, rfl, hb, hgl, by rw [hrow.cellAt k (by omega), bcells_get hy], by simp [World.frozen?, hg], fun w1 x hw => ?_⟩
    have hg1 : w1.heap[g]? = some (.cells cur 5 (0, 0)) := by rw [hw]; exact hg
    refine ⟨_, cap, by rw [List.length_set], by rw [List.length_set]; exact h1, by rw [List.length_set]; exact hl, fun i c hi => ⟨g, 0, rfl, rfl, ?_⟩⟩
    have hil := (List.getElem?_eq_some_iff.1 hi).1
    rw [List.length_set] at hil
    rw [Nat.zero_add, cell_of_row _ g _ _ _ _ (heap_set_same hg1 _), Array.getElem?_setIfInBounds]
    by_cases e : k = i
    · subst e
      rw [List.getElem?_set_self hk] at hi
      obtain rfl : x = c := by simpa using hi
      rw [if_pos rfl, if_pos (by omega)]
    · rw [List.getElem?_set_ne e] at hi
      rw [if_neg e]
      have h9 := hrow.cellAt i (by omega)
      rw [cell_of_row _ g _ _ _ _ hg, bcells_get hi] at h9
      exact h9
end Go.Proofs.YtaeoohjgdkablaaDoor

/- CodeFlips: a module's bytes, one of them turned. -/
namespace Go.Proofs.YtaeoohjgdkablaaDoor
open Go.RowKit

theorem cf_place : ∀ (args : Array Value) (w : World), (callFunc 13 args).run Tryd.prog w = .ok (.enter 13 args) w := fun _ _ => by kernel_rfl

theorem flip_all : ∀ n : _root_.Fin 256, ∀ kb : _root_.Fin 8, bits BinOp.xor IntKind.u8 ((n.val : Nat) : Int) (IntKind.u8.wrap (2 ^ min (IntKind.u64.wrap ((kb.val : Nat) : Int)).toNat 8)) = ((n.val ^^^ (2 ^ kb.val) : Nat) : Int) ∧ (n.val ^^^ (2 ^ kb.val)) < 256 ∧ (n.val ^^^ (2 ^ kb.val)) ≠ n.val := by decide +kernel
theorem flip_val (y : UInt8) (kb : Nat) (h : kb < 8) : ∃ x : UInt8, x ≠ y ∧ bits BinOp.xor IntKind.u8 (y.toNat : Int) (IntKind.u8.wrap (2 ^ min (IntKind.u64.wrap (kb : Int)).toNat 8)) = (x.toNat : Int) := by
  obtain ⟨h1, h2, h3⟩ := flip_all ⟨y.toNat, y.toNat_lt⟩ ⟨kb, h⟩
  simp only at h1 h2 h3
  refine ⟨UInt8.ofNat (y.toNat ^^^ 2 ^ kb), fun e => h3 ?_, ?_⟩
  · have := congrArg UInt8.toNat e
    rw [u8_of h2] at this
    exact this
  · rw [h1, u8_of h2]
theorem chain_fault {w : World} {v : Value} {s : ByteArray} {n : Int} {ls : List Lk} (h : Chain w v (Lk.fault s n :: ls)) : ∃ g inner, v = .iface 39 (.pointer (some ⟨g, 0, none⟩)) ∧ Chain w inner ls := by
  rcases h with ⟨_, _, _, _, hk⟩ | ⟨_, g, inner, e, _, hc⟩
  · exact absurd rfl hk
  · exact ⟨g, inner, e, hc⟩
theorem Laid0.kp {F : Nat → Prop} {w w' : World} (h : Laid0 w) (hk : Kp F w w') (h0 : ¬ F 0) : Laid0 w' :=
  (hk.cell (p := ⟨0, 0, none⟩) (World.block_lt_of_cell? _ _ h) h0).trans h
theorem set_ne {l : List UInt8} {k : Nat} {x y : UInt8} (hy : l[k]? = some y) (hx : x ≠ y) : l.set k x ≠ l := fun e => by
  have hk := (List.getElem?_eq_some_iff.1 hy).1
  have h1 := congrArg (fun l : List UInt8 => l[k]?) e
  simp only [List.getElem?_set_self hk, hy] at h1
  exact hx (Option.some.inj h1)

set_option maxRecDepth 100000 in
set_option maxHeartbeats 4000000 in
theorem flips_walk {w : World} {h : Nat} {m : Md} {v0 v1 v2 : Value} (at' bit : Int) (hm : MdAt (fun q => q < w.heap.size) w h m [v0, v1, v2]) (hb : mb m ≤ 1048576) (hg : Laid0 w)
    (ha1 : -9223372036854775808 ≤ at') (ha2 : at' ≤ 9223372036854775807) (hb1 : -9223372036854775808 ≤ bit) (hb2 : bit ≤ 9223372036854775807) :
    Calls Tryd.prog 5 #[.agg #[v0, v1, v2], .int .i64 at', .int .i64 bit] w fun e w' => e = .returned (.bool true) ∧ Kp (fun _ => False) w w' := by
  have hlin := encM_lin hm
  have hpos := encM_pos m
  obtain ⟨L, hL⟩ : ∃ L, (encM m).length = L := ⟨_, rfl⟩
  obtain ⟨wa, hwa⟩ : ∃ wa, w.alloc (.cells #[v0, v1, v2] 33) = wa := ⟨_, rfl⟩
  have hka : Kp (fun _ => False) w wa := by rw [← hwa]; exact (Kp.refl _ w).alloc _
  have hza : wa.heap.size = w.heap.size + 1 := by rw [← hwa]; simp
  have bA : wa.heap[w.heap.size]? = some (.cells #[v0, v1, v2] 33 (0, 0)) := by rw [← hwa]; exact heap_alloc_new w _
  have HA := Lib.hid (And.intro hm (And.intro hka (And.intro hza (And.intro bA (And.intro hg (And.intro hL (show 7 ≤ L ∧ L ≤ 1000000000 by omega)))))))
  have HI := Lib.hid (And.intro (And.intro ha1 ha2) (And.intro hb1 hb2))
  obtain ⟨a0, a1, a2, -⟩ := three_facts bA
  clear hlin hpos hm hka hza bA hg hL ha1 ha2 hb1 hb2 hb
  go_enter Tryd.func5, Tryd.ntmps5
  go_wp2_with fail
  refine (copyModule_any (HA.out.1.kp HA.out.2.1 fun _ _ e => e)).mono ?_
  rintro e w2 ⟨po, n, c, po2, n2, c2, rfl, hM2, hk2⟩
  have HM2 := Lib.hid (And.intro hM2 hk2)
  clear hM2 hk2 hwa a0 a1 a2
  go_wp2_with fail
  have hz2 := HM2.out.2.size
  refine (write_any (Nat.le_refl _) (HM2.out.1.imp (fun q e => e.2) fun _ _ _ _ e => e) (by have h1 := HA.out.2.2.2.2.2.1; have h2 := HA.out.2.2.2.2.2.2; omega)).mono ?_
  rintro e w3 (⟨⟨pv, nv, cv, rfl, hB, hk3⟩, hok⟩ | ⟨x, rfl, hk3, hch⟩)
  · obtain ⟨p', c', e', -⟩ := hB.form
    injection e' with e1 e2 e3
    subst e1 e3
    obtain rfl : nv = L := by rw [e2]; exact HA.out.2.2.2.2.2.1
    have hL0 : ¬ (nv : Int) = 0 := by have := HA.out.2.2.2.2.2.2; omega
    have HB := Lib.hid (And.intro hB (And.intro (kb_new hk3) hok))
    clear hB hk3 hok e2
    go_wp2_with fail
    refine Calls.mono (place_far _ at' nv HI.out.1.1 HI.out.1.2 (by have := HA.out.2.2.2.2.2.2; omega) (by have := HA.out.2.2.2.2.2.2; omega)) ?_
    rintro e w3' ⟨k, rfl, hk, rfl⟩
    have hkn : k < nv := by omega
    obtain ⟨y, hy⟩ : ∃ y, (encM m)[k]? = some y := ⟨_, List.getElem?_eq_getElem (by have h1 := HA.out.2.2.2.2.2.1; omega)⟩
    obtain ⟨g, cap, e', hgB, hgs, gc, gf, hset⟩ := own_turn (HB.out.1.own (by have h1 := HA.out.2.2.2.2.2.1; have h2 := HA.out.2.2.2.2.2.2; omega)) hy (by have h1 := HA.out.2.2.2.2.2.1; have h2 := HA.out.2.2.2.2.2.2; omega)
    injection e' with e1 e2 e3
    subst e1 e3
    obtain ⟨kb, hkb, hkb8⟩ : ∃ kb : Nat, (kb : Int) = bit % 8 ∧ kb < 8 := ⟨(bit % 8).toNat, by omega, by omega⟩
    have hp := fun W => place_any W bit 8 HI.out.2.1 HI.out.2.2 (by omega) (by omega)
    rw [← hkb] at hp
    have HS := Lib.hid (And.intro hgB (And.intro hgs (And.intro hset (And.intro hy (And.intro hkn (And.intro hp hL0))))))
    have hy8 : y.toNat < 256 := y.toNat_lt
    have hki : (k : Int) < nv := hk
    clear hgB hgs hset hy hkb hp e2 hL0 hk
    obtain ⟨x, hxy, hx⟩ := flip_val y kb hkb8
    have HX := Lib.hid (And.intro hxy hx)
    clear hxy hx
    go_upto_region 5 with fail
    go_cut [9] (fun s9 wx => s9 = .int .i64 k ∧ BytesAt (fun q => q = g) wx ((encM m).set k x) (.slice (some ⟨g, 0, none⟩) nv cv) ∧ Kp (fun q => q = g) w3 wx)
    case first =>
      go_region_law (first
        | (refine step_fn (by rfl) 13 #[.tmp 40, .const (.int .i64 8)] #[3, 3] (by rfl) cf_place #[.int .i64 bit, .int .i64 8] (by first | (simp [Act.eval]; done) | simp [Act.eval, Act.put]) ?_; refine (HS.out.2.2.2.2.2.1 _).mono ?_; rintro e w5 ⟨rfl, rfl⟩; refine ⟨_, rfl, ?_⟩))
      all_goals
        refine Met.intro ?_
        go_step
        go_meet
        refine ⟨rfl, ?_, ?_⟩
        · rw [HX.out.2]
          have hb := HS.out.2.2.1 w3 x rfl
          first | exact hb | exact hb.imp (fun _ e => e) (fun _ _ _ _ e => e)
        · exact ((Kp.refl (fun q => q = g) w3).setCell _ _ (.inl rfl)).drew
    case rest =>
      obtain ⟨rfl, hbx, hkx⟩ := hcut
      have hz3 := HB.out.2.1.size
      have hz2' := HM2.out.2.size
      have hza := HA.out.2.2.1
      have hkwc : Kp (fun q => q = g) w wc := ((HA.out.2.1.trans' (HM2.out.2.trans' HB.out.2.1)).mono fun _ _ e => e.elim).trans' hkx
      have hgw : w.heap.size < g := by have := HS.out.1; omega
      have hg0 : Laid0 wc := HA.out.2.2.2.2.1.kp hkwc (by omega)
      have bAc := (hkx.block _ (by omega) (by omega)).trans (((HM2.out.2.trans' HB.out.2.1).block _ (Array.getElem?_eq_some_iff.1 HA.out.2.2.2.1).1 (fun e => e)).trans HA.out.2.2.2.1)
      have hmc : MdAt (fun q => q < w.heap.size) wc h m [v0, v1, v2] := HA.out.1.kp hkwc fun q e e2 => by omega
      have hlx : ((encM m).set k x).length ≤ 1000000000 := by rw [List.length_set]; have h1 := HA.out.2.2.2.2.2.1; have h2 := HA.out.2.2.2.2.2.2; omega
      have HC := Lib.hid (And.intro hbx (And.intro hkwc (And.intro hgw (And.intro hg0 (And.intro bAc (And.intro hmc hlx))))))
      clear hbx hkx hz3 hz2' hza hkwc hg0 bAc hmc hlx gc gf
      go_wp2_with fail
      refine (read_any HC.out.1 HC.out.2.2.2.2.2.2 HC.out.2.2.2.1).mono ?_
      rintro e w6 (⟨m', hh, q1, n1, c1, q2, n2', c2', rfl, hM, _, he, hk6⟩ | ⟨x', rfl, ⟨nn, ls, _, hch⟩, _, _, hk6⟩)
      · obtain ⟨w7, hw7⟩ : ∃ w7, w6.alloc (.cells #[.string m'.name, .slice q1 n1 c1, .slice q2 n2' c2'] 33) = w7 := ⟨_, rfl⟩
        have hk7 : Kp (fun _ => False) w6 w7 := by rw [← hw7]; exact (Kp.refl _ w6).alloc _
        have bN : w7.heap[w6.heap.size]? = some (.cells #[.string m'.name, .slice q1 n1 c1, .slice q2 n2' c2'] 33 (0, 0)) := by rw [← hw7]; exact heap_alloc_new w6 _
        have bA7 := ((hk6.trans' hk7).block _ (Array.getElem?_eq_some_iff.1 HC.out.2.2.2.2.1).1 (fun e => e)).trans HC.out.2.2.2.2.1
        obtain ⟨x0, x1, x2, -⟩ := three_facts bA7
        obtain ⟨y0, y1, y2, -⟩ := three_facts bN
        have HM1 := (hM.le (Nat.le_max_left hh h)).kp hk7 fun _ _ e => e
        have HM2' := (HC.out.2.2.2.2.2.1.le (Nat.le_max_right hh h)).kp (hk6.trans' hk7) fun _ _ e => e
        have hne : ¬ m' = m := fun e => set_ne HS.out.2.2.2.1 HX.out.1 (by rw [he, e])
        have HQ := Lib.hid (And.intro (sameModule_any HM1 HM2') (And.intro hne (HC.out.2.1.trans' ((hk6.trans' hk7).mono fun _ _ e => e.elim))))
        clear hM hk6 hk7 bN bA7 HM1 HM2' hne he
        subst hw7
        go_wp2_with fail
        refine HQ.out.1.mono ?_
        rintro e w8 ⟨rfl, hk8⟩
        rw [sameM_false HQ.out.2.1]
        have H8 := Lib.hid (HQ.out.2.2.trans' (hk8.mono fun _ _ e => e.elim))
        clear hk8 x0 x1 x2 y0 y1 y2
        go_wp2_with fail
        refine (cdAwake_any _).mono ?_
        rintro e w9 ⟨rfl, hk9⟩
        have H9 := Lib.hid (H8.out.trans' (hk9.mono fun _ _ e => e.elim))
        clear hk9
        go_wp2_with fail
        go_ret
        exact ⟨rfl, kp_new (Kp.refl (fun _ => False) w) (H9.out.mono fun q _ e => .inr (by have := HC.out.2.2.1; omega))⟩
      · obtain ⟨gx, inner, rfl, -⟩ := chain_fault hch
        have H6 := Lib.hid (HC.out.2.1.trans' (hk6.mono fun _ _ e => e.elim))
        clear hk6 hch
        go_wp2_with fail
        refine (cdAwake_any _).mono ?_
        rintro e w9 ⟨rfl, hk9⟩
        have H9 := Lib.hid (H6.out.trans' ((((Kp.refl (fun _ => False) w6).alloc _).trans' hk9).mono fun _ _ e => e.elim))
        clear hk9
        go_wp2_with fail
        go_ret
        exact ⟨rfl, kp_new (Kp.refl (fun _ => False) w) (H9.out.mono fun q _ e => .inr (by have := HC.out.2.2.1; omega))⟩
  · have hk3 := kb_new hk3
    have hx : ∃ gx, x = .iface 39 (.pointer (some ⟨gx, 0, none⟩)) := by
      rcases hch with ⟨_, _, _, _, _, _, hc⟩ | ⟨_, _, _, _, _, hc⟩
      · obtain ⟨gx, _, e, _⟩ := chain_fault hc.out
        exact ⟨gx, e⟩
      · obtain ⟨gx, _, e, _⟩ := chain_fault hc.out
        exact ⟨gx, e⟩
    obtain ⟨gx, rfl⟩ := hx
    have HK := Lib.hid (HA.out.2.1.trans' (HM2.out.2.trans' hk3))
    clear hk3 hch
    go_wp2_with fail
    refine (cdAwake_any _).mono ?_
    rintro e w9 ⟨rfl, hk9⟩
    have H9 := Lib.hid (HK.out.trans' hk9)
    clear hk9
    go_wp2_with fail
    go_ret
    exact ⟨rfl, H9.out⟩
end Go.Proofs.YtaeoohjgdkablaaDoor
