/- The document's own table: Unregister. -/
import Derived.Test.YtdcmdidikengbaaTbRef5
namespace Go.Proofs.Ytdcmdidikengbaa
open Go.RowKit
set_option linter.unusedVariables false

section
variable {F : Nat → Prop} {w w' : World} {b g1 g2 size B : Nat} {v : Value} {sl : List Sg} {ns : List Nm} {p : Int} {s : ByteArray}
theorem Try.infoN : (Try.prog.info? 103).map (fun i => (i.zero, i.size, i.bytes)) = some (some (.agg #[.string ByteArray.empty, .int .i64 0]), 2, 24) := by kernel_rfl
theorem n_app (ho : w.ownsS 103 2 v ns.length (nmCells ns)) (po : Option Addr) (c : Nat) (us : List Nm) (hsrc : 0 < us.length → ∃ ad, po = some ad ∧ ∀ j u, (nmCells us)[j]? = some u → w.cell? (ad.add j) = some u) (hlen : ns.length + us.length ≤ 4096) :
    ∃ v' w', (Builtin.append_ #[97, 97] 97 #[v, .slice po us.length c]).run Try.prog w = .ok v' w' ∧ w'.ownsS 103 2 v' (ns ++ us).length (nmCells (ns ++ us)) ∧ Kp (fun q => v.ownBlock = some q) w w' ∧ ∀ g, v'.ownBlock = some g → v.ownBlock = some g ∨ w.heap.size ≤ g := by
  obtain ⟨i0, hi, hz0, hz1, hz2⟩ := info_parts Try.infoN
  obtain ⟨v', w', e1, e2, e3, e4⟩ := run_append_s (P := Try.prog) w 97 97 103 i0 _ 2 24 Try.underlying97 hi hz0 hz1 hz2 rfl v ns.length (nmCells ns) ho po us.length c (nmCells us) (nmCells_len us) hsrc (nmCells_one us) (by unfold maxLen; omega) (by omega)
  refine ⟨v', w', e1, ?_, ((Kp.refl (fun q => v.ownBlock = some q) w).grown e3 (fun q hq => .inl hq)), e4⟩
  rw [List.length_append, nmCells_app]
  exact e2
theorem n_rest {g cap n : Nat} (ho : w.ownsS 103 2 (.slice (some ⟨g, 0, none⟩) n cap) n (nmCells ns)) (i : Nat) {x : Nat} (hx : x = i * 2) : ∀ j u, (nmCells (ns.drop i))[j]? = some u → w.cell? ((⟨g, x, none⟩ : Addr).add j) = some u := by
  intro j u hj
  subst hx
  have h1 : (nmCells ns).drop (i * 2) = nmCells (ns.drop i) := by
    have h2 := List.take_append_drop (i * 2) (nmCells ns)
    have h3 : nmCells ns = nmCells (ns.take i) ++ nmCells (ns.drop i) := by rw [← nmCells_app, List.take_append_drop]
    rw [nmCells_take] at h2
    exact List.append_cancel_left (h2.trans h3)
  rw [← h1, List.getElem?_drop] at hj
  obtain ⟨g', cap', e, _, _, hc⟩ := ownsS_get ho _ _ hj
  injection e with e
  injection e with e
  injection e with e
  rw [Go.WideShapes.add_plain, e]
  exact hc
theorem butFor_at (ho : ns.Pairwise NmLt) {i : Nat} {x : Nm} (hx : ns[i]? = some x) : butFor ns x.txt = ns.take i ++ ns.drop (i + 1) := by
  obtain ⟨hlt, e⟩ := List.getElem?_eq_some_iff.1 hx
  have h1 : ns = ns.take i ++ x :: ns.drop (i + 1) := by
    have h2 := List.drop_eq_getElem_cons hlt
    rw [e] at h2
    rw [← h2, List.take_append_drop]
  have ho2 := ho
  rw [h1, List.pairwise_append, List.pairwise_cons] at ho2
  unfold butFor
  conv => lhs; rw [h1]
  rw [List.filter_append, List.filter_cons_of_neg (by simp), List.filter_eq_self.2, List.filter_eq_self.2]
  · intro a ha
    have := (ho2.2.1.1 a ha).ne
    simpa using fun e => this e.symm
  · intro a ha
    have := (ho2.2.2 a ha x (by simp)).ne
    simpa using this
/-- the names are turned -/
theorem RT.named (h : RT w b g1 g2 v size sl ns) {v' : Value} {ns' : List Nm} {w4 : World} (hk4 : Kp (fun q => v.ownBlock = some q) w w4) (ho : w4.ownsS 103 2 v' ns'.length (nmCells ns')) (hne : ∀ g, v'.ownBlock = some g → v.ownBlock = some g ∨ w.heap.size ≤ g) :
    RT (w4.setCell ⟨b, 3, none⟩ v') b g1 g2 v' size sl ns' ∧ Kp (fun q => q = b ∨ v.ownBlock = some q) w (w4.setCell ⟨b, 3, none⟩ v') := by
  obtain ⟨n1, n2, n3, n4⟩ := h.ne
  have hb4 : w4.heap[b]? = some (.cells #[.int .i64 (size : Nat), .slice (some ⟨g1, 0, none⟩) size size, .slice (some ⟨g2, 0, none⟩) size size, v] 99 (0, 0)) := (hk4.block b (Array.getElem?_eq_some_iff.1 h.main).1 (fun e => (n4 b e).1 rfl)).trans h.main
  have hk5 : Kp (fun q => q = b) w4 (w4.setCell ⟨b, 3, none⟩ v') := (Kp.refl _ w4).setCell _ _ (.inl rfl)
  have hbl := (Array.getElem?_eq_some_iff.1 h.main).1
  refine ⟨⟨(heap_setT hb4 v').trans rfl, ?_, ?_, hk5.rowS ho (fun g hg e => ?_)⟩, (hk4.mono fun q _ e => .inr e).trans' (hk5.mono fun q _ e => .inl e)⟩
  · exact (h.giv.kp hk4 (fun g hg e => (n4 g e).2.1 (by injection hg with hg; exact hg.symm))).kp hk5 (fun g hg e => n1 (by injection hg with hg; exact hg.trans e))
  · exact hk5.roww (hk4.roww h.on (fun g hg e => (n4 g e).2.2 (by injection hg with hg; exact hg.symm))) (fun g hg e => n2 (by injection hg with hg; exact hg.trans e))
  · rcases hne g hg with e2 | e2
    · exact (n4 g e2).1 e
    · omega
/-- the names are turned, else nothing -/
def XNmTo (b g1 g2 size : Nat) (v : Value) (sl : List Sg) (ns' : List Nm) (w w' : World) : Prop :=
  ∃ v', RT w' b g1 g2 v' size sl ns' ∧ Kp (fun q => q = b ∨ v.ownBlock = some q) w w' ∧ ∀ g, v'.ownBlock = some g → v.ownBlock = some g ∨ w.heap.size ≤ g
set_option maxRecDepth 100000 in
set_option maxHeartbeats 8000000 in
theorem xtunreg_ok (h : RT w b g1 g2 v size sl ns) (ho : ns.Pairwise NmLt) (hl : ns.length ≤ 64) {q : Nat} (hw : whose ns s = some q) :
    Calls Try.prog 32 #[.pointer (some ⟨b, 0, none⟩), .string s] w (fun e w' => e = .returned (.pointer none) ∧ XNmTo b g1 g2 size v sl (butFor ns s) w w') := by
  obtain ⟨i0, hi0, e0⟩ := List.getElem_of_mem (whose_some hw)
  have hx0 : ns[i0]? = some ⟨s, q⟩ := by rw [List.getElem?_eq_getElem hi0, e0]
  have hbf := butFor_at ho hx0
  simp only [] at hbf
  have hno : ∀ j x, j < i0 → ns[j]? = some x → x.txt ≠ s := by
    intro j x hj hx e
    obtain ⟨hjl, ej⟩ := List.getElem?_eq_some_iff.1 hx
    rw [List.pairwise_iff_getElem] at ho
    have := (ho j i0 hjl hi0 hj).ne
    rw [ej, e0] at this
    exact this e
  obtain ⟨-, -, -, c3, cf⟩ := h.facts
  obtain ⟨po, cap, rfl, hcap, hcap2⟩ := ownsS_form h.nms
  obtain ⟨g, cp, e1, -, -, -, -⟩ := h.ncell hx0
  obtain ⟨rfl, rfl⟩ : po = some ⟨g, 0, none⟩ ∧ cap = cp := by
    injection e1 with e1 _ e2
    exact ⟨e1, e2⟩
  obtain ⟨n, hn⟩ : ∃ n, ns.length = n := ⟨_, rfl⟩
  -- the append
  have hd : Kp (fun _ => False) w w.drew := (Kp.refl _ w).drew
  have hod := (h.same hd).nms
  have hil : (ns.take i0).length = i0 := by rw [List.length_take]; omega
  have hoc : w.drew.ownsS 103 2 (.slice (some ⟨g, 0, none⟩) i0 i0) (ns.take i0).length (nmCells (ns.take i0)) := by
    rw [hil, ← nmCells_take]
    exact ownsS_cut hod (j := i0) (by omega)
  obtain ⟨P, hP, hsrc⟩ : ∃ P : Option Addr, P = (if cap = i0 + 1 then some ⟨g, 0, none⟩ else some ⟨g, (i0 + 1) * 2, none⟩) ∧ (0 < (ns.drop (i0 + 1)).length → ∃ ad, P = some ad ∧ ∀ j u, (nmCells (ns.drop (i0 + 1)))[j]? = some u → w.drew.cell? (ad.add j) = some u) := by
    refine ⟨_, rfl, fun hp => ?_⟩
    rw [List.length_drop] at hp
    rw [if_neg (by omega)]
    exact ⟨_, rfl, n_rest hod (i0 + 1) rfl⟩
  obtain ⟨v', w4, hr, ho4, hk4, hat⟩ := n_app hoc P (cap - (i0 + 1)) (ns.drop (i0 + 1)) hsrc (by rw [List.length_take, List.length_drop]; omega)
  rw [← hbf] at ho4
  obtain ⟨po2, cap2, rfl, -, -⟩ := ownsS_form ho4
  have hat2 : ∀ k, (Value.slice po2 (butFor ns s).length cap2).ownBlock = some k → (Value.slice (some ⟨g, 0, none⟩) ns.length cap).ownBlock = some k ∨ w.heap.size ≤ k := hat
  have hX := (h.same hd).named (hk4.mono fun q _ e => e) ho4 hat2
  have hb4 : w4.heap[b]? = some (.cells #[.int .i64 (size : Nat), .slice (some ⟨g1, 0, none⟩) size size, .slice (some ⟨g2, 0, none⟩) size size, .slice (some ⟨g, 0, none⟩) ns.length cap] 99 (0, 0)) := (hk4.block b (Array.getElem?_eq_some_iff.1 h.main).1 (fun e => (h.ne.2.2.2 b (by rw [show (Value.slice (some ⟨g, 0, none⟩) ns.length cap).ownBlock = some g from rfl]; exact e)).1 rfl)).trans h.main
  have d3 : w4.cell? ⟨b, 3, none⟩ = some (.slice (some ⟨g, 0, none⟩) n cap) := by rw [cell_of_row w4 b 3 _ _ _ hb4, hn]; rfl
  have df : ∀ j, w4.frozen? ⟨b, j, none⟩ = false := fun j => by simp [World.frozen?, hb4]
  rw [List.length_drop, hn] at hr
  rw [hP] at hr
  have HX : Hid (∀ m, XNmTo b g1 g2 size (.slice (some ⟨g, 0, none⟩) ns.length cap) sl (butFor ns s) w ((w4.setCell ⟨b, 3, none⟩ (.slice po2 (butFor ns s).length cap2)).drewN m)) := Lib.hid (fun m => ⟨_, hX.1.same (kp_drewN (Kp.refl _ _) m), kp_drewN ((hd.mono fun _ _ e => e.elim).trans' hX.2) m, hat2⟩)
  have HR := Lib.hid hr
  have HT := Lib.hid (And.intro h (And.intro hno (And.intro hx0 hn)))
  rw [hn] at c3 hcap hl hi0
  have hic : i0 ≤ cap := by omega
  have hi1 : IntKind.i64.wrap ((i0 : Int) + 1) = ((i0 + 1 : Nat) : Int) := by rw [IntWalk.i64_in _ (by omega)]; rfl
  have hi2 : (i0 : Int) + 1 ≤ (n : Int) := by omega
  have hi4 : (0 : Int) ≤ (i0 : Int) + 1 := by omega
  have hi3 : i0 + 1 ≤ cap := by omega
  rw [hn] at HX ⊢
  clear h hw e0 hx0 hbf hno ho hn hd hod hil hoc hsrc hr ho4 hk4 hat hat2 hX hb4 hP e1
  go_enter Try.func32, Try.ntmps32
  go_wp2_with fail
  go_loopg [5] (i0 + 1) (fun gk s5 wr => ∃ i : Nat, i ≤ i0 ∧ gk = i0 + 1 - i ∧ s5 = .int .i64 (i : Nat) ∧ w = wr)
  case atStart => exact ⟨0, by omega, rfl, rfl, rfl⟩
  case round =>
    obtain ⟨i, hi, rfl, rfl, rfl⟩ := hrel
    have hli : (i : Int) < n := by omega
    by_cases hlt : i < i0
    · obtain ⟨x, hx⟩ : ∃ x, ns[i]? = some x := ⟨_, List.getElem?_eq_getElem (by rw [HT.out.2.2.2]; omega)⟩
      obtain ⟨g', cp', e1, -, -, d0, d1⟩ := HT.out.1.ncell hx
      obtain rfl : g = g' := by
        injection e1 with e1
        injection e1 with e1
        injection e1
      have hb := str_eq_false (HT.out.2.1 i x hlt hx)
      obtain ⟨T, hT⟩ : ∃ T, x.txt = T := ⟨_, rfl⟩
      rw [hT] at d0 hb
      clear hx e1 hT d3 df
      go_wp2_with fail
      go_roundg (i0 + 1 - (i + 1))
      case measure => omega
      case rel => exact ⟨i + 1, by omega, rfl, by go_num, rfl⟩
    · obtain rfl : i0 = i := by omega
      obtain ⟨g', cp', e1, -, -, d0, d1⟩ := HT.out.1.ncell HT.out.2.2.1
      obtain rfl : g = g' := by
        injection e1 with e1
        injection e1 with e1
        injection e1
      clear e1 d1 hlt hi
      go_wp2_with fail
      go_region_law (refine step_run (by rfl) (.tmp 32) (.tmp 39) 97 (by rfl) (.slice (some ⟨g, 0, none⟩) i0 i0) (.slice (if cap = i0 + 1 then some ⟨g, 0, none⟩ else some ⟨g, (i0 + 1) * 2, none⟩) (n - (i0 + 1)) (cap - (i0 + 1))) (by first | (simp [Act.eval]; done) | simp [Act.eval, Act.put]) (by first | (simp [Act.eval]; done) | simp [Act.eval, Act.put]) _ _ HR.out ?_)
      all_goals go_wp2_with fail
      all_goals go_ret
      all_goals exact ⟨rfl, HX.out 0⟩
set_option maxRecDepth 100000 in
set_option maxHeartbeats 4000000 in
theorem xtunreg_bad (h : RT w b g1 g2 v size sl ns) (hl : ns.length ≤ 64) (hs : s.size ≤ maxLen) (hw : whose ns s = none) :
    Calls Try.prog 32 #[.pointer (some ⟨b, 0, none⟩), .string s] w (XBad w (fun v => v) [Lk.fault ⟨#[110, 97, 109, 101]⟩ (s.size : Nat), Lk.kind 3]) := by
  obtain ⟨-, -, -, c3, -⟩ := h.facts
  obtain ⟨po, cap, rfl, hcap, hcap2⟩ := ownsS_form h.nms
  obtain ⟨n, hn⟩ : ∃ n, ns.length = n := ⟨_, rfl⟩
  have HN := Lib.hid (And.intro hn (whose_none hw))
  obtain ⟨V, hV⟩ : ∃ V, Value.slice po ns.length cap = V := ⟨_, rfl⟩
  rw [hV] at h
  have HV := Lib.hid hV
  have HT := Lib.hid h
  have HB := Lib.hid (xbad1 w (fun v => v) ⟨#[110, 97, 109, 101]⟩ (s.size : Nat) 3 0)
  rw [hn] at c3 hcap hl
  have hsz : (s.size : Int) ≤ 9223372036854775807 := by unfold maxLen at hs; omega
  clear h hn hV hw
  go_enter Try.func32, Try.ntmps32
  go_wp2_with fail
  go_loopg [5] n (fun gk s5 wr => ∃ i : Nat, i ≤ n ∧ gk = n - i ∧ s5 = .int .i64 (i : Nat) ∧ w = wr)
  case atStart => exact ⟨0, by omega, rfl, rfl, rfl⟩
  case round =>
    obtain ⟨i, hi, rfl, rfl, rfl⟩ := hrel
    by_cases hlt : i < n
    · have hli : (i : Int) < n := by omega
      obtain ⟨x, hx⟩ : ∃ x, ns[i]? = some x := ⟨_, List.getElem?_eq_getElem (by rw [HN.out.1]; exact hlt)⟩
      obtain ⟨g, cp, e1, -, -, d0, d1⟩ := HT.out.ncell hx
      rw [← HV.out] at e1
      obtain ⟨rfl, rfl⟩ : po = some ⟨g, 0, none⟩ ∧ cap = cp := by
        injection e1 with e1 _ e2
        exact ⟨e1, e2⟩
      have hb := str_eq_false (HN.out.2 x (List.mem_of_getElem? hx))
      obtain ⟨T, hT⟩ : ∃ T, x.txt = T := ⟨_, rfl⟩
      rw [hT] at d0 hb
      clear hx e1 hT
      go_wp2_with fail
      go_roundg (n - (i + 1))
      case measure => omega
      case rel => exact ⟨i + 1, by omega, rfl, by go_num, rfl⟩
    · obtain rfl : n = i := by omega
      go_wp2_with (first | (go_at_call 47; refine (k_any _ _).mono ?_; rintro e w1 ⟨rfl, rfl⟩) | (go_at_call 46; refine (f14_any _ _ _ _).mono ?_; rintro e w1 ⟨rfl, rfl⟩))
      go_ret
      exact HB.out
end
end Go.Proofs.Ytdcmdidikengbaa
