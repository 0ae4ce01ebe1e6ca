/- The document's own table: Drop. -/
import Derived.Test.YtdcmdidikengbaaTbRef7
namespace Go.Proofs.Ytdcmdidikengbaa
open Go.RowKit
set_option linter.unusedVariables false

section
variable {F : Nat → Prop} {w w' : World} {b g1 g2 size B : Nat} {v : Value} {sl : List Sg} {ns : List Nm} {s : ByteArray}
theorem dropAt_given {k j : Nat} : givenAt (dropAt sl k) j = givenAt sl j := by
  unfold dropAt givenAt
  cases hs : sl[k]? with
  | none => rfl
  | some s =>
    simp only []
    by_cases e : j = k
    · subst e
      rw [List.getElem?_set_self (List.getElem?_eq_some_iff.1 hs).1, hs]
    · rw [List.getElem?_set_ne (fun e2 => e e2.symm)]
theorem dropAt_on {k j : Nat} {s : Sg} (hs : sl[k]? = some s) : onAt (dropAt sl k) j = if j = k then false else onAt sl j := by
  unfold dropAt onAt
  rw [hs]
  simp only []
  by_cases e : j = k
  · subst e
    rw [if_pos rfl, List.getElem?_set_self (List.getElem?_eq_some_iff.1 hs).1]
  · rw [if_neg e, List.getElem?_set_ne (fun e2 => e e2.symm)]
theorem n_push {u : Value} {us : List Nm} (ho : w.ownsS 103 2 u us.length (nmCells us)) (x : Nm) (hlen : us.length + 1 ≤ 4096) :
    ∃ v' w', (Builtin.append_ #[97, 97] 97 #[u, .slice (some ⟨w.heap.size, 0, none⟩) 1 1]).run Try.prog (w.alloc (.cells #[.string x.txt, .int .i64 (x.pid : Nat)] 103)) = .ok v' w' ∧
      w'.ownsS 103 2 v' (us ++ [x]).length (nmCells (us ++ [x])) ∧ Kp (fun q => u.ownBlock = some q) w w' ∧ ∀ g, v'.ownBlock = some g → u.ownBlock = some g ∨ w.heap.size ≤ g := by
  obtain ⟨w1, hw1⟩ : ∃ w1, w.alloc (.cells #[.string x.txt, .int .i64 (x.pid : Nat)] 103) = w1 := ⟨_, rfl⟩
  have hk1 : Kp (fun _ => False) w w1 := by rw [← hw1]; exact (Kp.refl _ w).alloc _
  have hz1 : w1.heap.size = w.heap.size + 1 := by rw [← hw1]; simp
  have hc : w1.heap[w.heap.size]? = some (.cells #[.string x.txt, .int .i64 (x.pid : Nat)] 103 (0, 0)) := by rw [← hw1]; exact heap_alloc_new w _
  obtain ⟨v', w', e1, e2, e3, e4⟩ := n_app (hk1.rowS ho (fun _ _ e => e)) (some ⟨w.heap.size, 0, none⟩) 1 [x] (fun _ => ⟨_, rfl, fun j u hj => by
    rw [Go.WideShapes.add_plain, Nat.zero_add, cell_of_row w1 _ _ _ _ _ hc, ← hj]
    simp [nmCells]⟩) (by simpa using hlen)
  rw [hw1]
  exact ⟨v', w', e1, e2, (hk1.mono fun _ _ e => e.elim).trans' e3, fun g hg => (e4 g hg).imp id (fun e => by omega)⟩
set_option maxRecDepth 100000 in
set_option maxHeartbeats 4000000 in
theorem xtdrop_bad (h : RT w b g1 g2 v size sl ns) (hok : SlOk B sl) (hB : B ≤ 2305843009213693952) (hfit : sl.length ≤ size) (hs64 : size ≤ 64) (p : Int) (hp2 : p ≤ 9223372036854775807) (hk : kindAt sl p ≠ 0) :
    Calls Try.prog 27 #[.pointer (some ⟨b, 0, none⟩), .int .i64 p] w (XBad w (fun v => .tuple #[.slice none 0 0, v]) [Lk.fault ⟨#[100, 114, 111, 112]⟩ (slotAt p), Lk.kind (kindAt sl p)]) := by
  have HK := xkind_any h hok hB hfit hs64 p hp2
  have HS := xtslot_any p w
  have HB := Lib.hid (xbad1 w (fun v => .tuple #[.slice none 0 0, v]) ⟨#[100, 114, 111, 112]⟩ (slotAt p) (kindAt sl p) 0)
  clear h hok
  obtain ⟨s, hs⟩ : ∃ s, slotAt p = s := ⟨_, rfl⟩
  rw [hs] at HS HB ⊢
  clear hs
  rcases kindAt_cases sl p with hk2 | hk2 | hk2
  · exact absurd hk2 hk
  all_goals
    rw [hk2] at HK HB ⊢
    clear hk hk2
    go_enter Try.func27, Try.ntmps27
    go_wp2_with (first | (go_at_call 49; refine HK.mono ?_; rintro e w' ⟨rfl, rfl⟩) | (go_at_call 50; refine HS.mono ?_; rintro e w' ⟨rfl, rfl⟩) | (go_at_call 47; refine (k_any _ _).mono ?_; rintro e w1 ⟨rfl, rfl⟩) | (go_at_call 46; refine (f14_any _ _ _ _).mono ?_; rintro e w1 ⟨rfl, rfl⟩))
    go_ret2
    exact HB.out
theorem RT.lt (h : RT w b g1 g2 v size sl ns) : b < w.heap.size ∧ g1 < w.heap.size ∧ g2 < w.heap.size ∧ ∀ g, v.ownBlock = some g → g < w.heap.size := by
  exact ⟨(Array.getElem?_eq_some_iff.1 h.main).1, h.giv.lt g1 rfl, (ownsW_lt h.on g2 rfl).2, ownsS_lt h.nms⟩
theorem sw_ne_n {u r : Value} {l : List ByteArray} {us : List Nm} (h1 : Sw w u l) (h2 : w.ownsS 103 2 r us.length (nmCells us)) : ∀ g, u.ownBlock = some g → r.ownBlock ≠ some g := by
  intro g hg e
  rcases h1.2 with ⟨e1, _⟩ | ⟨g', cap, cur, e1, _, hgg, _⟩
  · rw [e1] at hg; cases hg
  · rcases h2.2 with ⟨e2, _⟩ | ⟨g2, cap2, cur2, e2, hgg2, _⟩
    · rw [e2] at e; cases e
    · rw [e1] at hg
      rw [e2] at e
      have e3 : g' = g := by injection hg
      have e4 : g2 = g := by injection e
      subst e3
      subst e4
      rw [hgg] at hgg2
      injection hgg2 with hgg2; injection hgg2 with _ hgg2; exact absurd hgg2 (by decide)
/-- as far as Drop has come -/
structure XDr (b g1 g2 size : Nat) (v : Value) (sl : List Sg) (ns : List Nm) (p : Nat) (w4 wr : World) (i : Nat) (u r : Value) : Prop where
  rt : RT wr b g1 g2 v size sl ns
  ur : Sw wr u (txts (ofPid (ns.take i) p))
  rr : wr.ownsS 103 2 r (without (ns.take i) p).length (nmCells (without (ns.take i) p))
  newu : ∀ g, u.ownBlock = some g → w4.heap.size ≤ g
  newr : ∀ g, r.ownBlock = some g → w4.heap.size ≤ g
  kp : Kp (fun _ => False) w4 wr
def XDropTo (b g1 g2 size : Nat) (v : Value) (sl : List Sg) (ns : List Nm) (p : Nat) (w : World) (e : Ending) (w' : World) : Prop :=
  ∃ u v', e = .returned (.tuple #[u, .pointer none]) ∧ Sw w' u (txts (ofPid ns p)) ∧ (∀ g, u.ownBlock = some g → w.heap.size ≤ g) ∧ RT w' b g1 g2 v' size (dropAt sl (p % 64)) (without ns p) ∧ (∀ g, v'.ownBlock = some g → w.heap.size ≤ g ∧ u.ownBlock ≠ some g) ∧ Kp (fun q => q = b ∨ q = g2) w w'
set_option maxRecDepth 100000 in
set_option maxHeartbeats 8000000 in
theorem xtdrop_ok (h : RT w b g1 g2 v size sl ns) (hok : SlOk B sl) (hB : B ≤ 2305843009213693952) (hfit : sl.length ≤ size) (hs64 : size ≤ 64) (hl : ns.length ≤ 64) (p : Nat) (hp2 : (p : Int) ≤ 9223372036854775807) (hk : kindAt sl (p : Nat) = 0) :
    Calls Try.prog 27 #[.pointer (some ⟨b, 0, none⟩), .int .i64 (p : Nat)] w (XDropTo b g1 g2 size v sl ns p w) := by
  have HK := xkind_any h hok hB hfit hs64 (p : Nat) hp2
  rw [hk] at HK
  obtain ⟨s, -, hs, he, hon⟩ := kindAt_live.1 hk
  rw [slotAt_nat, Int.toNat_natCast] at hs
  obtain ⟨k, hkk⟩ : ∃ k, p % 64 = k := ⟨_, rfl⟩
  rw [hkk] at hs
  have hks : k < size := by have := (List.getElem?_eq_some_iff.1 hs).1; omega
  have HS : ∀ w : World, Calls Try.prog 50 #[.int .i64 (p : Nat)] w fun e w' => e = .returned (.int .i64 (k : Nat)) ∧ w' = w := fun w => (xtslot_any (p : Nat) w).mono (fun e w' ⟨h1, h2⟩ => ⟨by rw [h1, slotAt_nat, hkk], h2.symm⟩)
  obtain ⟨c0, c1, c2, c3, cf⟩ := h.facts
  have d_o := h.ocell hks
  have f2 := h.fz2
  obtain ⟨n1, n2, n3, n4⟩ := h.ne
  obtain ⟨a1, kk1⟩ := bools_set h.on k false
  obtain ⟨w4, hw4⟩ : ∃ w4, (w.setCell ⟨g2, k, none⟩ (.bool false)).drew = w4 := ⟨_, rfl⟩
  have hk4 : Kp (fun q => q = g2) w w4 := by rw [← hw4]; exact kk1.drew
  have hrt4 : RT w4 b g1 g2 v size (dropAt sl k) ns := by
    refine ⟨(hk4.block b (Array.getElem?_eq_some_iff.1 h.main).1 (fun e => n2 e.symm)).trans h.main, ?_, ?_, hk4.rowS h.nms (fun g hg e => (n4 g hg).2.2 e)⟩
    · have hg : givenL size (dropAt sl k) = givenL size sl := by unfold givenL; exact List.map_congr_left (fun j _ => by rw [dropAt_given])
      rw [hg]
      exact h.giv.kp hk4 (fun g hg e => n3 (by injection hg with hg; exact hg.trans e))
    · rw [onL_set (sl' := dropAt sl k) (fun j _ => dropAt_on hs), onL_len] at a1
      rw [← hw4, onL_len]
      exact ((Kp.refl (fun _ => False) _).drew).roww a1 (fun _ _ e => e)
  have hki : (k : Int) < size := by omega
  have hz4 := hk4.size
  obtain ⟨po, cap, rfl, hcap, hcap2⟩ := ownsS_form h.nms
  obtain ⟨n, hn⟩ : ∃ n, ns.length = n := ⟨_, rfl⟩
  obtain ⟨V, hV⟩ : ∃ V, Value.slice po ns.length cap = V := ⟨_, rfl⟩
  rw [hV] at hrt4
  have HV := Lib.hid hV
  have HRT := Lib.hid hrt4
  have HN := Lib.hid (And.intro hn (And.intro hl (And.intro hkk (And.intro hk4 (And.intro n1 (And.intro n2 n3))))))
  have HW4 := Lib.hid hw4
  rw [hn] at hcap hl c3
  clear h hok hk hs he hon hkk hrt4 hk4 hw4 a1 kk1 hn hV n4
  go_enter Try.func27, Try.ntmps27
  go_wp2_with (go_at_call 49; refine HK.mono ?_; rintro e w' ⟨rfl, rfl⟩)
  go_region_with (go_at_call 50; refine (HS _).mono ?_; rintro e w' ⟨rfl, rfl⟩)
  all_goals
    rw [HW4.out]
    have HD0 : Hid (XDr b g1 g2 size V (dropAt sl k) ns p w4 w4 0 (.slice none 0 0) (.slice none 0 0)) := Lib.hid ⟨HRT.out, Sw.nil _, ownsS_nil _ _ _, fun g hg => (by cases hg), fun g hg => (by cases hg), Kp.refl _ _⟩
    clear c1 c2 c3 cf d_o f2 HS
    go_wp2_with fail
    go_loopg [7, 8, 9] n (fun gk s7 s8 s9 wr => ∃ (i : Nat) (u r : Value), i ≤ n ∧ gk = n - i ∧ s7 = u ∧ s8 = r ∧ s9 = .int .i64 (i : Nat) ∧ Hid (XDr b g1 g2 size V (dropAt sl k) ns p w4 wr i u r))
    case atStart => exact ⟨0, _, _, by omega, rfl, rfl, rfl, rfl, HD0⟩
    case round =>
      obtain ⟨i, u, r, hi, rfl, hu, hr, rfl, HX⟩ := hrel
      obtain rfl := hu.symm
      obtain rfl := hr.symm
      clear HD0
      obtain ⟨-, -, -, c3, cf⟩ := HX.out.rt.facts
      rw [← HV.out, HN.out.1] at c3
      by_cases hlt : i < n
      · have hli : (i : Int) < n := by omega
        obtain ⟨x, hx⟩ : ∃ x, ns[i]? = some x := ⟨_, List.getElem?_eq_getElem (by rw [HN.out.1]; exact hlt)⟩
        have htk : ns.take (i + 1) = ns.take i ++ [x] := by rw [List.take_add_one, hx]; rfl
        obtain ⟨g, cp, e1, -, -, d0, d1⟩ := HX.out.rt.ncell hx
        rw [← HV.out] at e1
        obtain ⟨rfl, rfl⟩ : po = some ⟨g, 0, none⟩ ∧ cap = cp := by
          injection e1 with e1 _ e2
          exact ⟨e1, e2⟩
        have hwn := without_snoc (ns.take i) x p
        have hop := ofPid_snoc (ns.take i) x p
        rw [← htk] at hwn hop
        have hX := HX.out
        obtain ⟨l1, l2, l3, l4⟩ := HRT.out.lt
        have hlu : (txts (ofPid (ns.take i) p)).length ≤ 64 := by
          unfold txts; rw [List.length_map]
          have h1 : (ofPid (ns.take i) p).length ≤ (ns.take i).length := List.length_filter_le _ _
          rw [List.length_take] at h1; omega
        have hlr : (without (ns.take i) p).length ≤ 64 := by
          have h1 : (without (ns.take i) p).length ≤ (ns.take i).length := List.length_filter_le _ _
          rw [List.length_take] at h1; omega
        have hsep := sw_ne_n hX.ur hX.rr
        have hzk := hX.kp.size
        by_cases hxp : x.pid = p
        · rw [if_pos hxp] at hwn hop
          obtain ⟨g3, cap3, w5, hr5, ho5, hk5, hg5, hl5⟩ := texts_push hX.ur (by omega) (by omega) x.txt
          rw [show txts (ofPid (ns.take i) p) ++ [x.txt] = txts (ofPid (ns.take (i + 1)) p) from by rw [hop]; simp [txts]] at ho5
          have H5 : Hid (XDr b g1 g2 size V (dropAt sl k) ns p w4 w5 (i + 1) (.slice (some ⟨g3, 0, none⟩) ((txts (ofPid (ns.take i) p)).length + 1) cap3) r) := by
            refine Lib.hid ⟨hX.rt.kp hk5 (fun e => by have := hX.newu _ e; omega) (fun e => by have := hX.newu _ e; omega) (fun e => by have := hX.newu _ e; omega) (fun q hq e => by have := hX.newu _ e; have := l4 q hq; omega), ho5, by rw [hwn]; exact hk5.rowS hX.rr (fun q hq e => hsep q e hq), fun q hq => ?_, hX.newr, hX.kp.trans (hk5.mono fun q hq e => .inr ⟨hX.newu q e, hq⟩)⟩
            have e : g3 = q := by injection hq
            subst e
            rcases hg5 with e | e
            · exact hX.newu _ e
            · omega
          have HR5 := Lib.hid hr5
          obtain ⟨W3, hW3⟩ : ∃ y, Value.slice (some ⟨g3, 0, none⟩) ((txts (ofPid (ns.take i) p)).length + 1) cap3 = y := ⟨_, rfl⟩
          rw [hW3] at H5 HR5
          obtain ⟨T, hT⟩ : ∃ T, x.txt = T := ⟨_, rfl⟩
          obtain ⟨P, hP⟩ : ∃ P, x.pid = P := ⟨_, rfl⟩
          rw [hT] at d0 HR5
          rw [hP] at d1
          have hb : (((P : Nat) : Int) == (p : Nat)) = true := by rw [beq_iff_eq]; omega
          clear hx htk e1 hwn hop hX hlu hlr hsep hzk hxp hr5 ho5 hk5 hg5 hl5 hW3 hT hP l1 l2 l3 l4
          go_wp2_with (at_builtin; refine wpList_run rfl _ _ 32 rfl u (.slice (some ⟨wr.heap.size, 0, none⟩) 1 1) rfl rfl _ w5 HR5.out ?_)
          go_roundg (n - (i + 1))
          case measure => omega
          case rel => exact ⟨i + 1, _, _, by omega, rfl, rfl, rfl, by go_num, H5⟩
        · rw [if_neg hxp] at hwn hop
          obtain ⟨r5, w5, hr5, ho5, hk5, hat5⟩ := n_push hX.rr x (by omega)
          rw [← hwn] at ho5
          have H5 : Hid (XDr b g1 g2 size V (dropAt sl k) ns p w4 w5 (i + 1) u r5) := by
            refine Lib.hid ⟨hX.rt.kp hk5 (fun e => by have := hX.newr _ e; omega) (fun e => by have := hX.newr _ e; omega) (fun e => by have := hX.newr _ e; omega) (fun q hq e => by have := hX.newr _ e; have := l4 q hq; omega), by rw [hop]; exact hX.ur.kp hk5 (fun q hq e => hsep q hq e), ho5, hX.newu, fun q hq => ?_, hX.kp.trans (hk5.mono fun q hq e => .inr ⟨hX.newr q e, hq⟩)⟩
            rcases hat5 q hq with e | e
            · exact hX.newr _ e
            · omega
          have HR5 := Lib.hid hr5
          obtain ⟨T, hT⟩ : ∃ T, x.txt = T := ⟨_, rfl⟩
          obtain ⟨P, hP⟩ : ∃ P, x.pid = P := ⟨_, rfl⟩
          rw [hT] at d0 HR5
          rw [hP] at d1 HR5
          have hb : (((P : Nat) : Int) == (p : Nat)) = false := by rw [beq_eq_false_iff_ne]; omega
          clear hx htk e1 hwn hop hX hlu hlr hsep hzk hxp hr5 ho5 hk5 hat5 hT hP l1 l2 l3 l4
          go_wp2_with (at_builtin; refine wpList_run rfl _ _ 97 rfl r (.slice (some ⟨wr.heap.size, 0, none⟩) 1 1) rfl rfl _ w5 HR5.out ?_)
          go_roundg (n - (i + 1))
          case measure => omega
          case rel => exact ⟨i + 1, _, _, by omega, rfl, rfl, rfl, by go_num, H5⟩
      · obtain rfl : n = i := by omega
        have hX := HX.out
        obtain ⟨l1, l2, l3, l4⟩ := HRT.out.lt
        have hur := hX.ur
        have hrr := hX.rr
        rw [List.take_of_length_le (by rw [HN.out.1]; exact Nat.le_refl _)] at hur hrr
        obtain ⟨pr, cr, hrf, -, -⟩ := ownsS_form hrr
        subst hrf
        have hn := HRT.out.named (v' := .slice pr (without ns p).length cr) (w4 := wr) (ns' := without ns p) (hX.kp.mono fun _ _ e => e.elim) hrr (fun g hg => .inr (hX.newr g hg))
        have hk5 : Kp (fun q => q = b) wr (wr.setCell ⟨b, 3, none⟩ (.slice pr (without ns p).length cr)) := (Kp.refl _ wr).setCell _ _ (.inl rfl)
        have hsep := sw_ne_n hur hrr
        have HE : Hid (XDropTo b g1 g2 size (.slice po ns.length cap) sl ns p w (.returned (.tuple #[u, .pointer none])) (wr.setCell ⟨b, 3, none⟩ (.slice pr (without ns p).length cr))) := by
          refine Lib.hid ⟨u, _, rfl, hur.kp hk5 (fun g hg e => by have := hX.newu g hg; omega), fun g hg => by have := hX.newu g hg; omega, by rw [HN.out.2.2.1]; exact hn.1, fun g hg => ⟨by have := hX.newr g hg; omega, fun e => hsep g e hg⟩, ?_⟩
          exact ((HN.out.2.2.2.1.mono fun q _ e => .inr e).trans' (hX.kp.mono fun _ _ e => e.elim)).trans' (hk5.mono fun q _ e => .inl e)
        clear hX hur hrr hn hk5 hsep l1 l2 l3 l4
        go_wp2_with fail
        go_ret2
        exact HE.out
end
end Go.Proofs.Ytdcmdidikengbaa
