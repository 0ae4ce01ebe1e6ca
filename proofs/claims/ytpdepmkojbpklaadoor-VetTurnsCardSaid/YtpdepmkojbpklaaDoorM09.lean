/- Right of any term. -/
import Derived.Test.YtpdepmkojbpklaaDoorM07
import Derived.Test.YtpdepmkojbpklaaDoorM08
import Derived.LoopN
/- Right of any term. -/
namespace Go.Proofs.YtpdepmkojbpklaaDoor
open Go.RowKit

def termS : ByteArray := ⟨#[116, 101, 114, 109]⟩
def gCells (n t : Int) : Obj := .cells #[.int .i64 n, .int .i64 t] 110

/-- a part is counted, and it is too many or too deep -/
theorem meet_bad (b : Nat) (n t d k : Int) (w : World) (h : w.heap[b]? = some (gCells n t)) (hn : 0 ≤ n) (hn2 : n ≤ 1048576) (ht : 0 ≤ t) (ht2 : t ≤ 1048576) (_hd : d ≤ 1048576) (hk : 0 ≤ k) (hk2 : k ≤ 140737488351232) (hs : 65536 < t + (1 + k) ∨ 200 < d) :
    Calls Tryd.prog 59 #[.pointer (some ⟨b, 0, none⟩), .int .i64 d, .int .i64 k] w fun e w' => (∃ v, e = .returned v ∧ ChainB w.heap.size w' v [Lk.fault termS n, Lk.kind 2]) ∧ Kp (fun q => q = b) w w' := by
  unfold gCells at h
  have hb := (Array.getElem?_eq_some_iff.1 h).1
  have c0 : w.cell? ⟨b, 0, none⟩ = some (.int .i64 n) := by rw [cell_of_row w b 0 _ _ _ h]; rfl
  have c1 : w.cell? ⟨b, 1, none⟩ = some (.int .i64 t) := by rw [cell_of_row w b 1 _ _ _ h]; rfl
  have f0 : ∀ j, w.frozen? ⟨b, j, none⟩ = false := fun j => by simp [World.frozen?, h]
  have H := Lib.hid (And.intro h hb)
  clear h hb
  have fin : ∀ W, Kp (fun q => q = b) w W → W.heap.size = w.heap.size →
      (∃ v, (Ending.returned (.iface 64 (.pointer (some ⟨w.heap.size, 0, none⟩)))) = .returned v ∧ ChainB w.heap.size (W.alloc (.cells #[.string termS, .int .i64 n, .iface 42 (.int .i64 2)] 66)) v [Lk.fault termS n, Lk.kind 2]) ∧
      Kp (fun q => q = b) w (W.alloc (.cells #[.string termS, .int .i64 n, .iface 42 (.int .i64 2)] 66)) :=
    fun W hk hz => ⟨⟨_, rfl, ChainB.cons termS n (ChainB.root _ _ (by decide)) (Nat.le_refl _) (by rw [← hz]; exact heap_alloc_new W _)⟩, hk.alloc _⟩
  have Hf := Lib.hid fin
  clear fin
  by_cases hs1 : 65536 < t + (1 + k)
  · clear hs
    go_enter Tryd.func59, Tryd.ntmps59
    go_wp2_with (go_at_call 21; refine (at_any _ _ _ _ _).mono ?_; rintro e w' ⟨rfl, rfl⟩)
    go_ret
    exact Hf.out ((w.setCell ⟨b, 0, none⟩ _).setCell ⟨b, 1, none⟩ _) (((Kp.refl (fun q => q = b) w).setCell _ _ (.inl rfl)).setCell _ _ (.inl rfl)) (by simp [World.setCell])
  · have hs2 : 200 < d := by omega
    clear hs
    go_enter Tryd.func59, Tryd.ntmps59
    go_wp2_with (go_at_call 21; refine (at_any _ _ _ _ _).mono ?_; rintro e w' ⟨rfl, rfl⟩)
    go_ret
    exact Hf.out ((w.setCell ⟨b, 0, none⟩ _).setCell ⟨b, 1, none⟩ _) (((Kp.refl (fun q => q = b) w).setCell _ _ (.inl rfl)).setCell _ _ (.inl rfl)) (by simp [World.setCell])

/-- how many parts a term of a height below h has, each byte one too -/
def tsz : Nat → Tm → Nat
  | 0, _ => 0
  | h + 1, .mk _ _ _ it re bys => 1 + bys.length + (it.map (tsz h)).sum + (re.map (tsz h)).sum
/-- all parts have just the fields of their kinds, and none is deeper than d -/
def tok : Nat → Tm → Prop
  | 0, _ => False
  | d + 1, .mk k n s it re bys => fitsB (.mk k n s it re bys) = true ∧ (∀ t ∈ it, tok d t) ∧ ∀ t ∈ re, tok d t
theorem sum_take_succ {α : Type} (f : α → Nat) {l : List α} {j : Nat} {x : α} (h : l[j]? = some x) : ((l.take (j + 1)).map f).sum = ((l.take j).map f).sum + f x := by
  rw [List.take_add_one, h]
  simp

/-- the post of right: no error, and the gauge goes on; or an error -/
def Righted (w : World) (b h : Nat) (t d : Int) (T : Tm) (e : Ending) (w' : World) : Prop :=
  (e = .returned .nilIface ∧ tok (201 - d).toNat T ∧ (∃ n t' : Int, w'.heap[b]? = some (gCells n t') ∧ 0 ≤ n ∧ n ≤ t' ∧ t' ≤ 65536 ∧ t' = t + tsz h T) ∧ Kp (fun q => q = b) w w') ∨
  (∃ v n k, e = .returned v ∧ ChainB w.heap.size w' v [Lk.fault termS n, Lk.kind k] ∧ Kp (fun q => q = b) w w' ∧ ¬ (tok (201 - d).toNat T ∧ t + tsz h T ≤ 65536))
theorem tok_none (d : Int) (h : 200 < d) (T : Tm) : ¬ tok (201 - d).toNat T := by rw [show (201 - d).toNat = 0 by omega]; exact fun e => e
theorem tok_parts {d : Int} (hd : d ≤ 200) {k n : Int} {s : ByteArray} {it re : List Tm} {bys : List UInt8} (h : tok (201 - d).toNat (.mk k n s it re bys)) : fitsB (.mk k n s it re bys) = true ∧ (∀ t ∈ it, tok (200 - d).toNat t) ∧ ∀ t ∈ re, tok (200 - d).toNat t := by
  rwa [show (201 - d).toNat = (200 - d).toNat + 1 by omega] at h
theorem sum_take_le {α : Type} (f : α → Nat) : ∀ (l : List α) (j : Nat), ((l.take j).map f).sum ≤ (l.map f).sum
  | [], _ => by simp
  | _ :: _, 0 => by simp
  | x :: l, j + 1 => by
    have := sum_take_le f l j
    rw [List.take_succ_cons, List.map_cons, List.map_cons, List.sum_cons, List.sum_cons]
    omega
theorem sum_take_le1 {α : Type} (f : α → Nat) {l : List α} {j : Nat} {x : α} (h : l[j]? = some x) : ((l.take j).map f).sum + f x ≤ (l.map f).sum := by
  rw [← sum_take_succ f h]
  exact sum_take_le f l _

def RightIs (h : Nat) : Prop := ∀ (F : Nat → Prop) (T : Tm) (w : World) (cs : List Value) (b : Nat) (n t d : Int), TermAt F w h T cs → w.heap[b]? = some (gCells n t) →
  0 ≤ n → n ≤ t → t ≤ 65536 → 1 ≤ d → d ≤ 201 → (∀ q, F q → q ≠ b) →
  Calls Tryd.prog 48 #[.pointer (some ⟨b, 0, none⟩), .agg cs.toArray, .int .i64 d] w (Righted w b h t d T)

set_option maxRecDepth 100000 in
set_option maxHeartbeats 2000000 in
theorem right_succ {h : Nat} (ih : RightIs h) : RightIs (h + 1) := by
  intro F T w cs b n t d hT hg hn hnt ht hd1 hd2 hFb
  have hT' := hT
  obtain ⟨k, tn, s, it, re, bys⟩ := T
  obtain ⟨vi, vr, vb, rfl, hbd, h1, h2, h3⟩ := hT
  obtain ⟨p1, c1, rfl, hcap1, hl1, hel1⟩ := h1
  obtain ⟨p2, c2, rfl, hcap2, hl2, hel2⟩ := h2
  obtain ⟨p3, c3, rfl, hcap3, hl3, hel3⟩ := h3
  have hbl := (Array.getElem?_eq_some_iff.1 hg).1
  obtain ⟨w1, hw1⟩ : ∃ w1, w.alloc (.cells #[.int .i64 k, .int .i64 tn, .string s, .slice p1 it.length c1, .slice p2 re.length c2, .slice p3 bys.length c3] 35) = w1 := ⟨_, rfl⟩
  have hk1 : Kp (fun _ => False) w w1 := by rw [← hw1]; exact (Kp.refl _ w).alloc _
  have hr0 : w1.heap[w.heap.size]? = some (.cells #[.int .i64 k, .int .i64 tn, .string s, .slice p1 it.length c1, .slice p2 re.length c2, .slice p3 bys.length c3] 35 (0, 0)) := by rw [← hw1]; exact heap_alloc_new w _
  have hg1 : w1.heap[b]? = some (gCells n t) := (hk1.block b hbl (fun e => e)).trans hg
  have g0 : w1.cell? ⟨b, 0, none⟩ = some (.int .i64 n) := by rw [cell_of_row w1 b 0 _ _ _ hg1]; rfl
  have l5 : w1.cell? ⟨w.heap.size, 5, none⟩ = some (.slice p3 bys.length c3) := by rw [cell_of_row w1 _ 5 _ _ _ hr0]; rfl
  have H1 := Lib.hid (And.intro hk1 (And.intro hr0 (And.intro hg1 (And.intro hT' (And.intro ih (And.intro hel1 (And.intro hel2 hFb)))))))
  clear hk1 hr0 hg1 hT' ih hel1 hel2 hel3 hg hbd hFb
  have hne : w.heap.size ≠ b := by omega
  go_enter Tryd.func48, Tryd.ntmps48
  go_wp2_with fail
  clear hw1
  obtain ⟨hk1, hr0, hg1, hT', _⟩ := H1.out
  by_cases hbad : 65536 < t + (1 + (bys.length : Int)) ∨ 200 < d
  · refine (meet_bad b n t d _ w1 hg1 hn (by omega) (by omega) (by omega) (by omega) (by omega) (by omega) hbad).mono ?_
    rintro e w2 ⟨⟨v, rfl, hch⟩, hk2⟩
    obtain ⟨gv, rfl⟩ := hch.out.form
    have Hf := Lib.hid (And.intro (hch.le hk1.size) ((hk1.mono fun _ _ e => e.elim).trans' hk2))
    clear hch hk2 hk1 hr0 hg1 hT' g0 l5
    go_wp2_with fail
    go_ret
    refine .inr ⟨_, _, _, rfl, Hf.out.1, Hf.out.2, fun hx => ?_⟩
    rcases hbad with hb1 | hb1
    · have := hx.2
      rw [show tsz (h + 1) (.mk k tn s it re bys) = 1 + bys.length + (it.map (tsz h)).sum + (re.map (tsz h)).sum from rfl] at this
      omega
    · exact tok_none d hb1 _ hx.1
  · refine (meet_ok b n t d _ w1 hg1 hn (by omega) (by omega) (by omega) (by omega) (by omega)).mono ?_
    rintro e w2 ⟨rfl, hg2, hk2⟩
    have hz1 := (Array.getElem?_eq_some_iff.1 hr0).1
    have hr2 := (hk2.block _ hz1 hne).trans hr0
    have hT2 : TermAt F w2 (h + 1) (.mk k tn s it re bys) _ := (hT'.kp hk1 (fun _ _ e => e)).kp hk2 H1.out.2.2.2.2.2.2.2
    have d0 : w2.cell? ⟨w.heap.size, 0, none⟩ = some (.int .i64 k) := by rw [cell_of_row w2 _ 0 _ _ _ hr2]; rfl
    have d1 : w2.cell? ⟨w.heap.size, 1, none⟩ = some (.int .i64 tn) := by rw [cell_of_row w2 _ 1 _ _ _ hr2]; rfl
    have d2 : w2.cell? ⟨w.heap.size, 2, none⟩ = some (.string s) := by rw [cell_of_row w2 _ 2 _ _ _ hr2]; rfl
    have d3 : w2.cell? ⟨w.heap.size, 3, none⟩ = some (.slice p1 it.length c1) := by rw [cell_of_row w2 _ 3 _ _ _ hr2]; rfl
    have d4 : w2.cell? ⟨w.heap.size, 4, none⟩ = some (.slice p2 re.length c2) := by rw [cell_of_row w2 _ 4 _ _ _ hr2]; rfl
    have d5 : w2.cell? ⟨w.heap.size, 5, none⟩ = some (.slice p3 bys.length c3) := by rw [cell_of_row w2 _ 5 _ _ _ hr2]; rfl
    have H2 := Lib.hid (And.intro hT2 (And.intro hr2 (And.intro hg2 ((hk1.mono fun _ _ e => e.elim).trans' hk2))))
    clear hT2 hr2 hg2 hk2 hk1 hr0 hg1 hT' g0 l5 hz1
    go_wp2_with fail
    refine (fits_any H2.out.1).mono ?_
    rintro e w3 ⟨rfl, hk3⟩
    by_cases hfit : fitsB (.mk k tn s it re bys) = true
    · rw [hfit]
      have e3 : w3.cell? ⟨w.heap.size, 3, none⟩ = some (.slice p1 it.length c1) := (hk3.cell (World.block_lt_of_cell? _ _ d3) (fun e => e)).trans d3
      have e4 : w3.cell? ⟨w.heap.size, 4, none⟩ = some (.slice p2 re.length c2) := (hk3.cell (World.block_lt_of_cell? _ _ d4) (fun e => e)).trans d4
      obtain ⟨hT2, hr2, hg2, hk02⟩ := H2.out
      have hg3 : w3.heap[b]? = some (gCells (n + 1) (t + (1 + (bys.length : Int)))) := (hk3.block b (Array.getElem?_eq_some_iff.1 hg2).1 (fun e => e)).trans hg2
      have H3 := Lib.hid (And.intro hg3 (And.intro (hk02.trans' (hk3.mono fun _ _ e => e.elim)) (And.intro hfit (by omega : (0 : Int) ≤ n + 1 ∧ n + 1 ≤ t + (1 + (bys.length : Int)) ∧ t + (1 + (bys.length : Int)) ≤ 65536))))
      have hdw : IntKind.i64.wrap (d + 1) = d + 1 := by rw [IntKind.wrap_i64]; omega
      have hd3 : d ≤ 200 := by omega
      have i0 := two0
      have i1 := two1
      clear hT2 hr2 hg2 hk02 hk3 hg3 d0 d1 d2 d3 d4 d5 hfit hbad
      go_wp2_with fail
      refine wp_loop_rounds 3 ?_
      rw [rounds_succ]
      go_wp2_with fail
      go_loopg [43] it.length (fun gk ii wr => ∃ (j : Nat) (n' t' : Int), j ≤ it.length ∧ gk = it.length - j ∧ ii = Value.int .i64 j ∧ wr.heap[b]? = some (gCells n' t') ∧ 0 ≤ n' ∧ n' ≤ t' ∧ t' ≤ 65536 ∧ Kp (fun q => q = b) w wr ∧ (t' = t + (1 + (bys.length : Int)) + ((it.take j).map (tsz h)).sum ∧ ∀ (i : Nat) (tj : Tm), i < j → it[i]? = some tj → tok (200 - d).toNat tj))
      case atStart => exact ⟨0, _, _, by omega, rfl, rfl, H3.out.1, H3.out.2.2.2.1, H3.out.2.2.2.2.1, H3.out.2.2.2.2.2, H3.out.2.1, by simp, fun i tj h => by omega⟩
      case round =>
        obtain ⟨j, n', t', hj, rfl, rfl, hgr, hn0, hnt', ht', hkr, hok⟩ := hrel
        have HO := Lib.hid hok
        clear hok
        by_cases hlt : j < it.length
        · obtain ⟨tj, htj⟩ : ∃ tj, it[j]? = some tj := ⟨it[j], List.getElem?_eq_getElem hlt⟩
          obtain ⟨hk1, hr0, hg1, hT', ih, hel1, hel2, hFb⟩ := H1.out
          obtain ⟨bx, off, q0, q1, q2, q3, q4, q5, rfl, hbF, a0, a1, a2, a3, a4, a5, htT⟩ := hel1 j tj htj
          obtain ⟨jk, jn, js, ja, jl, jc, ja2, jl2, jd, ja3, jl3, je, hq⟩ := htT.form
          simp only [List.cons.injEq, and_true] at hq
          obtain ⟨rfl, rfl, rfl, rfl, rfl, rfl⟩ := hq
          have kc : ∀ i u, w.cell? ⟨bx, i, none⟩ = some u → wr.cell? ⟨bx, i, none⟩ = some u := fun i u e => cells_kp hkr (F := F) hFb bx i u hbF e
          have x0 := kc _ _ a0
          have x1 := kc _ _ a1
          have x2 := kc _ _ a2
          have x3 := kc _ _ a3
          have x4 := kc _ _ a4
          have x5 := kc _ _ a5
          have htr := htT.kp hkr hFb
          have hli : (j : Int) < it.length := by omega
          have Hr := Lib.hid (And.intro hgr (And.intro htr (And.intro hkr (And.intro ih hFb))))
          have Hj := Lib.hid htj
          clear kc a0 a1 a2 a3 a4 a5 htT htr hgr hkr hk1 hr0 hg1 hT' ih hel1 hel2 hFb htj
          obtain ⟨wq, hwq⟩ : ∃ wq, wr.alloc (.cells #[.int .i64 jk, .int .i64 jn, .string js, .slice ja jl jc, .slice ja2 jl2 jd, .slice ja3 jl3 je] 35) = wq := ⟨_, rfl⟩
          have hkq : Kp (fun _ => False) wr wq := by rw [← hwq]; exact (Kp.refl _ wr).alloc _
          have Hq := Lib.hid (And.intro hkq hwq)
          clear hkq hwq
          go_wp2_with fail
          rw [Hq.out.2]
          refine (Hr.out.2.2.2.1 F tj wq _ b n' t' (d + 1) (Hr.out.2.1.kp Hq.out.1 (fun _ _ e => e)) ((Hq.out.1.block b (Array.getElem?_eq_some_iff.1 Hr.out.1).1 (fun e => e)).trans Hr.out.1) hn0 hnt' ht' (by omega) (by omega) Hr.out.2.2.2.2).mono ?_
          have hkw : Kp (fun q => q = b) w wq := Hr.out.2.2.1.trans' (Hq.out.1.mono fun _ _ e => e.elim)
          rintro e w5 (⟨rfl, hf5, ⟨n5, t5, hg5, m1, m2, m3, m4⟩, hk5⟩ | ⟨v, n5, k5, rfl, hch5, hk5, hno5⟩)
          · have H5 := Lib.hid (And.intro hg5 (And.intro (hkw.trans' hk5) (And.intro hf5 m4)))
            clear hg5 hk5 hkw hf5 m4
            go_wp2_with fail
            go_roundg (it.length - (j + 1))
            case measure => omega
            case rel => exact ⟨j + 1, n5, t5, by omega, rfl, by go_num, H5.out.1, m1, m2, m3, H5.out.2.1, by rw [H5.out.2.2.2, HO.out.1, sum_take_succ (tsz h) Hj.out]; omega, fun i ti hi hti => by
              rcases Nat.lt_or_ge i j with h1 | h1
              · exact HO.out.2 i ti h1 hti
              · obtain rfl : i = j := by omega
                obtain rfl := Option.some.inj (Hj.out.symm.trans hti)
                have := H5.out.2.2.1
                rwa [show (201 - (d + 1)).toNat = (200 - d).toNat by omega] at this⟩
          · obtain ⟨gv, rfl⟩ := hch5.out.form
            have H5 := Lib.hid (And.intro (hch5.le hkw.size) (And.intro (hkw.trans' hk5) hno5))
            clear hch5 hk5 hkw hno5
            go_wp2_with fail
            go_ret
            refine .inr ⟨_, _, _, rfl, H5.out.1, H5.out.2.1, fun hx => H5.out.2.2 ?_⟩
            have hx1 := (tok_parts hd3 hx.1).2.1 tj (List.mem_of_getElem? Hj.out)
            have hx2 := hx.2
            rw [show tsz (h + 1) (.mk k tn s it re bys) = 1 + bys.length + (it.map (tsz h)).sum + (re.map (tsz h)).sum from rfl] at hx2
            have hx3 := sum_take_le1 (tsz h) Hj.out
            have hx4 := HO.out.1
            exact ⟨by rwa [show (201 - (d + 1)).toNat = (200 - d).toNat by omega], by omega⟩
        · obtain rfl : it.length = j := by omega
          have H6 := Lib.hid (And.intro hgr (And.intro hkr (And.intro hn0 (And.intro hnt' ht'))))
          clear hgr hkr hn0 hnt' ht'
          go_wp2_with fail
          rw [rounds_succ]
          go_wp2_with fail
          go_loopg [43] re.length (fun gk ii wr => ∃ (j : Nat) (n' t' : Int), j ≤ re.length ∧ gk = re.length - j ∧ ii = Value.int .i64 j ∧ wr.heap[b]? = some (gCells n' t') ∧ 0 ≤ n' ∧ n' ≤ t' ∧ t' ≤ 65536 ∧ Kp (fun q => q = b) w wr ∧ (t' = t + (1 + (bys.length : Int)) + (it.map (tsz h)).sum + ((re.take j).map (tsz h)).sum ∧ (∀ t ∈ it, tok (200 - d).toNat t) ∧ ∀ (i : Nat) (tj : Tm), i < j → re[i]? = some tj → tok (200 - d).toNat tj))
          case atStart => exact ⟨0, _, _, by omega, rfl, rfl, H6.out.1, H6.out.2.2.1, H6.out.2.2.2.1, H6.out.2.2.2.2, H6.out.2.1, by have := HO.out.1; rw [List.take_length] at this; simpa using this, fun t ht => by
            obtain ⟨i, hi, rfl⟩ := List.getElem_of_mem ht
            exact HO.out.2 i _ hi (List.getElem?_eq_getElem hi), fun i tj h => by omega⟩
          case round =>
            clear H6 HO
            obtain ⟨j, n', t', hj, rfl, rfl, hgr, hn0, hnt', ht', hkr, hok⟩ := hrel
            have HO := Lib.hid hok
            clear hok
            by_cases hlt : j < re.length
            · obtain ⟨tj, htj⟩ : ∃ tj, re[j]? = some tj := ⟨re[j], List.getElem?_eq_getElem hlt⟩
              obtain ⟨hk1, hr0, hg1, hT', ih, hel1, hel2, hFb⟩ := H1.out
              obtain ⟨bx, off, q0, q1, q2, q3, q4, q5, rfl, hbF, a0, a1, a2, a3, a4, a5, htT⟩ := hel2 j tj htj
              obtain ⟨jk, jn, js, ja, jl, jc, ja2, jl2, jd, ja3, jl3, je, hq⟩ := htT.form
              simp only [List.cons.injEq, and_true] at hq
              obtain ⟨rfl, rfl, rfl, rfl, rfl, rfl⟩ := hq
              have kc : ∀ i u, w.cell? ⟨bx, i, none⟩ = some u → wr.cell? ⟨bx, i, none⟩ = some u := fun i u e => cells_kp hkr (F := F) hFb bx i u hbF e
              have x0 := kc _ _ a0
              have x1 := kc _ _ a1
              have x2 := kc _ _ a2
              have x3 := kc _ _ a3
              have x4 := kc _ _ a4
              have x5 := kc _ _ a5
              have htr := htT.kp hkr hFb
              have hli : (j : Int) < re.length := by omega
              have Hr := Lib.hid (And.intro hgr (And.intro htr (And.intro hkr (And.intro ih hFb))))
              have Hj := Lib.hid htj
              clear kc a0 a1 a2 a3 a4 a5 htT htr hgr hkr hk1 hr0 hg1 hT' ih hel1 hel2 hFb htj
              obtain ⟨wq, hwq⟩ : ∃ wq, wr.alloc (.cells #[.int .i64 jk, .int .i64 jn, .string js, .slice ja jl jc, .slice ja2 jl2 jd, .slice ja3 jl3 je] 35) = wq := ⟨_, rfl⟩
              have hkq : Kp (fun _ => False) wr wq := by rw [← hwq]; exact (Kp.refl _ wr).alloc _
              have Hq := Lib.hid (And.intro hkq hwq)
              clear hkq hwq
              go_wp2_with fail
              rw [Hq.out.2]
              refine (Hr.out.2.2.2.1 F tj wq _ b n' t' (d + 1) (Hr.out.2.1.kp Hq.out.1 (fun _ _ e => e)) ((Hq.out.1.block b (Array.getElem?_eq_some_iff.1 Hr.out.1).1 (fun e => e)).trans Hr.out.1) hn0 hnt' ht' (by omega) (by omega) Hr.out.2.2.2.2).mono ?_
              have hkw : Kp (fun q => q = b) w wq := Hr.out.2.2.1.trans' (Hq.out.1.mono fun _ _ e => e.elim)
              rintro e w5 (⟨rfl, hf5, ⟨n5, t5, hg5, m1, m2, m3, m4⟩, hk5⟩ | ⟨v, n5, k5, rfl, hch5, hk5, hno5⟩)
              · have H5 := Lib.hid (And.intro hg5 (And.intro (hkw.trans' hk5) (And.intro hf5 m4)))
                clear hg5 hk5 hkw hf5 m4
                go_wp2_with fail
                go_roundg (re.length - (j + 1))
                case measure => omega
                case rel => exact ⟨j + 1, n5, t5, by omega, rfl, by go_num, H5.out.1, m1, m2, m3, H5.out.2.1, by rw [H5.out.2.2.2, HO.out.1, sum_take_succ (tsz h) Hj.out]; omega, HO.out.2.1, fun i ti hi hti => by
                  rcases Nat.lt_or_ge i j with h1 | h1
                  · exact HO.out.2.2 i ti h1 hti
                  · obtain rfl : i = j := by omega
                    obtain rfl := Option.some.inj (Hj.out.symm.trans hti)
                    have := H5.out.2.2.1
                    rwa [show (201 - (d + 1)).toNat = (200 - d).toNat by omega] at this⟩
              · obtain ⟨gv, rfl⟩ := hch5.out.form
                have H5 := Lib.hid (And.intro (hch5.le hkw.size) (And.intro (hkw.trans' hk5) hno5))
                clear hch5 hk5 hkw hno5
                go_wp2_with fail
                go_ret
                refine .inr ⟨_, _, _, rfl, H5.out.1, H5.out.2.1, fun hx => H5.out.2.2 ?_⟩
                have hx1 := (tok_parts hd3 hx.1).2.2 tj (List.mem_of_getElem? Hj.out)
                have hx2 := hx.2
                rw [show tsz (h + 1) (.mk k tn s it re bys) = 1 + bys.length + (it.map (tsz h)).sum + (re.map (tsz h)).sum from rfl] at hx2
                have hx3 := sum_take_le1 (tsz h) Hj.out
                have hx4 := HO.out.1
                exact ⟨by rwa [show (201 - (d + 1)).toNat = (200 - d).toNat by omega], by omega⟩
            · obtain rfl : re.length = j := by omega
              have H6 := Lib.hid (And.intro hgr (And.intro hkr (And.intro hn0 (And.intro hnt' ht'))))
              clear hgr hkr hn0 hnt' ht'
              go_wp2_with fail
              rw [rounds_succ]
              go_wp2_with fail
              go_ret
              refine .inl ⟨rfl, ?_, ⟨_, _, H6.out.1, H6.out.2.2.1, H6.out.2.2.2.1, H6.out.2.2.2.2, ?_⟩, H6.out.2.1⟩
              · rw [show (201 - d).toNat = (200 - d).toNat + 1 by omega]
                refine ⟨H3.out.2.2.1, HO.out.2.1, fun t ht => ?_⟩
                obtain ⟨i, hi, rfl⟩ := List.getElem_of_mem ht
                exact HO.out.2.2 i _ hi (List.getElem?_eq_getElem hi)
              · have := HO.out.1
                rw [List.take_length] at this
                rw [this]
                show _ = t + ((1 + bys.length + (it.map (tsz h)).sum + (re.map (tsz h)).sum : Nat) : Int)
                omega
    · have hff : fitsB (.mk k tn s it re bys) = false := by simpa using hfit
      rw [hff]
      have hd3 : d ≤ 200 := by omega
      have Hf := Lib.hid (And.intro (H2.out.2.2.2.trans' (hk3.mono fun _ _ e => e.elim)) hff)
      clear d0 d1 d2 d3 d4 d5 hfit hbad hk3 hff
      go_wp2_with (go_at_call 21; refine (at_any _ _ _ _ _).mono ?_; rintro e w' ⟨rfl, rfl⟩)
      go_ret
      exact .inr ⟨_, n, 1, rfl, ChainB.cons termS n (ChainB.root _ _ (by decide)) Hf.out.1.size (heap_alloc_new w3 _), Hf.out.1.alloc _, fun hx => by
        have := (tok_parts hd3 hx.1).1
        rw [Hf.out.2] at this
        cases this⟩

theorem right_all : ∀ h, RightIs h
  | 0 => fun _ _ _ _ _ _ _ _ ht => ht.elim
  | h + 1 => right_succ (right_all h)

set_option maxHeartbeats 400000 in
/-- Right of any term: no error, and each part has just the fields of its kind, and they are few; or an error -/
theorem tright_deep {F : Nat → Prop} {w : World} {h : Nat} {T : Tm} {cs : List Value} (hT : TermAt F w h T cs) :
    Calls Tryd.prog 36 #[.agg cs.toArray] w fun e w' => (e = .returned .nilIface ∧ (tok 200 T ∧ tsz h T ≤ 65536) ∨ (∃ v n k, e = .returned v ∧ ChainB w.heap.size w' v [Lk.fault termS n, Lk.kind k]) ∧ ¬ (tok 200 T ∧ tsz h T ≤ 65536)) ∧ Kp (fun _ => False) w w' := by
  obtain ⟨k, n, s, a, l, c, a2, l2, d, a3, l3, e, rfl⟩ := hT.form
  obtain ⟨w2, hw2⟩ : ∃ w2, (w.alloc (.cells #[.int .i64 k, .int .i64 n, .string s, .slice a l c, .slice a2 l2 d, .slice a3 l3 e] 35)).alloc (.cells #[.int .i64 0, .int .i64 0] 110) = w2 := ⟨_, rfl⟩
  have hk : Kp (fun _ => False) w w2 := by rw [← hw2]; exact ((Kp.refl _ w).alloc _).alloc _
  have hg : w2.heap[w.heap.size + 1]? = some (gCells 0 0) := by
    rw [← hw2]
    have := heap_alloc_new (w.alloc (.cells #[.int .i64 k, .int .i64 n, .string s, .slice a l c, .slice a2 l2 d, .slice a3 l3 e] 35)) (.cells #[.int .i64 0, .int .i64 0] 110)
    have hz : (w.alloc (.cells #[.int .i64 k, .int .i64 n, .string s, .slice a l c, .slice a2 l2 d, .slice a3 l3 e] 35)).heap.size = w.heap.size + 1 := by simp
    rw [hz] at this
    exact this
  have hc := right_all h (fun q => F q ∧ q < w.heap.size) T w2 _ (w.heap.size + 1) 0 0 1 (TermAt.kp (F := fun q => F q ∧ q < w.heap.size) hT.low hk (fun _ _ e => e)) hg (by omega) (by omega) (by omega) (by omega) (by omega) (fun q e => by have := e.2; omega)
  have Hw := Lib.hid (And.intro hw2 (And.intro hc (And.intro hk hg)))
  clear hw2 hc hk hg
  go_enter Tryd.func36, Tryd.ntmps36
  go_wp2_with fail
  rw [Hw.out.1]
  refine Hw.out.2.1.mono ?_
  have hk := Hw.out.2.2.1
  have hgl := (Array.getElem?_eq_some_iff.1 Hw.out.2.2.2).1
  have hup : ∀ w3, Kp (fun q => q = w.heap.size + 1) w2 w3 → Kp (fun _ => False) w w3 := fun w3 h3 => hk.trans (h3.mono fun q _ e => .inr ⟨by omega, by omega⟩)
  rintro e w3 (⟨rfl, hf, ⟨_, _, _, _, _, hq1, hq2⟩, hk3⟩ | ⟨v, m, kk, rfl, hch, hk3, hno⟩)
  · have H3 := Lib.hid (And.intro (And.intro hf (show tsz h T ≤ 65536 by omega)) (hup w3 hk3))
    clear hf hk3 hup hk hgl hq1 hq2
    go_wp2_with fail
    go_ret
    exact ⟨.inl ⟨rfl, H3.out.1⟩, H3.out.2⟩
  · obtain ⟨gv, rfl⟩ := hch.out.form
    have H3 := Lib.hid (And.intro (hch.le hk.size) (And.intro (hup w3 hk3) hno))
    clear hch hk3 hup hk hgl hno
    go_wp2_with fail
    go_ret
    exact ⟨.inr ⟨⟨_, _, _, rfl, H3.out.1⟩, fun hx => H3.out.2.2 ⟨hx.1, by omega⟩⟩, H3.out.2.1⟩
theorem tok_fits : ∀ {d : Nat} {T : Tm}, tok d T → fitsB T = true
  | 0, _, h => h.elim
  | _ + 1, .mk _ _ _ _ _ _, h => h.1
/-- Right of any term: no error, and it has just the fields of its kind; or an error -/
theorem tright_any {F : Nat → Prop} {w : World} {h : Nat} {T : Tm} {cs : List Value} (hT : TermAt F w h T cs) :
    Calls Tryd.prog 36 #[.agg cs.toArray] w fun e w' => (e = .returned .nilIface ∧ fitsB T = true ∨ ∃ v n k, e = .returned v ∧ ChainB w.heap.size w' v [Lk.fault termS n, Lk.kind k]) ∧ Kp (fun _ => False) w w' :=
  (tright_deep hT).mono fun _ _ h => ⟨h.1.imp (fun h => ⟨h.1, tok_fits h.2.1⟩) (fun h => h.1), h.2⟩
end Go.Proofs.YtpdepmkojbpklaaDoor
