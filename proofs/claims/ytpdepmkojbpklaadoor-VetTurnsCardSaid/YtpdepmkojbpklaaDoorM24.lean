/- A term is copied into new memory. -/
import Derived.Test.YtpdepmkojbpklaaDoorM01
import Derived.Test.YtpdepmkojbpklaaDoorM02
import Derived.Test.YtpdepmkojbpklaaDoorM04
import Derived.Deep.AppendLies
/- A term is copied into new memory. -/
namespace Go.Proofs.YtpdepmkojbpklaaDoor
open Go.RowKit

theorem Tryd.infoTerm : (Tryd.prog.info? 35).map (fun i => (i.zero, i.size, i.bytes)) = some (some (.agg #[.int .i64 0, .int .i64 0, .string ByteArray.empty, .slice none 0 0, .slice none 0 0, .slice none 0 0]), 6, 104) := by kernel_rfl

theorem copyBytes_own {F : Nat → Prop} {w : World} {l : List UInt8} {v : Value} (h : BytesAt F w l v) :
    Calls Tryd.prog 53 #[v] w fun e w' => ∃ v', e = .returned v' ∧ BytesAt (Own w.heap.size w') w' l v' ∧ Kp (fun _ => False) w w' :=
  (copyBytes_any h).mono fun _ _ ⟨v', h1, h2, h3⟩ => ⟨v', h1, h2.imp (fun _ e => e.1) (fun _ _ _ _ e => e), h3⟩

/-- what Copy does with terms of a height below h -/
def CopyIs (h : Nat) : Prop := ∀ (F : Nat → Prop) (T : Tm) (w : World) (cs : List Value), TermAt F w h T cs →
  Calls Tryd.prog 39 #[.agg cs.toArray] w fun e w' => ∃ cs', e = .returned (.agg cs'.toArray) ∧ TermAt (Own w.heap.size w') w' h T cs' ∧ Kp (fun _ => False) w w'

/-- six cells of a row -/
def Six (xs : List Value) (i : Nat) (c0 c1 c2 c3 c4 c5 : Value) : Prop :=
  xs[i * 6]? = some c0 ∧ xs[i * 6 + 1]? = some c1 ∧ xs[i * 6 + 2]? = some c2 ∧ xs[i * 6 + 3]? = some c3 ∧ xs[i * 6 + 4]? = some c4 ∧ xs[i * 6 + 5]? = some c5
theorem Six.more {xs ys : List Value} {i : Nat} {c0 c1 c2 c3 c4 c5 : Value} (h : Six xs i c0 c1 c2 c3 c4 c5) : Six (xs ++ ys) i c0 c1 c2 c3 c4 c5 := by
  obtain ⟨h0, h1, h2, h3, h4, h5⟩ := h
  have l := (List.getElem?_eq_some_iff.1 h5).1
  refine ⟨?_, ?_, ?_, ?_, ?_, ?_⟩ <;> (rw [List.getElem?_append_left (by omega)]; assumption)
theorem Six.last {xs : List Value} {k : Nat} (hx : xs.length = k * 6) (c0 c1 c2 c3 c4 c5 : Value) : Six (xs ++ [c0, c1, c2, c3, c4, c5]) k c0 c1 c2 c3 c4 c5 := by
  refine ⟨?_, ?_, ?_, ?_, ?_, ?_⟩ <;> (rw [List.getElem?_append_right (by omega), hx]; simp)

structure Copied (h : Nat) (l : List Tm) (w wr : World) (v : Value) (k : Nat) (xs : List Value) (G : Nat → Prop) : Prop where
  row : wr.ownsRow w.heap.size 35 6 v k xs
  lo : ∀ q, G q → w.heap.size ≤ q ∧ q < wr.heap.size
  ap : ∀ g, v.ownBlock = some g → ¬ G g
  el : ∀ i t, i < k → l[i]? = some t → ∃ c0 c1 c2 c3 c4 c5, Six xs i c0 c1 c2 c3 c4 c5 ∧ TermAt G wr h t [c0, c1, c2, c3, c4, c5]
  kp : Kp (fun _ => False) w wr

theorem Copied.fin6 {h : Nat} {l : List Tm} {w wr : World} {v : Value} {xs : List Value} {G : Nat → Prop} (hc : Copied h l w wr v l.length xs G) (hl : l.length * 104 ≤ 140737488351232) :
    ListAt (Own w.heap.size wr) wr (TermAt (Own w.heap.size wr) wr h) l v := by
  have hrow := hc.row
  rcases hc.row.2 with ⟨e, h0⟩ | ⟨g, cap, cur, e, hb, hg, hn, _⟩
  · refine ⟨none, 0, by rw [h0]; exact e, by omega, hl, fun i t hi => ?_⟩
    have := (List.getElem?_eq_some_iff.1 hi).1
    omega
  · have hgl := (Array.getElem?_eq_some_iff.1 hg).1
    rw [e] at hrow
    refine ⟨some ⟨g, 0, none⟩, cap, e, hn, hl, fun i t hi => ?_⟩
    have hil := (List.getElem?_eq_some_iff.1 hi).1
    obtain ⟨c0, c1, c2, c3, c4, c5, ⟨s0, s1, s2, s3, s4, s5⟩, ht⟩ := hc.el i t hil hi
    refine ⟨g, 0, c0, c1, c2, c3, c4, c5, rfl, ⟨hb, hgl⟩, ?_, ?_, ?_, ?_, ?_, ?_, TermAt.imp (fun q hq => hc.lo q hq) (fun _ _ _ _ e => e) h t _ ht⟩
    all_goals (rw [Nat.zero_add, hrow.cellAt _ (by omega)]; assumption)

theorem Copied.push {h : Nat} {l : List Tm} {w wr w2 w3 : World} {v : Value} {k : Nat} {xs : List Value} {G : Nat → Prop} (hc : Copied h l w wr v k xs G) {t : Tm} {c0 c1 c2 c3 c4 c5 : Value} (ht : l[k]? = some t)
    (hT : TermAt (Own wr.heap.size w2) w2 h t [c0, c1, c2, c3, c4, c5]) (hk2 : Kp (fun _ => False) wr w2) {o : Obj} {g cap : Nat}
    (hown : w3.ownsRow w.heap.size 35 6 (.slice (some ⟨g, 0, none⟩) (k + 1) cap) (k + 1) (xs ++ [c0, c1, c2, c3, c4, c5]))
    (hg : (w2.alloc o).grownBy w3 v.ownBlock) (hat : v.ownBlock = some g ∨ g = w2.heap.size + 1) :
    Copied h l w w3 (.slice (some ⟨g, 0, none⟩) (k + 1) cap) (k + 1) (xs ++ [c0, c1, c2, c3, c4, c5]) (fun q => G q ∨ Own wr.heap.size w2 q) := by
  have hz := hc.kp.size
  have hz2 := hk2.size
  have hk3 : Kp (fun q => v.ownBlock = some q) w2 w3 := ((Kp.refl _ w2).alloc o).grown hg (fun q hq => .inl hq)
  have hz3 := hk3.size
  have hvl : ∀ q, v.ownBlock = some q → w.heap.size ≤ q ∧ q < wr.heap.size := fun q hq => hc.row.lt q hq
  have hxl : xs.length = k * 6 := hc.row.1
  refine ⟨hown, ?_, ?_, ?_, (hc.kp.trans' hk2).trans (hk3.mono fun q _ hq => .inr ⟨(hvl q hq).1, by have := (hvl q hq).2; omega⟩)⟩
  · intro q hq
    rcases hq with hq | hq
    · have := hc.lo q hq; omega
    · have h1 := hq.1; have h2 := hq.2; omega
  · intro q hq hG
    simp [Value.ownBlock] at hq
    subst hq
    rcases hat with e | e
    · rcases hG with hG | hG
      · exact hc.ap g e hG
      · have := hvl g e; have := hG.1; omega
    · rcases hG with hG | hG
      · have := hc.lo g hG; omega
      · have := hG.2; omega
  · intro i t' hi hti
    by_cases hik : i < k
    · obtain ⟨d0, d1, d2, d3, d4, d5, h6, ht'⟩ := hc.el i t' hik hti
      refine ⟨d0, d1, d2, d3, d4, d5, h6.more, ?_⟩
      have h1 := ht'.kp hk2 (fun _ _ e => e)
      have h2 := h1.kp hk3 (fun q hq e => hc.ap q e hq)
      exact TermAt.imp (fun q hq => .inl hq) (fun _ _ _ _ e => e) h t' _ h2
    · obtain rfl : i = k := by omega
      rw [ht] at hti
      injection hti with hti
      subst hti
      refine ⟨c0, c1, c2, c3, c4, c5, Six.last hxl .., ?_⟩
      have h2 := hT.kp hk3 (fun q hq e => by have := hvl q e; have := hq.1; omega)
      exact TermAt.imp (fun q hq => .inr hq) (fun _ _ _ _ e => e) h t _ h2

set_option maxRecDepth 100000 in
set_option maxHeartbeats 1000000 in
theorem copyAll_of {h : Nat} (ih : CopyIs h) {F : Nat → Prop} {w : World} {l : List Tm} {v : Value} (hv : ListAt F w (TermAt F w h) l v) :
    Calls Tryd.prog 25 #[v] w fun e w' => ∃ v', e = .returned v' ∧ ListAt (Own w.heap.size w') w' (TermAt (Own w.heap.size w') w' h) l v' ∧ Kp (fun _ => False) w w' := by
  obtain ⟨po, cap, rfl, hcap, hlen, hel⟩ := hv
  have Hel := Lib.hid (And.intro hel ih)
  clear hel ih
  go_enter Tryd.func25, Tryd.ntmps25
  go_wp2_with fail
  go_loopg [3, 4] l.length (fun gk m i wr => ∃ (k : Nat) (vs : Value) (xs : List Value) (G : Nat → Prop), k ≤ l.length ∧ gk = l.length - k ∧ i = Value.int .i64 k ∧ vs = m ∧ Copied h l w wr vs k xs G)
  case atStart => exact ⟨0, _, [], fun _ => False, by omega, rfl, rfl, rfl, World.ownsRow_nil _ _ _ _, fun q hq => hq.elim, fun g hg => by simp [Value.ownBlock] at hg, fun i t hi => by omega, Kp.refl _ w⟩
  case round =>
    obtain ⟨k, vs, xs, G, hk, rfl, rfl, rfl, hC⟩ := hrel
    by_cases hlt : k < l.length
    · obtain ⟨t, ht⟩ : ∃ t, l[k]? = some t := ⟨l[k], List.getElem?_eq_getElem hlt⟩
      obtain ⟨b, off, c0, c1, c2, c3, c4, c5, rfl, hb, d0, d1, d2, d3, d4, d5, hT⟩ := Hel.out.1 k t ht
      have hTr := hT.kp hC.kp (fun _ _ e => e)
      have kc : ∀ j u, w.cell? ⟨b, j, none⟩ = some u → wr.cell? ⟨b, j, none⟩ = some u := fun j u e => cells_kp hC.kp (F := F) (fun _ _ e => e) b j u hb e
      have e0 := kc _ _ d0
      have e1 := kc _ _ d1
      have e2 := kc _ _ d2
      have e3 := kc _ _ d3
      have e4 := kc _ _ d4
      have e5 := kc _ _ d5
      have hli : (k : Int) < l.length := by omega
      have hz := hC.kp.size
      have HC := Lib.hid (And.intro hC (And.intro ht hTr))
      clear hC ht hT hTr kc d0 d1 d2 d3 d4 d5
      go_wp2_with fail
      refine (Hel.out.2 F t wr [c0, c1, c2, c3, c4, c5] HC.out.2.2).mono ?_
      rintro e w2 ⟨cs', rfl, hT', hk2⟩
      obtain ⟨tk, tn, ts, a1, l1, x1, a2, l2, x2, a3, l3, x3, rfl⟩ := hT'.form
      have hrow := (hk2.row HC.out.1.row (fun _ _ e => e))
      have hoA : ∀ o, (w2.alloc o).ownsRow w.heap.size 35 6 vs k xs := fun o => hrow.alloc o
      have hnA : ∀ i u, [Value.int .i64 tk, .int .i64 tn, .string ts, .slice a1 l1 x1, .slice a2 l2 x2, .slice a3 l3 x3][i]? = some u → (w2.alloc (.cells #[Value.int .i64 tk, .int .i64 tn, .string ts, .slice a1 l1 x1, .slice a2 l2 x2, .slice a3 l3 x3] 35)).cell? ((⟨w2.heap.size, 0, none⟩ : Addr).add i) = some u :=
        World.news_of_block (cs := #[Value.int .i64 tk, .int .i64 tn, .string ts, .slice a1 l1 x1, .slice a2 l2 x2, .slice a3 l3 x3]) (heap_alloc_new w2 _)
      have hc1 : k + 1 ≤ maxLen := by unfold maxLen; omega
      have hc2 : (k + 1) * 104 ≤ 140737488355328 := by omega
      obtain ⟨i0, hi, hz0, hz1, hz2⟩ := info_parts Tryd.infoTerm
      have hbase : w.heap.size ≤ (w2.alloc (.cells #[Value.int .i64 tk, .int .i64 tn, .string ts, .slice a1 l1 x1, .slice a2 l2 x2, .slice a3 l3 x3] 35)).heap.size := by have := hk2.size; simp; omega
      have H2 := Lib.hid (And.intro hT' (And.intro hk2 (And.intro hc1 hc2)))
      clear hT' hk2 hrow hc1 hc2
      go_wp2_with (at_builtin; refine wpList_append_lies _ rfl _ _ 23 rfl w.heap.size 35 i0 (.agg #[.int .i64 0, .int .i64 0, .string ByteArray.empty, .slice none 0 0, .slice none 0 0, .slice none 0 0]) 6 104 Tryd.underlying23 hi hz0 hz1 hz2 rfl (by omega) vs k xs rfl (hoA _) ⟨w2.heap.size, 0, none⟩ 1 1 [.int .i64 tk, .int .i64 tn, .string ts, .slice a1 l1 x1, .slice a2 l2 x2, .slice a3 l3 x3] rfl rfl hnA form_one (by omega) H2.out.2.2.1 H2.out.2.2.2 hbase (w2.heap.size + 1) (by simp) ?_; intro g1 cap1 w3 hown hgrow hat hlt3)
      have H3 := Lib.hid (HC.out.1.push HC.out.2.1 H2.out.1 H2.out.2.1 hown hgrow hat)
      clear hown hgrow hat hlt3 hoA hnA
      go_wp2_with fail
      go_roundg (l.length - (k + 1))
      case measure => omega
      case rel => exact ⟨k + 1, _, _, _, by omega, rfl, by go_num, rfl, H3.out⟩
    · obtain rfl : l.length = k := by omega
      have HC := Lib.hid hC
      clear hC
      go_wp2_with fail
      go_ret
      exact ⟨_, rfl, HC.out.fin6 hlen, HC.out.kp⟩

theorem heap_set_same' {w : World} {b i : Nat} {cs : Array Value} {T : TypeId} {fr : Nat × Nat} (hb : w.heap[b]? = some (.cells cs T fr)) (v : Value) :
    (w.setCell ⟨b, i, none⟩ v).heap[b]? = some (.cells (cs.setIfInBounds i v) T fr) := by
  simp [World.setCell, Array.getElem?_modify, hb]
/-- six cells of a block, written -/
def sixSet (w : World) (B : Nat) (c0 c1 c2 c3 c4 c5 : Value) : World :=
  (((((w.setCell ⟨B, 0, none⟩ c0).setCell ⟨B, 1, none⟩ c1).setCell ⟨B, 2, none⟩ c2).setCell ⟨B, 3, none⟩ c3).setCell ⟨B, 4, none⟩ c4).setCell ⟨B, 5, none⟩ c5
theorem sixSet_any {w : World} {B : Nat} {d0 d1 d2 d3 d4 d5 c0 c1 c2 c3 c4 c5 : Value} {T : TypeId} (h : w.heap[B]? = some (.cells #[d0, d1, d2, d3, d4, d5] T (0, 0))) :
    (sixSet w B c0 c1 c2 c3 c4 c5).heap[B]? = some (.cells #[c0, c1, c2, c3, c4, c5] T (0, 0)) ∧ Kp (fun q => q = B) w (sixSet w B c0 c1 c2 c3 c4 c5) := by
  refine ⟨?_, ?_⟩
  · exact heap_set_same' (heap_set_same' (heap_set_same' (heap_set_same' (heap_set_same' (heap_set_same' h _) _) _) _) _) _
  · exact ((((((Kp.refl (fun q => q = B) w).setCell _ _ (.inl rfl)).setCell _ _ (.inl rfl)).setCell _ _ (.inl rfl)).setCell _ _ (.inl rfl)).setCell _ _ (.inl rfl)).setCell _ _ (.inl rfl)

set_option maxRecDepth 100000 in
set_option maxHeartbeats 1000000 in
theorem copy_succ {h : Nat} (ih : CopyIs h) : CopyIs (h + 1) := by
  intro F T w cs hT
  obtain ⟨k, n, s, it, re, bys⟩ := T
  obtain ⟨vi, vr, vb, rfl, hb, h1, h2, h3⟩ := hT
  have Hih := Lib.hid ih
  clear ih
  obtain ⟨w1, hw1⟩ : ∃ w1, (w.alloc (.cells #[.int .i64 k, .int .i64 n, .string s, vi, vr, vb] 35)).alloc (.cells #[.int .i64 0, .int .i64 0, .string ⟨#[]⟩, .slice none 0 0, .slice none 0 0, .slice none 0 0] 35) = w1 := ⟨_, rfl⟩
  have hk1 : Kp (fun _ => False) w w1 := by rw [← hw1]; exact ((Kp.refl _ w).alloc _).alloc _
  obtain ⟨wa, hwa⟩ : ∃ wa, w.alloc (.cells #[.int .i64 k, .int .i64 n, .string s, vi, vr, vb] 35) = wa := ⟨_, rfl⟩
  have hza : wa.heap.size = w.heap.size + 1 := by rw [← hwa]; simp
  have hr0 : w1.heap[w.heap.size]? = some (.cells #[.int .i64 k, .int .i64 n, .string s, vi, vr, vb] 35 (0, 0)) := by
    rw [← hw1, hwa, Below.heap_alloc _ _ _ (by omega), ← hwa]; exact heap_alloc_new w _
  have hr1 : w1.heap[w.heap.size + 1]? = some (.cells #[.int .i64 0, .int .i64 0, .string ⟨#[]⟩, .slice none 0 0, .slice none 0 0, .slice none 0 0] 35 (0, 0)) := by
    have := heap_alloc_new wa (.cells #[.int .i64 0, .int .i64 0, .string ⟨#[]⟩, .slice none 0 0, .slice none 0 0, .slice none 0 0] 35)
    rw [hza] at this
    rw [← hw1, hwa]; exact this
  have hz1 : w1.heap.size = w.heap.size + 2 := by rw [← hw1]; simp
  clear hwa hza
  -- the first list
  have c3 : w1.cell? ⟨w.heap.size, 3, none⟩ = some vi := by rw [cell_of_row w1 _ 3 _ _ _ hr0]; rfl
  have f3 : w1.frozen? ⟨w.heap.size, 3, none⟩ = false := by simp [World.frozen?, hr0]
  have H1 := Lib.hid (And.intro hk1 (And.intro hr0 (And.intro hr1 (And.intro hz1 (And.intro hb (And.intro h1 (And.intro h2 h3)))))))
  clear hk1 hr0 hr1 hz1 hb h1 h2 h3
  go_enter Tryd.func39, Tryd.ntmps39
  go_wp2_with fail
  clear hw1
  obtain ⟨hk1, hr0, hr1, hz1, hb, h1, h2, h3⟩ := H1.out
  refine (copyAll_of Hih.out (h1.imp (fun _ e => e) (cells_kp hk1 (fun _ _ e => e)) (fun _ _ e => e.kp hk1 (fun _ _ e => e)))).mono ?_
  rintro e w2 ⟨v2, rfl, g2, hk2⟩
  obtain ⟨p2, q2, r2, rfl⟩ := g2.form
  have hr0 := (hk2.block _ (Array.getElem?_eq_some_iff.1 hr0).1 (fun e => e)).trans hr0
  have hr1 := (hk2.block _ (Array.getElem?_eq_some_iff.1 hr1).1 (fun e => e)).trans hr1
  have hz2 := hk2.size
  have c3 : w2.cell? ⟨w.heap.size, 3, none⟩ = some vi := by rw [cell_of_row w2 _ 3 _ _ _ hr0]; rfl
  have f3 : w2.frozen? ⟨w.heap.size, 3, none⟩ = false := by simp [World.frozen?, hr0]
  obtain ⟨w3, hw3⟩ : ∃ w3, w2.setCell ⟨w.heap.size, 3, none⟩ (.slice p2 q2 r2) = w3 := ⟨_, rfl⟩
  have hk3 : Kp (fun q => q = w.heap.size) w2 w3 := by rw [← hw3]; exact (Kp.refl (fun q => q = w.heap.size) w2).setCell _ _ (.inl rfl)
  have hr0 : w3.heap[w.heap.size]? = some (.cells #[.int .i64 k, .int .i64 n, .string s, .slice p2 q2 r2, vr, vb] 35 (0, 0)) := by rw [← hw3]; exact heap_set_same' hr0 _
  have hr1 := (hk3.block _ (Array.getElem?_eq_some_iff.1 hr1).1 (by omega)).trans hr1
  have g3 := g2.imp (fun _ e => e) (cells_kp hk3 (fun q e e2 => by have := e.1; omega)) (fun t cs e => TermAt.kp e hk3 (fun q e e2 => by have := e.1; omega))
  have hk13 : Kp (fun q => q = w.heap.size) w1 w3 := (hk2.mono fun _ _ e => e.elim).trans' hk3
  have c4 : w3.cell? ⟨w.heap.size, 4, none⟩ = some vr := by rw [cell_of_row w3 _ 4 _ _ _ hr0]; rfl
  have c4f : w3.frozen? ⟨w.heap.size, 4, none⟩ = false := by simp [World.frozen?, hr0]
  have H3 := Lib.hid (And.intro hr0 (And.intro hr1 (And.intro g3 (And.intro hk3 (And.intro hk13 (And.intro hz2 hk2))))))
  clear hr0 hr1 g2 g3 hk3 hk13 hz2 hk2 hk1 hz1 h1 h2 h3 hb
  go_wp2_with fail
  clear hw3
  obtain ⟨hr0, hr1, g3, hk3, hk13, hz2, hk2⟩ := H3.out
  obtain ⟨hk1, _, _, hz1, hb, h1, h2, h3⟩ := H1.out
  have hF3 : ∀ q j u, F q → w.cell? ⟨q, j, none⟩ = some u → w3.cell? ⟨q, j, none⟩ = some u := fun q j u hq hc =>
    (hk13.cell (p := ⟨q, j, none⟩) (Nat.lt_of_lt_of_le (World.block_lt_of_cell? _ _ hc) hk1.size) (by have := World.block_lt_of_cell? _ _ hc; exact Nat.ne_of_lt this)).trans (cells_kp hk1 (F := F) (fun _ _ e => e) q j u hq hc)
  refine (copyAll_of Hih.out (h2.imp (fun _ e => e) hF3 (fun t cs e => TermAt.imp (fun _ e => e) hF3 _ t cs e))).mono ?_
  rintro e w4 ⟨v4, rfl, g4, hk4⟩
  obtain ⟨p4, q4, r4, rfl⟩ := g4.form
  have hr0 := (hk4.block _ (Array.getElem?_eq_some_iff.1 hr0).1 (fun e => e)).trans hr0
  have hr1 := (hk4.block _ (Array.getElem?_eq_some_iff.1 hr1).1 (fun e => e)).trans hr1
  have hz3 := hk3.size
  have hz4 := hk4.size
  have g3 := g3.imp (fun _ e => e) (cells_kp hk4 (fun _ _ e => e)) (fun t cs e => TermAt.kp e hk4 (fun _ _ e => e))
  have c4 : w4.cell? ⟨w.heap.size, 4, none⟩ = some vr := by rw [cell_of_row w4 _ 4 _ _ _ hr0]; rfl
  have c4f : w4.frozen? ⟨w.heap.size, 4, none⟩ = false := by simp [World.frozen?, hr0]
  obtain ⟨w5, hw5⟩ : ∃ w5, w4.setCell ⟨w.heap.size, 4, none⟩ (.slice p4 q4 r4) = w5 := ⟨_, rfl⟩
  have hk5 : Kp (fun q => q = w.heap.size) w4 w5 := by rw [← hw5]; exact (Kp.refl (fun q => q = w.heap.size) w4).setCell _ _ (.inl rfl)
  have hr0 : w5.heap[w.heap.size]? = some (.cells #[.int .i64 k, .int .i64 n, .string s, .slice p2 q2 r2, .slice p4 q4 r4, vb] 35 (0, 0)) := by rw [← hw5]; exact heap_set_same' hr0 _
  have hr1 := (hk5.block _ (Array.getElem?_eq_some_iff.1 hr1).1 (by omega)).trans hr1
  have g3 := g3.imp (fun _ e => e) (cells_kp hk5 (fun q e e2 => by have := e.1; omega)) (fun t cs e => TermAt.kp e hk5 (fun q e e2 => by have := e.1; omega))
  have g5 := g4.imp (fun _ e => e) (cells_kp hk5 (fun q e e2 => by have := e.1; omega)) (fun t cs e => TermAt.kp e hk5 (fun q e e2 => by have := e.1; omega))
  have hk15 : Kp (fun q => q = w.heap.size) w1 w5 := (hk13.trans' (hk4.mono fun _ _ e => e.elim)).trans' hk5
  have c5 : w5.cell? ⟨w.heap.size, 5, none⟩ = some vb := by rw [cell_of_row w5 _ 5 _ _ _ hr0]; rfl
  have c5f : w5.frozen? ⟨w.heap.size, 5, none⟩ = false := by simp [World.frozen?, hr0]
  have hz45 := hk5.size
  have H5 := Lib.hid (And.intro hr0 (And.intro hr1 (And.intro g3 (And.intro g5 (And.intro hk15 (And.intro hz4 (And.intro hz3 hz45)))))))
  clear hr0 hr1 g3 g4 g5 hk5 hk15 hz4 hz3 hk4 hF3 hk13 hk3 hz2 hk2 hk1 hz1 h1 h2 h3 hb
  go_wp2_with fail
  clear hw5
  obtain ⟨hr0, hr1, g3, g5, hk15, hz4, hz3, hz45⟩ := H5.out
  obtain ⟨hk1, _, _, hz1, hb, h1, h2, h3⟩ := H1.out
  have hz2 := H3.out.2.2.2.2.2.1
  have hF5 : ∀ q j u, F q → w.cell? ⟨q, j, none⟩ = some u → w5.cell? ⟨q, j, none⟩ = some u := fun q j u hq hc =>
    (hk15.cell (p := ⟨q, j, none⟩) (Nat.lt_of_lt_of_le (World.block_lt_of_cell? _ _ hc) hk1.size) (by have := World.block_lt_of_cell? _ _ hc; exact Nat.ne_of_lt this)).trans (cells_kp hk1 (F := F) (fun _ _ e => e) q j u hq hc)
  refine (copyBytes_own (h3.imp (fun _ e => e) hF5)).mono ?_
  rintro e w6 ⟨v6, rfl, g6, hk6⟩
  obtain ⟨p6, q6, r6, rfl⟩ := g6.form
  have hr0 := (hk6.block _ (Array.getElem?_eq_some_iff.1 hr0).1 (fun e => e)).trans hr0
  have hr1 := (hk6.block _ (Array.getElem?_eq_some_iff.1 hr1).1 (fun e => e)).trans hr1
  have hz5 := hk15.size
  have hz6 := hk6.size
  have c5 : w6.cell? ⟨w.heap.size, 5, none⟩ = some vb := by rw [cell_of_row w6 _ 5 _ _ _ hr0]; rfl
  have c5f : w6.frozen? ⟨w.heap.size, 5, none⟩ = false := by simp [World.frozen?, hr0]
  have g3 := g3.imp (fun _ e => e) (cells_kp hk6 (fun _ _ e => e)) (fun t cs e => TermAt.kp e hk6 (fun _ _ e => e))
  have g5 := g5.imp (fun _ e => e) (cells_kp hk6 (fun _ _ e => e)) (fun t cs e => TermAt.kp e hk6 (fun _ _ e => e))
  obtain ⟨w7, hw7⟩ : ∃ w7, w6.setCell ⟨w.heap.size, 5, none⟩ (.slice p6 q6 r6) = w7 := ⟨_, rfl⟩
  have hk7 : Kp (fun q => q = w.heap.size) w6 w7 := by rw [← hw7]; exact (Kp.refl (fun q => q = w.heap.size) w6).setCell _ _ (.inl rfl)
  have hr0 : w7.heap[w.heap.size]? = some (.cells #[.int .i64 k, .int .i64 n, .string s, .slice p2 q2 r2, .slice p4 q4 r4, .slice p6 q6 r6] 35 (0, 0)) := by rw [← hw7]; exact heap_set_same' hr0 _
  have hr1 := (hk7.block _ (Array.getElem?_eq_some_iff.1 hr1).1 (by omega)).trans hr1
  have g3 := g3.imp (fun _ e => e) (cells_kp hk7 (fun q e e2 => by have := e.1; omega)) (fun t cs e => TermAt.kp e hk7 (fun q e e2 => by have := e.1; omega))
  have g5 := g5.imp (fun _ e => e) (cells_kp hk7 (fun q e e2 => by have := e.1; omega)) (fun t cs e => TermAt.kp e hk7 (fun q e e2 => by have := e.1; omega))
  have g7 := g6.imp (fun _ e => e) (cells_kp hk7 (fun q e e2 => by have := e.1; omega))
  have hk17 : Kp (fun q => q = w.heap.size) w1 w7 := (hk15.trans' (hk6.mono fun _ _ e => e.elim)).trans' hk7
  obtain ⟨hr9, hk9⟩ := sixSet_any (c0 := .int .i64 k) (c1 := .int .i64 n) (c2 := .string s) (c3 := .slice p2 q2 r2) (c4 := .slice p4 q4 r4) (c5 := .slice p6 q6 r6) hr1
  have d0 : w7.cell? ⟨w.heap.size, 0, none⟩ = some (.int .i64 k) := by rw [cell_of_row w7 _ 0 _ _ _ hr0]; rfl
  have d1 : w7.cell? ⟨w.heap.size, 1, none⟩ = some (.int .i64 n) := by rw [cell_of_row w7 _ 1 _ _ _ hr0]; rfl
  have d2 : w7.cell? ⟨w.heap.size, 2, none⟩ = some (.string s) := by rw [cell_of_row w7 _ 2 _ _ _ hr0]; rfl
  have d3 : w7.cell? ⟨w.heap.size, 3, none⟩ = some (.slice p2 q2 r2) := by rw [cell_of_row w7 _ 3 _ _ _ hr0]; rfl
  have d4 : w7.cell? ⟨w.heap.size, 4, none⟩ = some (.slice p4 q4 r4) := by rw [cell_of_row w7 _ 4 _ _ _ hr0]; rfl
  have d5 : w7.cell? ⟨w.heap.size, 5, none⟩ = some (.slice p6 q6 r6) := by rw [cell_of_row w7 _ 5 _ _ _ hr0]; rfl
  have e0 : w7.cell? ⟨w.heap.size + 1, 0, none⟩ = some (.int .i64 0) := by rw [cell_of_row w7 _ 0 _ _ _ hr1]; rfl
  have e1 : w7.cell? ⟨w.heap.size + 1, 1, none⟩ = some (.int .i64 0) := by rw [cell_of_row w7 _ 1 _ _ _ hr1]; rfl
  have e2 : w7.cell? ⟨w.heap.size + 1, 2, none⟩ = some (.string ⟨#[]⟩) := by rw [cell_of_row w7 _ 2 _ _ _ hr1]; rfl
  have e3 : w7.cell? ⟨w.heap.size + 1, 3, none⟩ = some (.slice none 0 0) := by rw [cell_of_row w7 _ 3 _ _ _ hr1]; rfl
  have e4 : w7.cell? ⟨w.heap.size + 1, 4, none⟩ = some (.slice none 0 0) := by rw [cell_of_row w7 _ 4 _ _ _ hr1]; rfl
  have e5 : w7.cell? ⟨w.heap.size + 1, 5, none⟩ = some (.slice none 0 0) := by rw [cell_of_row w7 _ 5 _ _ _ hr1]; rfl
  have ef : ∀ j, w7.frozen? ⟨w.heap.size + 1, j, none⟩ = false := fun j => by simp [World.frozen?, hr1]
  have hzz : w1.heap.size ≤ w7.heap.size := hk17.size
  have H7 := Lib.hid (And.intro hr9 (And.intro hk9 (And.intro g3 (And.intro g5 (And.intro g7 (And.intro hk17 (And.intro hk1 (And.intro hz1 (And.intro hb (And.intro hz2 (And.intro hz3 (And.intro hz4 (And.intro hz5 (And.intro hz6 hk7.size))))))))))))))
  clear hr9 hk9 g3 g5 g6 g7 hk17 hk1 hz1 hb hz2 hz3 hz4 hz5 hz6 hk7 hr0 hr1 hk6 hk15 hF5 h1 h2 h3 H1 H3 H5 Hih hzz
  go_wp2_with fail
  change bodyPost _ _ _ _ _ (sixSet w7 (w.heap.size + 1) (.int .i64 k) (.int .i64 n) (.string s) (.slice p2 q2 r2) (.slice p4 q4 r4) (.slice p6 q6 r6))
  clear hw7
  obtain ⟨w9, hw9⟩ : ∃ w9, sixSet w7 (w.heap.size + 1) (.int .i64 k) (.int .i64 n) (.string s) (.slice p2 q2 r2) (.slice p4 q4 r4) (.slice p6 q6 r6) = w9 := ⟨_, rfl⟩
  rw [hw9]
  obtain ⟨hr9, hk9, g3, g5, g7, hk17, hk1, hz1, hb, hz2, hz3, hz4, hz5, hz6, hz7⟩ := H7.out
  rw [hw9] at hr9 hk9
  have i0 : w9.cell? ⟨w.heap.size + 1, 0, none⟩ = some (.int .i64 k) := by rw [cell_of_row w9 _ 0 _ _ _ hr9]; rfl
  have i1 : w9.cell? ⟨w.heap.size + 1, 1, none⟩ = some (.int .i64 n) := by rw [cell_of_row w9 _ 1 _ _ _ hr9]; rfl
  have i2 : w9.cell? ⟨w.heap.size + 1, 2, none⟩ = some (.string s) := by rw [cell_of_row w9 _ 2 _ _ _ hr9]; rfl
  have i3 : w9.cell? ⟨w.heap.size + 1, 3, none⟩ = some (.slice p2 q2 r2) := by rw [cell_of_row w9 _ 3 _ _ _ hr9]; rfl
  have i4 : w9.cell? ⟨w.heap.size + 1, 4, none⟩ = some (.slice p4 q4 r4) := by rw [cell_of_row w9 _ 4 _ _ _ hr9]; rfl
  have i5 : w9.cell? ⟨w.heap.size + 1, 5, none⟩ = some (.slice p6 q6 r6) := by rw [cell_of_row w9 _ 5 _ _ _ hr9]; rfl
  have hkf : Kp (fun _ => False) w w9 := hk1.trans ((hk17.mono fun q _ e => .inr ⟨by omega, by omega⟩).trans' (hk9.mono fun q _ e => .inr ⟨by omega, by omega⟩))
  have hz9 := hk9.size
  have up : ∀ (B : Nat) (wx : World), w.heap.size + 2 ≤ B → wx.heap.size ≤ w7.heap.size → ∀ q, (B ≤ q ∧ q < wx.heap.size) → Own w.heap.size w9 q := fun B wx h1 h2 q hq => ⟨by omega, by omega⟩
  refine bodyPost_ret (v := .agg #[.int .i64 k, .int .i64 n, .string s, .slice p2 q2 r2, .slice p4 q4 r4, .slice p6 q6 r6]) (by simp [results, Tryd.results39, go_sem, i0, i1, i2, i3, i4, i5]) rfl ⟨_, rfl, ⟨_, _, _, rfl, hb, ?_, ?_, ?_⟩, hkf⟩
  · exact g3.imp (up _ _ (by omega) (by omega)) (cells_kp hk9 (fun q e e2 => by have := e.1; omega)) (fun t cs e => TermAt.imp (up _ _ (by omega) (by omega)) (cells_kp hk9 (fun q e e2 => by have := e.1; omega)) _ t cs e)
  · exact g5.imp (up _ _ (by omega) (by omega)) (cells_kp hk9 (fun q e e2 => by have := e.1; omega)) (fun t cs e => TermAt.imp (up _ _ (by omega) (by omega)) (cells_kp hk9 (fun q e e2 => by have := e.1; omega)) _ t cs e)
  · exact g7.imp (up _ _ (by omega) (by omega)) (cells_kp hk9 (fun q e e2 => by have := e.1; omega))

/-- a term of whatever depth is copied -/
theorem copy_any : ∀ h, CopyIs h
  | 0 => fun _ _ _ _ ht => ht.elim
  | h + 1 => copy_succ (copy_any h)
end Go.Proofs.YtpdepmkojbpklaaDoor
