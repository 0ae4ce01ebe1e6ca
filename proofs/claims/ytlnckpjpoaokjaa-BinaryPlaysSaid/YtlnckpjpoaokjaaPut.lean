/- binary: New, take, Put. -/
import Derived.Test.YtlnckpjpoaokjaaFind
import Derived.Deep.AppendLies
namespace Go.Proofs.Ytlnckpjpoaokjaa
open Go.RowKit

theorem ret_int {k : IntKind} {a b : Int} (h : a = b) : Ending.returned (.int k a) = .returned (.int k b) := by rw [h]
def sumL (l : List Sl) : Nat := (l.map fun s => s.bs.length).sum

/-- what always holds of a heap, where no slot was held or given more than N times -/
structure BInv (N : Nat) (a : Bn) : Prop where
  most : 1 ≤ a.most ∧ a.most ≤ 4096
  room : a.room ≤ 1048576
  len : a.slots.length ≤ a.most
  sum : a.used = sumL a.slots
  le : a.used ≤ a.room
  nodup : a.free.Nodup
  fr : ∀ i, i ∈ a.free ↔ ∃ s, a.slots[i]? = some s ∧ s.count = 0
  em : ∀ (i : Nat) (s : Sl), a.slots[i]? = some s → s.count = 0 → s.bs = []
  bd : ∀ (i : Nat) (s : Sl), a.slots[i]? = some s → s.count ≤ N ∧ s.gen ≤ N

/-- blocks of F, and new ones -/
def New (F : Nat → Prop) (w : World) (F' : Nat → Prop) : Prop := ∀ q, F' q → F q ∨ w.heap.size ≤ q
theorem New.same (F : Nat → Prop) (w : World) : New F w F := fun _ h => .inl h
theorem New.trans {F F1 F2 : Nat → Prop} {w w1 : World} (h : New F w F1) (h1 : New F1 w1 F2) (hz : w.heap.size ≤ w1.heap.size) : New F w F2 := fun q hq => by
  rcases h1 q hq with e | e
  · exact h q e
  · exact .inr (Nat.le_trans hz e)
def BAt (F : Nat → Prop) (w : World) (b : Nat) (a : Bn) : Prop := ∃ ss fs ps, BRep F w b a ss fs ps
/-- the heap has become a', and nothing else has turned -/
def BGo (F : Nat → Prop) (w : World) (b : Nat) (a' : Bn) (w' : World) : Prop := Kp F w w' ∧ ∃ F', New F w F' ∧ BAt F' w' b a'
theorem kp_new {F F' : Nat → Prop} {w w1 w2 : World} (h : Kp F w w1) (hn : New F w F') (k : Kp F' w1 w2) : Kp F w w2 :=
  h.trans (k.mono fun q hq hF => (hn q hF).elim .inl (fun e => .inr ⟨e, hq⟩))
theorem BAt.lt {F : Nat → Prop} {w : World} {b : Nat} {a : Bn} (h : BAt F w b a) : ∀ q, F q → q < w.heap.size := by obtain ⟨_, _, _, h⟩ := h; exact h.lt
theorem BAt.kp {F G : Nat → Prop} {w w' : World} {b : Nat} {a : Bn} (h : BAt F w b a) (hk : Kp G w w') (hd : ∀ q, F q → ¬ G q) : BAt F w' b a := by obtain ⟨_, _, _, h⟩ := h; exact ⟨_, _, _, h.kp hk hd⟩
theorem BGo.then {F : Nat → Prop} {w w1 w2 : World} {b : Nat} {a1 a2 : Bn} (h : BGo F w b a1 w1) (hs : ∀ F1, BAt F1 w1 b a1 → BGo F1 w1 b a2 w2) : BGo F w b a2 w2 := by
  obtain ⟨hk, F1, hn, hA⟩ := h
  obtain ⟨hk2, F2, hn2, hB⟩ := hs F1 hA
  exact ⟨kp_new hk hn hk2, F2, hn.trans hn2 hk.size, hB⟩
theorem BGo.bad {F : Nat → Prop} {w w1 w2 : World} {b : Nat} {a1 : Bn} (h : BGo F w b a1 w1) (hk : Kp (fun _ => False) w1 w2) : BGo F w b a1 w2 := by
  obtain ⟨hk1, F1, hn, hA⟩ := h
  exact ⟨hk1.trans' (hk.mono fun _ _ e => e.elim), F1, hn, hA.kp hk (fun _ _ e => e)⟩

theorem Try.infoSlot : (Try.prog.info? 100).map (fun i => (i.zero, i.size, i.bytes)) = some (some (.agg #[.slice none 0 0, .int .i64 0, .int .i64 0]), 3, 40) := by kernel_rfl
theorem Try.infoInt : (Try.prog.info? 3).map (fun i => (i.zero, i.size, i.bytes)) = some (some (.int .i64 0), 1, 8) := by kernel_rfl

def aNew (m r : Nat) : Bn := ⟨m, r, 0, [], []⟩

set_option maxHeartbeats 400000 in
theorem new_ok (m r : Nat) (h1 : 1 ≤ m) (h2 : m ≤ 4096) (h3 : r ≤ 1048576) (w : World) :
    Calls Try.prog 6 #[.int .i64 m, .int .i64 r] w fun e w' => e = .returned (.tuple #[.pointer (some ⟨w.heap.size, 0, none⟩), .nilIface]) ∧ Kp (fun _ => False) w w' ∧ BAt (fun q => q = w.heap.size) w' w.heap.size (aNew m r) := by
  go_enter Try.func6, Try.ntmps6
  go_wp2
  go_ret2
  refine ⟨rfl, (Kp.refl _ w).alloc _, .slice none 0 0, .slice none 0 0, [], ?_⟩
  exact ⟨rfl, fun k e => by subst e; simp, heap_alloc_new w _, World.ownsRow_nil _ _ _ _, World.ownsRow_nil _ _ _ _, fun g hg => by simp [Value.ownBlock] at hg, fun g hg => by simp [Value.ownBlock] at hg, fun i s hs => by simp [aNew] at hs⟩

theorem bytesAt_nil (F : Nat → Prop) (w : World) : BytesAt F w [] (.slice none 0 0) := ⟨none, 0, rfl, by simp, by simp, fun i c hi => by simp at hi⟩

section
variable {F : Nat → Prop} {w w3 : World} {b : Nat} {a : Bn} {ss fs : Value} {ps : List (Value × Value × Value)}

/-- a slot that is free is laid behind the others -/
theorem BRep.push (h : BRep F w b a ss fs ps) {o : Obj} {g cap : Nat}
    (hown : w3.ownsRow 0 100 3 (.slice (some ⟨g, 0, none⟩) (a.slots.length + 1) cap) (a.slots.length + 1) (t3 ps ++ [.slice none 0 0, .int .i64 0, .int .i64 0]))
    (hg : (w.alloc o).grownBy w3 ss.ownBlock) (hat : ss.ownBlock = some g ∨ g = w.heap.size + 1) (hlt : g < w3.heap.size) :
    BGo F w b { a with slots := a.slots ++ [⟨[], 0, 0⟩] } (w3.setCell ⟨b, 3, none⟩ (.slice (some ⟨g, 0, none⟩) (a.slots.length + 1) cap)) := by
  have hk3 : Kp (fun q => ss.ownBlock = some q) w w3 := ((Kp.refl _ w).alloc o).grown hg (fun q hq => .inl hq)
  have hkF : Kp F w w3 := hk3.mono fun q _ e => h.fS q e
  have hz := hk3.size
  have hbS : ¬ ss.ownBlock = some b := fun e => h.neS e rfl
  obtain ⟨capg, curg, _, hgg, _⟩ := row_blk hown (g := g) rfl
  have hb3 := (hk3.block b (h.lt b h.inF) hbS).trans h.hb
  have hgb : g ≠ b := blk_ne hgg hb3 (by decide)
  have hks : Kp (fun q => q = b) w3 (w3.setCell ⟨b, 3, none⟩ (.slice (some ⟨g, 0, none⟩) (a.slots.length + 1) cap)) := (Kp.refl _ w3).setCell _ _ (.inl rfl)
  have byt : ∀ {l : List UInt8} {x : Value}, BytesAt (Byt F w) w l x → BytesAt (Byt (fun q => F q ∨ q = g) (w3.setCell ⟨b, 3, none⟩ (.slice (some ⟨g, 0, none⟩) (a.slots.length + 1) cap))) (w3.setCell ⟨b, 3, none⟩ (.slice (some ⟨g, 0, none⟩) (a.slots.length + 1) cap)) l x := by
    intro l x hx
    have h1 := byt_kp hx hk3 (fun q _ e cs hc => by obtain ⟨_, _, _, e', _⟩ := row_blk h.rs e; exact blk_ne hc e' (by decide) rfl)
    exact byt_more (byt_kp h1 hks (fun q _ e cs hc => by subst e; exact blk_ne hc hb3 (by decide) rfl)) (fun q hq => .inl hq)
  refine ⟨hkF.trans (hks.mono fun q _ e => .inl (e ▸ h.inF)), fun q => F q ∨ q = g, fun q hq => ?_, .slice (some ⟨g, 0, none⟩) (a.slots.length + 1) cap, fs, ps ++ [(.slice none 0 0, .int .i64 0, .int .i64 0)], ?_⟩
  · rcases hq with hq | rfl
    · exact .inl hq
    · rcases hat with e | e
      · exact .inl (h.fS _ e)
      · exact .inr (by omega)
  · refine ⟨.inl h.inF, ?_, heap_set_here hb3 _, ?_, ?_, fun q hq => .inr (by simpa [Value.ownBlock] using hq.symm), fun q hq => .inl (h.fF q hq), ?_⟩
    · intro q hq
      rcases hq with hq | rfl
      · have := h.lt q hq; simp [World.setCell]; omega
      · simpa [World.setCell] using hlt
    · have := row_set hown (p := ⟨b, 3, none⟩) (fun e => hgb (by simpa [Value.ownBlock] using e)) (.slice (some ⟨g, 0, none⟩) (a.slots.length + 1) cap)
      rw [t3_snoc, List.length_append]
      exact this
    · exact row_set (hk3.row h.rf (fun q hq e => h.neSF e hq rfl)) (fun e => h.neF e rfl) _
    · intro i s hs
      have hl := h.len
      by_cases hi : i < a.slots.length
      · rw [List.getElem?_append_left hi] at hs
        obtain ⟨v, h1, h2⟩ := h.el i s hs
        exact ⟨v, by rw [List.getElem?_append_left (by omega)]; exact h1, byt h2⟩
      · have hi2 := (List.getElem?_eq_some_iff.1 hs).1
        simp at hi2
        obtain rfl : i = a.slots.length := by omega
        rw [List.getElem?_append_right (Nat.le_refl _), Nat.sub_self] at hs
        simp at hs
        subst hs
        exact ⟨_, by rw [List.getElem?_append_right (by omega), hl, Nat.sub_self]; rfl, bytesAt_nil _ _⟩

set_option maxRecDepth 100000 in
set_option maxHeartbeats 1000000 in
theorem take_new (h : BRep F w b a ss fs ps) (hf : a.free = []) (hL : a.slots.length < 4096) :
    Calls Try.prog 45 #[.pointer (some ⟨b, 0, none⟩)] w fun e w' => e = .returned (.int .i64 a.slots.length) ∧ BGo F w b { a with slots := a.slots ++ [⟨[], 0, 0⟩] } w' := by
  obtain ⟨_, _, _, c3, c4, f0⟩ := h.cells
  obtain ⟨pf, cf, hfs⟩ : ∃ pf cf, fs = .slice pf 0 cf := by
    rcases h.rf.2 with ⟨e, _⟩ | ⟨g, cap, _, e, _⟩
    · exact ⟨none, 0, e⟩
    · exact ⟨_, cap, by rw [e, hf]; rfl⟩
  rw [hfs] at c4
  obtain ⟨L, hLe, hL1⟩ : ∃ L, a.slots.length = L ∧ L < 4096 := ⟨_, rfl, hL⟩
  have hrow := h.rs
  rw [hLe] at hrow
  have hoA : ∀ o, (w.alloc o).ownsRow 0 100 3 ss L (t3 ps) := fun o => hrow.alloc o
  have hnA : ∀ i u, [Value.slice none 0 0, .int .i64 0, .int .i64 0][i]? = some u → (w.alloc (.cells #[Value.slice none 0 0, .int .i64 0, .int .i64 0] 100)).cell? ((⟨w.heap.size, 0, none⟩ : Addr).add i) = some u :=
    World.news_of_block (cs := #[Value.slice none 0 0, .int .i64 0, .int .i64 0]) (heap_alloc_new w _)
  have hone : ∀ u ∈ [Value.slice none 0 0, .int .i64 0, .int .i64 0], u.oneCell' = true := by intro u hu; simp at hu; rcases hu with rfl | rfl | rfl <;> rfl
  have hc1 : L + 1 ≤ maxLen := by unfold maxLen; omega
  have hc2 : (L + 1) * 40 ≤ 140737488355328 := by omega
  obtain ⟨i0, hi, hz0, hz1, hz2⟩ := info_parts Try.infoSlot
  have hbl := h.lt b h.inF
  have hbS : ¬ ss.ownBlock = some b := fun e => h.neS e rfl
  have H := Lib.hid (And.intro h (And.intro hLe (And.intro hc1 (And.intro hc2 hbS))))
  clear h hf hL hLe hrow hc1 hc2 hbS hfs
  go_enter Try.func45, Try.ntmps45
  go_wp2_with (at_builtin; refine wpList_append_lies _ rfl _ _ 85 rfl 0 100 i0 (.agg #[.slice none 0 0, .int .i64 0, .int .i64 0]) 3 40 Try.underlying85 hi hz0 hz1 hz2 rfl (by omega) ss L _ rfl (hoA _) ⟨w.heap.size, 0, none⟩ 1 1 [.slice none 0 0, .int .i64 0, .int .i64 0] rfl rfl hnA hone (by omega) H.out.2.2.1 H.out.2.2.2.1 (Nat.zero_le _) (w.heap.size + 1) (by simp) ?_; intro g1 cap1 w3 hown hgrow hat hlt3; refine Hid.out ?_)
  have hkk : Kp (fun q => ss.ownBlock = some q) w w3 := ((Kp.refl _ w).alloc _).grown hgrow (fun q hq => .inl hq)
  have d3 : w3.cell? ⟨b, 3, none⟩ = some ss := (hkk.cell (p := ⟨b, 3, none⟩) hbl H.out.2.2.2.2).trans c3
  have e0 : ∀ j, w3.frozen? ⟨b, j, none⟩ = false := fun j => (hkk.frozen (p := ⟨b, j, none⟩) hbl H.out.2.2.2.2).trans (f0 j)
  have Hf := Lib.hid (H.out.1.push (by rw [H.out.2.1]; exact hown) hgrow hat hlt3)
  clear hkk hown hgrow hat hlt3 hnA hoA hone c3 c4 f0
  refine Lib.hid ?_
  go_wp2_with fail
  go_ret
  refine ⟨ret_int (by rw [H.out.2.1]), ?_⟩
  have := Hf.out
  rw [H.out.2.1] at this
  exact this

theorem row_prefix {base : Nat} {e : TypeId} {g n cap m : Nat} {xs : List Value} (h : w.ownsRow base e 1 (.slice (some ⟨g, 0, none⟩) n cap) n xs) (hm : m ≤ n) : w.ownsRow base e 1 (.slice (some ⟨g, 0, none⟩) m cap) m (xs.take m) := by
  have hl : xs.length = n := by simpa using h.1
  refine ⟨by simp; omega, ?_⟩
  rcases h.2 with ⟨e, _⟩ | ⟨g', cap', cur, e, hb, hg, h1, h2, h3, h4⟩
  · cases e
  · injection e with e _ e2
    injection e with e
    injection e with e
    subst e e2
    refine .inr ⟨g, cap, cur, rfl, hb, hg, by omega, h2, h3, ?_⟩
    rw [Nat.mul_one] at h4 ⊢
    rw [← h4, List.take_take, Nat.min_eq_left hm]

set_option maxRecDepth 100000 in
set_option maxHeartbeats 1000000 in
theorem take_old (h : BRep F w b a ss fs ps) {i : Nat} {rest : List Nat} (hf : a.free = rest ++ [i]) (hL : rest.length < 4096) :
    Calls Try.prog 45 #[.pointer (some ⟨b, 0, none⟩)] w fun e w' => e = .returned (.int .i64 i) ∧ BGo F w b { a with free := rest } w' := by
  obtain ⟨_, _, _, c3, c4, f0⟩ := h.cells
  have hfl : a.free.length = rest.length + 1 := by rw [hf]; simp
  obtain ⟨gf, capf, hfs, _, _⟩ := h.rf.form (by omega)
  obtain ⟨capx, cur, hx, hgg, hcx⟩ := row_blk h.rf (g := gf) (by rw [hfs]; rfl)
  rw [hfs] at hx
  injection hx with _ _ hx
  subst hx
  have hrf := h.rf
  rw [hfs, hfl] at hrf
  rw [hfs, hfl] at c4
  have ci : w.cell? ⟨gf, rest.length, none⟩ = some (.int .i64 i) := by
    rw [hrf.cellAt _ (by omega), hf]
    simp [nats]
  have hpre := row_prefix hrf (m := rest.length) (by omega)
  have htk : (nats a.free).take rest.length = nats rest := by rw [hf]; simp [nats]
  rw [htk] at hpre
  have Hf := Lib.hid (h.setFree rest _ hpre (fun g hg => h.fF g (by rw [hfs]; exact hg)))
  obtain ⟨m, hm, hm1, hm2⟩ : ∃ m, rest.length = m ∧ m < 4096 ∧ m + 1 ≤ capf := ⟨_, rfl, hL, by omega⟩
  rw [hm] at ci c4
  have Hm := Lib.hid hm
  clear hm hpre htk hrf hcx hf hfl hfs h hL hgg c3
  go_enter Try.func45, Try.ntmps45
  go_wp2_with fail
  go_ret
  have hf2 := Hf.out
  rw [Hm.out] at hf2
  exact ⟨rfl, hf2.2, F, New.same F w, _, _, _, hf2.1⟩
end
end Go.Proofs.Ytlnckpjpoaokjaa
