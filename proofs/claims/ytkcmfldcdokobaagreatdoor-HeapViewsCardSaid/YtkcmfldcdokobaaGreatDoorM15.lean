/- binary: New, take, Put. binary: Put. -/
import Derived.Test.YtkcmfldcdokobaaGreatDoorM05
import Derived.Test.YtkcmfldcdokobaaGreatDoorM14
import Derived.Deep.AppendLies
import Derived.RegionTactic
import Derived.BigQuiet
import Derived.Deep.QuietTactic
import Derived.IntWalk
/- binary: New, take, Put. -/
namespace Go.Proofs.YtkcmfldcdokobaaGreatDoor
open Go.RowKit

theorem ret_int {k : IntKind} {a b : Int} (h : a = b) : Ending.returned (.int k a) = .returned (.int k b) := by rw [h]
def sumL (l : List Sl) : Nat := (l.map fun s => s.bs.length).sum

/-- what always holds of a heap, where no slot was held or given more than N times -/
structure BInv (N : Nat) (a : Bn) : Prop where
  most : 1 ≤ a.most ∧ a.most ≤ 4096
  room : a.room ≤ 1048576
  len : a.slots.length ≤ a.most
  sum : a.used = sumL a.slots
  le : a.used ≤ a.room
  nodup : a.free.Nodup
  fr : ∀ i, i ∈ a.free ↔ ∃ s, a.slots[i]? = some s ∧ s.count = 0
  em : ∀ (i : Nat) (s : Sl), a.slots[i]? = some s → s.count = 0 → s.bs = []
  bd : ∀ (i : Nat) (s : Sl), a.slots[i]? = some s → s.count ≤ N ∧ s.gen ≤ N

/-- blocks of F, and new ones -/
def New (F : Nat → Prop) (w : World) (F' : Nat → Prop) : Prop := ∀ q, F' q → F q ∨ w.heap.size ≤ q
theorem New.same (F : Nat → Prop) (w : World) : New F w F := fun _ h => .inl h
theorem New.trans {F F1 F2 : Nat → Prop} {w w1 : World} (h : New F w F1) (h1 : New F1 w1 F2) (hz : w.heap.size ≤ w1.heap.size) : New F w F2 := fun q hq => by
  rcases h1 q hq with e | e
  · exact h q e
  · exact .inr (Nat.le_trans hz e)
def BAt (F : Nat → Prop) (w : World) (b : Nat) (a : Bn) : Prop := ∃ ss fs ps, BRep F w b a ss fs ps
/-- the heap has become a', and nothing else has turned -/
def BGo (F : Nat → Prop) (w : World) (b : Nat) (a' : Bn) (w' : World) : Prop := Kp F w w' ∧ ∃ F', New F w F' ∧ BAt F' w' b a'
theorem kp_new {F F' : Nat → Prop} {w w1 w2 : World} (h : Kp F w w1) (hn : New F w F') (k : Kp F' w1 w2) : Kp F w w2 :=
  h.trans (k.mono fun q hq hF => (hn q hF).elim .inl (fun e => .inr ⟨e, hq⟩))
theorem BAt.lt {F : Nat → Prop} {w : World} {b : Nat} {a : Bn} (h : BAt F w b a) : ∀ q, F q → q < w.heap.size := by obtain ⟨_, _, _, h⟩ := h; exact h.lt
theorem BAt.kp {F G : Nat → Prop} {w w' : World} {b : Nat} {a : Bn} (h : BAt F w b a) (hk : Kp G w w') (hd : ∀ q, F q → ¬ G q) : BAt F w' b a := by obtain ⟨_, _, _, h⟩ := h; exact ⟨_, _, _, h.kp hk hd⟩
theorem BGo.then {F : Nat → Prop} {w w1 w2 : World} {b : Nat} {a1 a2 : Bn} (h : BGo F w b a1 w1) (hs : ∀ F1, BAt F1 w1 b a1 → BGo F1 w1 b a2 w2) : BGo F w b a2 w2 := by
  obtain ⟨hk, F1, hn, hA⟩ := h
  obtain ⟨hk2, F2, hn2, hB⟩ := hs F1 hA
  exact ⟨kp_new hk hn hk2, F2, hn.trans hn2 hk.size, hB⟩
theorem BGo.bad {F : Nat → Prop} {w w1 w2 : World} {b : Nat} {a1 : Bn} (h : BGo F w b a1 w1) (hk : Kp (fun _ => False) w1 w2) : BGo F w b a1 w2 := by
  obtain ⟨hk1, F1, hn, hA⟩ := h
  exact ⟨hk1.trans' (hk.mono fun _ _ e => e.elim), F1, hn, hA.kp hk (fun _ _ e => e)⟩

theorem Tryz.infoSlot : (Tryz.prog.info? 161).map (fun i => (i.zero, i.size, i.bytes)) = some (some (.agg #[.slice none 0 0, .int .i64 0, .int .i64 0]), 3, 40) := by kernel_rfl
theorem Tryz.infoInt : (Tryz.prog.info? 3).map (fun i => (i.zero, i.size, i.bytes)) = some (some (.int .i64 0), 1, 8) := by kernel_rfl

def aNew (m r : Nat) : Bn := ⟨m, r, 0, [], []⟩

set_option maxHeartbeats 400000 in
theorem new_ok (m r : Nat) (h1 : 1 ≤ m) (h2 : m ≤ 4096) (h3 : r ≤ 1048576) (w : World) :
    Calls Tryz.prog 61 #[.int .i64 m, .int .i64 r] w fun e w' => e = .returned (.tuple #[.pointer (some ⟨w.heap.size, 0, none⟩), .nilIface]) ∧ Kp (fun _ => False) w w' ∧ BAt (fun q => q = w.heap.size) w' w.heap.size (aNew m r) := by
  go_enter Tryz.func61, Tryz.ntmps61
  go_wp2
  go_ret2
  refine ⟨rfl, (Kp.refl _ w).alloc _, .slice none 0 0, .slice none 0 0, [], ?_⟩
  exact ⟨rfl, fun k e => by subst e; simp, heap_alloc_new w _, World.ownsRow_nil _ _ _ _, World.ownsRow_nil _ _ _ _, fun g hg => by simp [Value.ownBlock] at hg, fun g hg => by simp [Value.ownBlock] at hg, fun i s hs => by simp [aNew] at hs⟩

theorem bytesAt_nil (F : Nat → Prop) (w : World) : BytesAt F w [] (.slice none 0 0) := ⟨none, 0, rfl, by simp, by simp, fun i c hi => by simp at hi⟩

section
variable {F : Nat → Prop} {w w3 : World} {b : Nat} {a : Bn} {ss fs : Value} {ps : List (Value × Value × Value)}

/-- a slot that is free is laid behind the others -/
theorem BRep.push (h : BRep F w b a ss fs ps) {o : Obj} {g cap : Nat}
    (hown : w3.ownsRow 0 161 3 (.slice (some ⟨g, 0, none⟩) (a.slots.length + 1) cap) (a.slots.length + 1) (t3 ps ++ [.slice none 0 0, .int .i64 0, .int .i64 0]))
    (hg : (w.alloc o).grownBy w3 ss.ownBlock) (hat : ss.ownBlock = some g ∨ g = w.heap.size + 1) (hlt : g < w3.heap.size) :
    BGo F w b { a with slots := a.slots ++ [⟨[], 0, 0⟩] } (w3.setCell ⟨b, 3, none⟩ (.slice (some ⟨g, 0, none⟩) (a.slots.length + 1) cap)) := by
  have hk3 : Kp (fun q => ss.ownBlock = some q) w w3 := ((Kp.refl _ w).alloc o).grown hg (fun q hq => .inl hq)
  have hkF : Kp F w w3 := hk3.mono fun q _ e => h.fS q e
  have hz := hk3.size
  have hbS : ¬ ss.ownBlock = some b := fun e => h.neS e rfl
  obtain ⟨capg, curg, _, hgg, _⟩ := row_blk hown (g := g) rfl
  have hb3 := (hk3.block b (h.lt b h.inF) hbS).trans h.hb
  have hgb : g ≠ b := blk_ne hgg hb3 (by decide)
  have hks : Kp (fun q => q = b) w3 (w3.setCell ⟨b, 3, none⟩ (.slice (some ⟨g, 0, none⟩) (a.slots.length + 1) cap)) := (Kp.refl _ w3).setCell _ _ (.inl rfl)
  have byt : ∀ {l : List UInt8} {x : Value}, BytesAt (Byt F w) w l x → BytesAt (Byt (fun q => F q ∨ q = g) (w3.setCell ⟨b, 3, none⟩ (.slice (some ⟨g, 0, none⟩) (a.slots.length + 1) cap))) (w3.setCell ⟨b, 3, none⟩ (.slice (some ⟨g, 0, none⟩) (a.slots.length + 1) cap)) l x := by
    intro l x hx
    have h1 := byt_kp hx hk3 (fun q _ e cs hc => by obtain ⟨_, _, _, e', _⟩ := row_blk h.rs e; exact blk_ne hc e' (by decide) rfl)
    exact byt_more (byt_kp h1 hks (fun q _ e cs hc => by subst e; exact blk_ne hc hb3 (by decide) rfl)) (fun q hq => .inl hq)
  refine ⟨hkF.trans (hks.mono fun q _ e => .inl (e ▸ h.inF)), fun q => F q ∨ q = g, fun q hq => ?_, .slice (some ⟨g, 0, none⟩) (a.slots.length + 1) cap, fs, ps ++ [(.slice none 0 0, .int .i64 0, .int .i64 0)], ?_⟩
  · rcases hq with hq | rfl
    · exact .inl hq
    · rcases hat with e | e
      · exact .inl (h.fS _ e)
      · exact .inr (by omega)
  · refine ⟨.inl h.inF, ?_, heap_set_here hb3 _, ?_, ?_, fun q hq => .inr (by simpa [Value.ownBlock] using hq.symm), fun q hq => .inl (h.fF q hq), ?_⟩
    · intro q hq
      rcases hq with hq | rfl
      · have := h.lt q hq; simp [World.setCell]; omega
      · simpa [World.setCell] using hlt
    · have := row_set hown (p := ⟨b, 3, none⟩) (fun e => hgb (by simpa [Value.ownBlock] using e)) (.slice (some ⟨g, 0, none⟩) (a.slots.length + 1) cap)
      rw [t3_snoc, List.length_append]
      exact this
    · exact row_set (hk3.row h.rf (fun q hq e => h.neSF e hq rfl)) (fun e => h.neF e rfl) _
    · intro i s hs
      have hl := h.len
      by_cases hi : i < a.slots.length
      · rw [List.getElem?_append_left hi] at hs
        obtain ⟨v, h1, h2⟩ := h.el i s hs
        exact ⟨v, by rw [List.getElem?_append_left (by omega)]; exact h1, byt h2⟩
      · have hi2 := (List.getElem?_eq_some_iff.1 hs).1
        simp at hi2
        obtain rfl : i = a.slots.length := by omega
        rw [List.getElem?_append_right (Nat.le_refl _), Nat.sub_self] at hs
        simp at hs
        subst hs
        exact ⟨_, by rw [List.getElem?_append_right (by omega), hl, Nat.sub_self]; rfl, bytesAt_nil _ _⟩

set_option maxRecDepth 100000 in
set_option maxHeartbeats 1000000 in
theorem take_new (h : BRep F w b a ss fs ps) (hf : a.free = []) (hL : a.slots.length < 4096) :
    Calls Tryz.prog 165 #[.pointer (some ⟨b, 0, none⟩)] w fun e w' => e = .returned (.int .i64 a.slots.length) ∧ BGo F w b { a with slots := a.slots ++ [⟨[], 0, 0⟩] } w' := by
  obtain ⟨_, _, _, c3, c4, f0⟩ := h.cells
  obtain ⟨pf, cf, hfs⟩ : ∃ pf cf, fs = .slice pf 0 cf := by
    rcases h.rf.2 with ⟨e, _⟩ | ⟨g, cap, _, e, _⟩
    · exact ⟨none, 0, e⟩
    · exact ⟨_, cap, by rw [e, hf]; rfl⟩
  rw [hfs] at c4
  obtain ⟨L, hLe, hL1⟩ : ∃ L, a.slots.length = L ∧ L < 4096 := ⟨_, rfl, hL⟩
  have hrow := h.rs
  rw [hLe] at hrow
  have hoA : ∀ o, (w.alloc o).ownsRow 0 161 3 ss L (t3 ps) := fun o => hrow.alloc o
  have hnA : ∀ i u, [Value.slice none 0 0, .int .i64 0, .int .i64 0][i]? = some u → (w.alloc (.cells #[Value.slice none 0 0, .int .i64 0, .int .i64 0] 161)).cell? ((⟨w.heap.size, 0, none⟩ : Addr).add i) = some u :=
    World.news_of_block (cs := #[Value.slice none 0 0, .int .i64 0, .int .i64 0]) (heap_alloc_new w _)
  have hone : ∀ u ∈ [Value.slice none 0 0, .int .i64 0, .int .i64 0], u.oneCell' = true := by intro u hu; simp at hu; rcases hu with rfl | rfl | rfl <;> rfl
  have hc1 : L + 1 ≤ maxLen := by unfold maxLen; omega
  have hc2 : (L + 1) * 40 ≤ 140737488355328 := by omega
  obtain ⟨i0, hi, hz0, hz1, hz2⟩ := info_parts Tryz.infoSlot
  have hbl := h.lt b h.inF
  have hbS : ¬ ss.ownBlock = some b := fun e => h.neS e rfl
  have H := Lib.hid (And.intro h (And.intro hLe (And.intro hc1 (And.intro hc2 hbS))))
  clear h hf hL hLe hrow hc1 hc2 hbS hfs
  go_enter Tryz.func165, Tryz.ntmps165
  go_wp2_with (at_builtin; refine wpList_append_lies _ rfl _ _ 117 rfl 0 161 i0 (.agg #[.slice none 0 0, .int .i64 0, .int .i64 0]) 3 40 Tryz.underlying117 hi hz0 hz1 hz2 rfl (by omega) ss L _ rfl (hoA _) ⟨w.heap.size, 0, none⟩ 1 1 [.slice none 0 0, .int .i64 0, .int .i64 0] rfl rfl hnA hone (by omega) H.out.2.2.1 H.out.2.2.2.1 (Nat.zero_le _) (w.heap.size + 1) (by simp) ?_; intro g1 cap1 w3 hown hgrow hat hlt3; refine Hid.out ?_)
  have hkk : Kp (fun q => ss.ownBlock = some q) w w3 := ((Kp.refl _ w).alloc _).grown hgrow (fun q hq => .inl hq)
  have d3 : w3.cell? ⟨b, 3, none⟩ = some ss := (hkk.cell (p := ⟨b, 3, none⟩) hbl H.out.2.2.2.2).trans c3
  have e0 : ∀ j, w3.frozen? ⟨b, j, none⟩ = false := fun j => (hkk.frozen (p := ⟨b, j, none⟩) hbl H.out.2.2.2.2).trans (f0 j)
  have Hf := Lib.hid (H.out.1.push (by rw [H.out.2.1]; exact hown) hgrow hat hlt3)
  clear hkk hown hgrow hat hlt3 hnA hoA hone c3 c4 f0
  refine Lib.hid ?_
  go_wp2_with fail
  go_ret
  refine ⟨ret_int (by rw [H.out.2.1]), ?_⟩
  have := Hf.out
  rw [H.out.2.1] at this
  exact this

theorem row_prefix {base : Nat} {e : TypeId} {g n cap m : Nat} {xs : List Value} (h : w.ownsRow base e 1 (.slice (some ⟨g, 0, none⟩) n cap) n xs) (hm : m ≤ n) : w.ownsRow base e 1 (.slice (some ⟨g, 0, none⟩) m cap) m (xs.take m) := by
  have hl : xs.length = n := by simpa using h.1
  refine ⟨by simp; omega, ?_⟩
  rcases h.2 with ⟨e, _⟩ | ⟨g', cap', cur, e, hb, hg, h1, h2, h3, h4⟩
  · cases e
  · injection e with e _ e2
    injection e with e
    injection e with e
    subst e e2
    refine .inr ⟨g, cap, cur, rfl, hb, hg, by omega, h2, h3, ?_⟩
    rw [Nat.mul_one] at h4 ⊢
    rw [← h4, List.take_take, Nat.min_eq_left hm]

set_option maxRecDepth 100000 in
set_option maxHeartbeats 1000000 in
theorem take_old (h : BRep F w b a ss fs ps) {i : Nat} {rest : List Nat} (hf : a.free = rest ++ [i]) (hL : rest.length < 4096) :
    Calls Tryz.prog 165 #[.pointer (some ⟨b, 0, none⟩)] w fun e w' => e = .returned (.int .i64 i) ∧ BGo F w b { a with free := rest } w' := by
  obtain ⟨_, _, _, c3, c4, f0⟩ := h.cells
  have hfl : a.free.length = rest.length + 1 := by rw [hf]; simp
  obtain ⟨gf, capf, hfs, _, _⟩ := h.rf.form (by omega)
  obtain ⟨capx, cur, hx, hgg, hcx⟩ := row_blk h.rf (g := gf) (by rw [hfs]; rfl)
  rw [hfs] at hx
  injection hx with _ _ hx
  subst hx
  have hrf := h.rf
  rw [hfs, hfl] at hrf
  rw [hfs, hfl] at c4
  have ci : w.cell? ⟨gf, rest.length, none⟩ = some (.int .i64 i) := by
    rw [hrf.cellAt _ (by omega), hf]
    simp [nats]
  have hpre := row_prefix hrf (m := rest.length) (by omega)
  have htk : (nats a.free).take rest.length = nats rest := by rw [hf]; simp [nats]
  rw [htk] at hpre
  have Hf := Lib.hid (h.setFree rest _ hpre (fun g hg => h.fF g (by rw [hfs]; exact hg)))
  obtain ⟨m, hm, hm1, hm2⟩ : ∃ m, rest.length = m ∧ m < 4096 ∧ m + 1 ≤ capf := ⟨_, rfl, hL, by omega⟩
  rw [hm] at ci c4
  have Hm := Lib.hid hm
  clear hm hpre htk hrf hcx hf hfl hfs h hL hgg c3
  go_enter Tryz.func165, Tryz.ntmps165
  go_wp2_with fail
  go_ret
  have hf2 := Hf.out
  rw [Hm.out] at hf2
  exact ⟨rfl, hf2.2, F, New.same F w, _, _, _, hf2.1⟩
end
end Go.Proofs.YtkcmfldcdokobaaGreatDoor

/- binary: Put. -/
namespace Go.Proofs.YtkcmfldcdokobaaGreatDoor
open Go.RowKit
section
variable {F : Nat → Prop} {w w3 : World} {b : Nat} {a : Bn} {ss fs : Value} {ps : List (Value × Value × Value)} {N : Nat}

def putS : ByteArray := ⟨#[112, 117, 116]⟩

theorem nodup_le : ∀ (n : Nat) (l : List Nat), l.Nodup → (∀ i ∈ l, i < n) → l.length ≤ n
  | 0, l, _, h => by
    cases l with
    | nil => simp
    | cons x l => have := h x (by simp); omega
  | n + 1, l, hn, h => by
    by_cases hm : n ∈ l
    · have h1 := nodup_le n (l.erase n) (hn.erase n) (fun i hi => by
        have h2 := (hn.mem_erase_iff).1 hi
        have := h i h2.2
        omega)
      rw [List.length_erase_of_mem hm] at h1
      omega
    · have h1 := nodup_le n l hn (fun i hi => by
        have := h i hi
        have : i ≠ n := fun e => hm (e ▸ hi)
        omega)
      omega
theorem BInv.free_le (h : BInv N a) : a.free.length ≤ a.slots.length := nodup_le _ _ h.nodup (fun i hi => by
  obtain ⟨s, hs, _⟩ := (h.fr i).1 hi
  exact (List.getElem?_eq_some_iff.1 hs).1)

theorem Kp.drewN' {F : Nat → Prop} {w w' : World} (h : Kp F w w') (k : Nat) : Kp F w (w'.drewN k) := ⟨h.os, h.tape, h.output, h.size, h.block⟩
theorem slice_form {base : Nat} {e : TypeId} {size : Nat} {v : Value} {n : Nat} {xs : List Value} (h : w.ownsRow base e size v n xs) : ∃ po cap, v = .slice po n cap := by
  rcases h.2 with ⟨e, e0⟩ | ⟨g, cap, _, e, _⟩
  · exact ⟨none, 0, by rw [e, e0]⟩
  · exact ⟨_, cap, e⟩

set_option maxRecDepth 100000 in
set_option maxHeartbeats 1000000 in
theorem put_full (h : BRep F w b a ss fs ps) (hI : BInv N a) (po : Option Addr) (len cap : Nat) (_hlen : len ≤ 9223372036854775807) (hfull : (a.slots.length = a.most ∧ a.free = []) ∨ a.room < a.used + len) :
    Calls Tryz.prog 152 #[.pointer (some ⟨b, 0, none⟩), .slice po len cap] w (EBad w (fun v => .tuple #[.int .i64 (-1), v]) [Lk.fault putS len, Lk.kind 2]) := by
  obtain ⟨c0, c1, c2, c3, c4, f0⟩ := h.cells
  obtain ⟨pS, capS, hS⟩ := slice_form h.rs
  obtain ⟨pF, capF, hF⟩ := slice_form h.rf
  rw [hS] at c3
  rw [hF] at c4
  have i1 := hI.most
  have i2 := hI.room
  have i3 := hI.len
  have i4 := hI.le
  have i5 : a.free.length ≤ a.slots.length := hI.free_le
  have hd : a.free.length = 0 ↔ a.free = [] := List.length_eq_zero_iff
  obtain ⟨L, hL⟩ : ∃ L, a.slots.length = L := ⟨_, rfl⟩
  obtain ⟨f, hf⟩ : ∃ f, a.free.length = f := ⟨_, rfl⟩
  obtain ⟨M, hM⟩ : ∃ M, a.most = M := ⟨_, rfl⟩
  obtain ⟨R, hR⟩ : ∃ R, a.room = R := ⟨_, rfl⟩
  obtain ⟨U, hU⟩ : ∃ U, a.used = U := ⟨_, rfl⟩
  simp only [hL, hf, hM, hR, hU] at *
  have g1 : IntKind.i64.wrap ((M : Int) - L) = (M : Int) - L := IntWalk.i64_in _ (by omega)
  obtain ⟨d, hd1, hd2, hd3⟩ : ∃ d : Int, (M : Int) - L + f = d ∧ 0 ≤ d ∧ d ≤ 8192 := ⟨_, rfl, by omega, by omega⟩
  have g2 : IntKind.i64.wrap ((M : Int) - L + f) = d := by rw [hd1]; exact IntWalk.i64_in _ (by omega)
  have g3 : IntKind.i64.wrap ((R : Int) - U) = (R : Int) - U := IntWalk.i64_in _ (by omega)
  by_cases h0 : d = 0
  · have k1 : (d == 0) = true := by simpa using h0
    clear hfull hd hd1 h hI hS hF hL hf hM hR hU h0 g3
    go_enter Tryz.func152, Tryz.ntmps152
    go_wp2_with fail
    go_region
    all_goals go_wp2_with fail
    all_goals go_region
    all_goals go_wp2_with (go_at_call 49; refine (at_any _ _ _ _ _).mono ?_; rintro e w' ⟨rfl, rfl⟩)
    all_goals go_ret2
    all_goals exact (ebad1 w _ _ _ _ (by decide) 2)
  · have k1 : (d == 0) = false := by simpa using h0
    have k2 : (R : Int) - U < len := by
      rcases hfull with ⟨e, e2⟩ | e
      · have := hd.2 e2; omega
      · omega
    clear hfull hd hd1 h hI hS hF hL hf hM hR hU h0
    go_enter Tryz.func152, Tryz.ntmps152
    go_wp2_with fail
    go_region
    all_goals go_wp2_with fail
    all_goals go_region
    all_goals go_wp2_with (go_at_call 49; refine (at_any _ _ _ _ _).mono ?_; rintro e w' ⟨rfl, rfl⟩)
    all_goals go_ret2
    all_goals exact (ebad1 w _ _ _ _ (by decide) 2)

/-- a slot is taken: i, which is s; what is there then is a1 -/
structure Taken (a : Bn) (i : Nat) (s : Sl) (a1 : Bn) : Prop where
  slot : a1.slots[i]? = some s
  bs : s.bs = []
  cnt : s.count = 0
  used : a1.used = a.used
  len : a1.slots.length ≤ 4096
  gen : s.gen ≤ 1000000000000000
  how : (a.free = [] ∧ a.slots.length < a.most ∧ i = a.slots.length ∧ s.gen = 0 ∧ a1 = { a with slots := a.slots ++ [⟨[], 0, 0⟩] }) ∨ (∃ rest, a.free = rest ++ [i] ∧ a.slots[i]? = some s ∧ a1 = { a with free := rest })

theorem take_any (h : BRep F w b a ss fs ps) (hI : BInv N a) (hN : N ≤ 1000000000000000) (hs : a.slots.length < a.most ∨ a.free ≠ []) :
    ∃ i s a1, Taken a i s a1 ∧ Calls Tryz.prog 165 #[.pointer (some ⟨b, 0, none⟩)] w fun e w' => e = .returned (.int .i64 i) ∧ BGo F w b a1 w' := by
  have h1 := hI.most
  have h3 := hI.len
  rcases List.eq_nil_or_concat a.free with hf | ⟨rest, i, hf⟩
  · have hL : a.slots.length < a.most := hs.elim id (fun e => absurd hf e)
    exact ⟨a.slots.length, ⟨[], 0, 0⟩, { a with slots := a.slots ++ [⟨[], 0, 0⟩] }, ⟨by simp, rfl, rfl, rfl, by simp; omega, by simp, .inl ⟨hf, hL, rfl, rfl, rfl⟩⟩, take_new h hf (by omega)⟩
  · rw [List.concat_eq_append] at hf
    obtain ⟨s, h4, h5⟩ := (hI.fr i).1 (by rw [hf]; simp)
    have h6 := hI.free_le
    rw [hf] at h6
    simp at h6
    exact ⟨i, s, { a with free := rest }, ⟨h4, hI.em i s h4 h5, h5, rfl, by show a.slots.length ≤ 4096; omega, by have := (hI.bd i s h4).2; omega, .inr ⟨rest, hf, h4, rfl⟩⟩, take_old h hf (by omega)⟩

/-- behind Put -/
def putIn (a1 : Bn) (i : Nat) (s : Sl) (l : List UInt8) : Bn := { a1 with used := a1.used + l.length, slots := a1.slots.set i ⟨l, 1, s.gen⟩ }

theorem put_slots {a1 : Bn} {i : Nat} {s : Sl} (h : BRep F w b a1 ss fs ps) (hs : a1.slots[i]? = some s) {g cap : Nat} (hv : ss = .slice (some ⟨g, 0, none⟩) a1.slots.length cap) {l : List UInt8} {v' : Value} (hb : BytesAt (Byt F w) w l v') :
    BAt F (((w.setCell ⟨g, i * 3, none⟩ v').setCell ⟨g, i * 3 + 1, none⟩ (.int .i64 1)).setCell ⟨b, 2, none⟩ (.int .i64 (a1.used + l.length : Nat))) b (putIn a1 i s l) ∧
      Kp F w (((w.setCell ⟨g, i * 3, none⟩ v').setCell ⟨g, i * 3 + 1, none⟩ (.int .i64 1)).setCell ⟨b, 2, none⟩ (.int .i64 (a1.used + l.length : Nat))) := by
  obtain ⟨g0, c0, v, hv0, hp, hby, _⟩ := h.slot hs
  have h1 := h.setSlot (s' := ⟨l, s.count, s.gen⟩) hs hv hp (i * 3) v' v' (t3_set ps i _ hp v').1 hb
  have hil := (List.getElem?_eq_some_iff.1 hs).1
  have hpl := (List.getElem?_eq_some_iff.1 hp).1
  have hb' : BytesAt (Byt F (w.setCell ⟨g, i * 3, none⟩ v')) (w.setCell ⟨g, i * 3, none⟩ v') l v' := by
    obtain ⟨x, hx1, hx2⟩ := h1.1.el i ⟨l, s.count, s.gen⟩ (List.getElem?_set_self (by simpa using hil))
    rw [List.getElem?_set_self (by simpa using hpl)] at hx1
    injection hx1 with hx1
    injection hx1 with hx1
    subst hx1
    exact hx2
  have h2 := h1.1.setSlot (s := ⟨l, s.count, s.gen⟩) (s' := ⟨l, 1, s.gen⟩) (v := v') (by simp [hil]) hv (by simp [hpl]) (i * 3 + 1) (.int .i64 1) v'
    ((t3_set (ps.set i (v', .int .i64 s.count, .int .i64 s.gen)) i (v', .int .i64 s.count, .int .i64 s.gen) (by simp [hpl]) (.int .i64 1)).2.1) hb'
  have h3 := h2.1.setUsed (a1.used + l.length)
  have h4 := (h1.2.trans' h2.2).trans' h3.2
  have h5 := h3.1
  simp only [List.set_set] at h5
  exact ⟨⟨ss, fs, _, h5⟩, h4⟩

set_option maxRecDepth 100000 in
set_option maxHeartbeats 2000000 in
theorem put_ok (h : BRep F w b a ss fs ps) (hI : BInv N a) (hN : N ≤ 1000000000000000) {G : Nat → Prop} {l : List UInt8} {v : Value} (hv : BytesAt G w l v) (hG : ∀ q, G q → ¬ F q)
    (hs : a.slots.length < a.most ∨ a.free ≠ []) (hl : a.used + l.length ≤ a.room) :
    ∃ i s a1, Taken a i s a1 ∧ Calls Tryz.prog 152 #[.pointer (some ⟨b, 0, none⟩), v] w fun e w' => e = .returned (.tuple #[.int .i64 (i + 4096 * s.gen), .nilIface]) ∧ BGo F w b (putIn a1 i s l) w' := by
  have h' := h.kp (((Kp.refl (fun _ => False) w).drew).drew) (fun _ _ e => e)
  obtain ⟨i, s, a1, hT, hcall⟩ := take_any h' hI hN hs
  refine ⟨i, s, a1, hT, ?_⟩
  obtain ⟨c0, c1, c2, c3, c4, f0⟩ := h.cells
  obtain ⟨pS, capS, hS⟩ := slice_form h.rs
  obtain ⟨pF, capF, hF⟩ := slice_form h.rf
  rw [hS] at c3
  rw [hF] at c4
  have i1 := hI.most
  have i2 := hI.room
  have i3 := hI.len
  have i4 := hI.le
  have i5 : a.free.length ≤ a.slots.length := hI.free_le
  have hd : a.free.length = 0 ↔ a.free = [] := List.length_eq_zero_iff
  obtain ⟨pv, capv, rfl, hv2, hv3, hv4⟩ := hv
  have Hv : Hid (BytesAt G w l (.slice pv l.length capv)) := Lib.hid ⟨pv, capv, rfl, hv2, hv3, hv4⟩
  have hu := hT.used
  have hTl := hT.len
  have hTi := (List.getElem?_eq_some_iff.1 hT.slot).1
  have HT := Lib.hid (And.intro hT hcall)
  obtain ⟨L, hL⟩ : ∃ L, a.slots.length = L := ⟨_, rfl⟩
  obtain ⟨f, hf⟩ : ∃ f, a.free.length = f := ⟨_, rfl⟩
  obtain ⟨M, hM⟩ : ∃ M, a.most = M := ⟨_, rfl⟩
  obtain ⟨R, hR⟩ : ∃ R, a.room = R := ⟨_, rfl⟩
  obtain ⟨U, hU⟩ : ∃ U, a.used = U := ⟨_, rfl⟩
  obtain ⟨len, hlen⟩ : ∃ len, l.length = len := ⟨_, rfl⟩
  have hs' : a.slots.length < a.most ∨ 0 < a.free.length := by
    rcases hs with e | e
    · exact .inl e
    · exact .inr (List.length_pos_iff.2 e)
  have Hs := Lib.hid (And.intro hlen (And.intro hu hU))
  rw [hlen] at Hv
  clear hv4 hv2 hT hcall hs hd
  rw [hlen] at hv3 hl ⊢
  rw [hL, hM, hf] at hs'
  rw [hL] at c3 i3 i5
  rw [hM] at c0 i1 i3
  rw [hR] at c1 i2 i4 hl
  rw [hU] at c2 i4 hl
  rw [hf] at c4 i5
  have g1 : IntKind.i64.wrap ((M : Int) - L) = (M : Int) - L := IntWalk.i64_in _ (by omega)
  obtain ⟨d, hd1, hd2, hd3⟩ : ∃ d : Int, (M : Int) - L + f = d ∧ 1 ≤ d ∧ d ≤ 8192 := ⟨_, rfl, by omega, by omega⟩
  have g2 : IntKind.i64.wrap ((M : Int) - L + f) = d := by rw [hd1]; exact IntWalk.i64_in _ (by omega)
  have g3 : IntKind.i64.wrap ((R : Int) - U) = (R : Int) - U := IntWalk.i64_in _ (by omega)
  have k1 : (d == 0) = false := by simp; omega
  have k2 : ¬ ((R : Int) - U < len) := by omega
  clear hd1 h h' hI hS hF hL hf hM hR hU hlen hu hs' hTl hTi
  go_enter Tryz.func152, Tryz.ntmps152
  go_wp2_with fail
  go_region
  all_goals go_wp2_with fail
  all_goals go_region
  all_goals go_wp2_with fail
  all_goals refine HT.out.2.mono ?_
  all_goals rintro e w1 ⟨rfl, hgo⟩
  all_goals
    obtain ⟨hk1, F1, hn1, ss1, fs1, ps1, hB1⟩ := hgo
    obtain ⟨e0, e1, e2, e3, e4, e5⟩ := hB1.cells
    obtain ⟨g, cap1, v0, hss1, hp1, hby1, d0, d1, d2, fz, hFg, hgb⟩ := hB1.slot HT.out.1.slot
    obtain ⟨L1, hL1, hL2, hL3⟩ : ∃ L1, a1.slots.length = L1 ∧ L1 ≤ 4096 ∧ i < L1 := ⟨_, rfl, HT.out.1.len, (List.getElem?_eq_some_iff.1 HT.out.1.slot).1⟩
    rw [hss1, hL1] at e3
    have hu1 : a1.used = U := Hs.out.2.1.trans Hs.out.2.2
    rw [hu1] at e2
    have hvb : BytesAt G w1 l (.slice pv len capv) := bytes_kp (bytes_kp Hv.out (((Kp.refl (fun _ => False) w).drew).drew) (fun _ _ e => e)) hk1 hG
    have H1 := Lib.hid (And.intro hk1 (And.intro hn1 (And.intro hB1 (And.intro hss1 (And.intro hL1 (And.intro hu1 hvb))))))
    clear hk1 hn1 hB1 hss1 hp1 hby1 hL1 hu1 hvb e0 e1 e4
    go_wp2_with fail
    refine (copied_any H1.out.2.2.2.2.2.2).mono ?_
    rintro e w2 ⟨v', rfl, hb2, hk2⟩
    obtain ⟨p', l', c', rfl⟩ := hb2.form
    have hz1 : w.heap.size ≤ w1.heap.size := H1.out.1.size
    have hB2 : BRep (fun q => F1 q ∨ Own w1.heap.size w2 q) w2 b a1 ss1 fs1 ps1 := (H1.out.2.2.1.kp hk2 (fun _ _ e => e)).more (fun q hq => .inl hq) (fun q hq => by
      rcases hq with hq | hq
      · exact Nat.lt_of_lt_of_le (H1.out.2.2.1.lt q hq) hk2.size
      · exact hq.2)
    have hb2' : BytesAt (Byt (fun q => F1 q ∨ Own w1.heap.size w2 q) w2) w2 l (.slice p' l' c') := byt_more hb2 (fun q hq => .inr hq)
    have hfin := put_slots hB2 HT.out.1.slot H1.out.2.2.2.1 hb2'
    rw [H1.out.2.2.2.2.2.1, Hs.out.1] at hfin
    obtain ⟨q0, q1, q2, q3, q4, q5⟩ := hB2.cells
    obtain ⟨g', cap', v0', hss', _, _, r0, r1, r2, rz, _, _⟩ := hB2.slot HT.out.1.slot
    rw [H1.out.2.2.2.1] at hss'
    injection hss' with hss' _ _
    injection hss' with hss'
    injection hss' with hss'
    subst hss'
    rw [H1.out.2.2.2.2.2.1] at q2
    have hbg : ¬ b = g := fun e => hgb e.symm
    have q2' : ((w2.setCell ⟨g, i * 3, none⟩ (.slice p' l' c')).setCell ⟨g, i * 3 + 1, none⟩ (.int .i64 1)).cell? ⟨b, 2, none⟩ = some (.int .i64 U) := by
      rw [World.cell?_setCell_other _ _ _ _ (fun e => hgb (congrArg Addr.block e)), World.cell?_setCell_other _ _ _ _ (fun e => hgb (congrArg Addr.block e))]
      exact q2
    have r1' : (w2.setCell ⟨g, i * 3, none⟩ (.slice p' l' c')).cell? ⟨g, i * 3 + 1, none⟩ = some (.int .i64 s.count) := by
      rw [World.cell?_setCell_other _ _ _ _ (fun e => by have e' := congrArg Addr.off e; simp only at e'; omega)]
      exact r1
    have Hfin := Lib.hid (And.intro hfin (And.intro hk2 hz1))
    clear hfin hB2 hb2 hb2' hk2 q0 q1 q3 q4 d0 d1 d2 fz e2 e3 e5 c0 c1 c2 c3 c4 f0
    go_wp2_with fail
    obtain ⟨⟨⟨ssx, fsx, psx, hB3⟩, hk3⟩, hk2, hz1⟩ := Hfin.out
    rw [show ((U + len : Nat) : Int) = (U : Int) + len by omega] at hB3 hk3
    have hsl : (putIn a1 i s l).slots[i]? = some ⟨l, 1, s.gen⟩ := by
      have := (List.getElem?_eq_some_iff.1 HT.out.1.slot).1
      simp [putIn, this]
    refine (handle_any hB3 hsl (by simp only [putIn, List.length_set]; exact HT.out.1.len) HT.out.1.gen).mono ?_
    rintro e w5 ⟨rfl, k, rfl⟩
    have hk4 := kp_new H1.out.1 H1.out.2.1 (hk2.mono (G := F1) fun _ _ e => e.elim)
    have hn4 : New F w.drew.drew (fun q => F1 q ∨ Own w1.heap.size w2 q) := fun q hq => by
      rcases hq with hq | hq
      · exact H1.out.2.1 q hq
      · exact .inr (Nat.le_trans hz1 hq.1)
    have hk5 := kp_new hk4 hn4 hk3
    have hk6 : Kp F w (_ : World) := (((Kp.refl F w).drew).drew).trans (hk5.mono fun _ _ e => .inl e)
    have Hk := Lib.hid (And.intro hk6 (And.intro hn4 hB3))
    clear hk4 hk5 hk6 hn4 hB3 hk3 hk2
    go_wp2_with fail
    go_ret2
    refine ⟨rfl, ⟨Hk.out.1.os, Hk.out.1.tape, Hk.out.1.output, Hk.out.1.size, Hk.out.1.block⟩, _, Hk.out.2.1, ssx, fsx, psx, Hk.out.2.2.kp (Kp.drewN' (Kp.refl (fun _ => False) _) k) (fun _ _ e => e)⟩
end
end Go.Proofs.YtkcmfldcdokobaaGreatDoor
