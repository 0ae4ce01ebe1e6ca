/- What the statements' Links, sameLinks and Err do with an error: a chain of Faults, at whose end there is a kind. -/
import Derived.Test.YtbdogiblndlimaaFrame
import Derived.Test.YtbdogiblndlimaaProg
import Derived.WalkSpells
import Derived.WalkLawsBesides
import Derived.Deep.LoopGhost
import Derived.Deep.RegionLaw
import Derived.Deep.RegionHeld3
import Derived.Lib.Hide
namespace Go.Proofs.Ytbdogiblndlimaa
open Go.RowKit

/-- A link of a chain: a Fault's Op and N, or a kind. -/
structure Lk where
  op : ByteArray
  n : Int
  k : Int

def Lk.cells (l : Lk) : List Value := [.string l.op, .int .i64 l.n, .int .i64 l.k]
def Lk.fault (op : ByteArray) (n : Int) : Lk := ⟨op, n, 0⟩
def Lk.kind (k : Int) : Lk := ⟨ByteArray.empty, 0, k⟩
def lkCells (l : List Lk) : List Value := l.flatMap Lk.cells
theorem lkCells_len (l : List Lk) : (lkCells l).length = l.length * 3 := by
  induction l with
  | nil => rfl
  | cons a l ih =>
    show (a.cells ++ lkCells l).length = _
    rw [List.length_append, ih]
    simp [Lk.cells]
    omega
theorem lkCells_snoc (l : List Lk) (a : Lk) : lkCells (l ++ [a]) = lkCells l ++ a.cells := by simp [lkCells]

/-- the error v is the chain l -/
def Chain (w : World) : Value → List Lk → Prop
  | v, [] => v = .nilIface
  | v, a :: r => (r = [] ∧ v = .iface 82 (.int .i64 a.k) ∧ a.op = ByteArray.empty ∧ a.n = 0 ∧ a.k ≠ 0) ∨
    (a.k = 0 ∧ ∃ g inner, v = .iface 97 (.pointer (some ⟨g, 0, none⟩)) ∧ w.heap[g]? = some (.cells #[.string a.op, .int .i64 a.n, inner] 99 (0, 0)) ∧ Chain w inner r)

theorem Chain.kp {w w' : World} (hk : Kp (fun _ => False) w w') : ∀ (l : List Lk) (v : Value), Chain w v l → Chain w' v l
  | [], _, h => h
  | a :: r, v, h => by
    rcases h with h | ⟨h0, g, inner, h1, h2, h3⟩
    · exact .inl h
    · exact .inr ⟨h0, g, inner, h1, (hk.block g (Array.getElem?_eq_some_iff.1 h2).1 (fun e => e)).trans h2, Chain.kp hk r inner h3⟩

theorem Chain.besides {w w' : World} {G : Nat → Prop} (hk : Kp G w w') (hG : ∀ g, G g → ∀ cs fr, w.heap[g]? ≠ some (.cells cs 99 fr)) : ∀ (l : List Lk) (v : Value), Chain w v l → Chain w' v l
  | [], _, h => h
  | a :: r, v, h => by
    rcases h with h | ⟨h0, g, inner, h1, h2, h3⟩
    · exact .inl h
    · exact .inr ⟨h0, g, inner, h1, (hk.block g (Array.getElem?_eq_some_iff.1 h2).1 (fun e => hG g e _ _ h2)).trans h2, Chain.besides hk hG r inner h3⟩

theorem Try.infoLink : (Try.prog.info? 101).map (fun i => (i.zero, i.size, i.bytes)) = some (some (.agg #[.string ByteArray.empty, .int .i64 0, .int .i64 0]), 3, 32) := by kernel_rfl

set_option maxHeartbeats 1000000 in
theorem keepe {wr w2 : World} {o : Obj} {row : Option Nat} {b : Nat} (hg : (wr.alloc o).drew.grownBy w2 row) (hb : b < wr.heap.size) (hne : some b ≠ row) (j : Nat) :
    w2.cell? ⟨b, j, none⟩ = wr.cell? ⟨b, j, none⟩ ∧ w2.frozen? ⟨b, j, none⟩ = wr.frozen? ⟨b, j, none⟩ :=
  ⟨(hg.cell_far ⟨b, j, none⟩ (by simp; omega) hne).trans (World.cell?_alloc_past _ _ _ hb), (hg.frozen_far ⟨b, j, none⟩ (by simp; omega) hne).trans (World.frozen?_alloc_past _ _ _ hb)⟩
theorem as46_46 (v : Value) (W : World) : (Instr.typeAssert (.iface 97 v) 25 97 true).run Try.prog W = .ok (.tuple #[v, .bool true]) W := by kernel_rfl
theorem as47_46 (v : Value) (W : World) : (Instr.typeAssert (.iface 82 v) 25 97 true).run Try.prog W = .ok (.tuple #[.pointer none, .bool false]) W := by kernel_rfl
theorem as47_47 (v : Value) (W : World) : (Instr.typeAssert (.iface 82 v) 25 82 true).run Try.prog W = .ok (.tuple #[v, .bool true]) W := by kernel_rfl

set_option maxHeartbeats 1000000 in
set_option maxRecDepth 100000 in
theorem links_any (l : List Lk) (v : Value) (w : World) (hl : l.length ≤ 9000) (h : Chain w v l) :
    Calls Try.prog 43 #[v] w fun e w' => ∃ s, e = .returned (.tuple #[s, .bool true]) ∧ w'.ownsRow w.heap.size 101 3 s l.length (lkCells l) ∧ Kp (fun _ => False) w w' := by
  have A1 := as46_46
  have A2 := as47_46
  have A3 := as47_47
  go_enter Try.func43, Try.ntmps43
  go_wp2_with fail
  go_loopg [0, 4, 5] (l.length + 1) (fun gk er ls kk wr => ∃ (j : Nat) (v s : Value), j ≤ l.length ∧ gk = l.length - j + 1 ∧ v = er ∧ s = ls ∧ kk = .int .i64 j ∧ wr.ownsRow w.heap.size 101 3 s j (lkCells (l.take j)) ∧ Chain wr v (l.drop j) ∧ Kp (fun _ => False) w wr)
  case atStart => exact ⟨0, _, _, by omega, rfl, rfl, rfl, rfl, World.ownsRow_nil _ _ _ _, h, Kp.refl _ w⟩
  case round =>
    obtain ⟨j, v2, s, hj, rfl, rfl, rfl, rfl, hrow, hch, hK⟩ := hrel
    by_cases hlt : j < l.length
    · have hdr : l.drop j = l[j] :: l.drop (j + 1) := List.drop_eq_getElem_cons hlt
      rw [hdr] at hch
      obtain ⟨a, ha⟩ : ∃ a, l[j] = a := ⟨_, rfl⟩
      have htk : l.take (j + 1) = l.take j ++ [a] := by rw [List.take_add_one, List.getElem?_eq_getElem hlt, ha]; rfl
      rw [ha] at hch
      have Ht := Lib.hid (And.intro htk hdr)
      clear htk hdr ha
      have hz := hK.size
      have hoA : ∀ o, (wr.alloc o).ownsRow w.heap.size 101 3 s j (lkCells (l.take j)) := fun o => hrow.alloc o
      have hbase : ∀ o, w.heap.size ≤ (wr.alloc o).heap.size := fun o => by simp; omega
      have hc1 : j + 1 ≤ maxLen := by unfold maxLen; omega
      have hc2 : (j + 1) * 32 ≤ 140737488355328 := by omega
      have Hc := Lib.hid (And.intro hc1 (And.intro hc2 hrow))
      obtain ⟨i0, hi, hz0, hz1, hz2⟩ := info_parts Try.infoLink
      clear hc1 hc2 hrow
      rcases hch with ⟨hr, rfl, h1, h2, h3⟩ | ⟨h0, g, inner, rfl, hg, hin⟩
      · obtain ⟨kk, hkk⟩ : ∃ kk, a.k = kk := ⟨_, rfl⟩
        rw [hkk] at h3
        have Hk := Lib.hid (And.intro hr (And.intro h1 (And.intro h2 hkk)))
        simp only [hkk]
        have h3' : (kk == 0) = false := by simpa using h3
        have h3'' : (kk != 0) = true := by simpa using h3
        clear hr h1 h2 hkk h3
        have hnA : ∀ i u, [Value.string ByteArray.empty, .int .i64 0, .int .i64 kk][i]? = some u → (wr.alloc (.cells #[.string ByteArray.empty, .int .i64 0, .int .i64 kk] 101)).cell? ((⟨wr.heap.size, 0, none⟩ : Addr).add i) = some u :=
          World.news_of_block (cs := #[.string ByteArray.empty, .int .i64 0, .int .i64 kk]) (heap_alloc_new wr _)
        have hone : ∀ u ∈ [Value.string ByteArray.empty, .int .i64 0, .int .i64 kk], u.oneCell' = true := by
          intro u hu; simp at hu; rcases hu with rfl | rfl | rfl <;> rfl
        go_wp2_with (at_builtin; refine wpList_append_lies _ rfl _ _ 83 rfl w.heap.size 101 i0 (.agg #[.string ByteArray.empty, .int .i64 0, .int .i64 0]) 3 32 Try.underlying83 hi hz0 hz1 hz2 rfl (by omega) s j _ rfl (hoA _) ⟨wr.heap.size, 0, none⟩ 1 1 [.string ByteArray.empty, .int .i64 0, .int .i64 kk] rfl rfl hnA hone (by omega) Hc.out.1 Hc.out.2.1 (hbase _) (wr.heap.size + 1) (by simp) ?_; intro g1 cap1 w3 hown hgrow hat hlt3)
        go_ret2
        have hjl : j + 1 = l.length := by
          have := Hk.out.1
          rw [List.drop_eq_nil_iff] at this
          omega
        refine ⟨_, rfl, ?_, (hK.alloc _).grown hgrow (fun q hq => .inr (Hc.out.2.2.lt q hq).1)⟩
        have e := congrArg lkCells Ht.out.1
        rw [List.take_of_length_le (by omega), lkCells_snoc, show a.cells = [Value.string ByteArray.empty, .int .i64 0, .int .i64 kk] by unfold Lk.cells; rw [Hk.out.2.1, Hk.out.2.2.1, Hk.out.2.2.2]] at e
        rw [e, ← hjl]
        exact hown
      · have hgl := (Array.getElem?_eq_some_iff.1 hg).1
        have c0 : wr.cell? ⟨g, 0, none⟩ = some (.string a.op) := by rw [cell_of_row wr g 0 _ _ _ hg]; rfl
        have c1 : wr.cell? ⟨g, 1, none⟩ = some (.int .i64 a.n) := by rw [cell_of_row wr g 1 _ _ _ hg]; rfl
        have c2 : wr.cell? ⟨g, 2, none⟩ = some inner := by rw [cell_of_row wr g 2 _ _ _ hg]; rfl
        have Hk := Lib.hid (And.intro h0 hin)
        have hne : some g ≠ s.ownBlock := by
          intro e
          rcases Hc.out.2.2.2 with ⟨e2, _⟩ | ⟨g', cap', cur', e2, _, e3, _⟩
          · rw [e2] at e; cases e
          · rw [e2] at e
            injection e with e
            subst e
            rw [hg] at e3
            injection e3 with e3
            injection e3 with _ e3
            exact absurd e3 (by decide)
        clear h0 hg hin
        have hoB : ∀ o, (wr.alloc o).drew.ownsRow w.heap.size 101 3 s j (lkCells (l.take j)) := fun o => ownsRow_of_heap (w := wr.alloc o) rfl (hoA o)
        have hnA : ∀ i u, [Value.string a.op, .int .i64 a.n, .int .i64 0][i]? = some u → (wr.alloc (.cells #[.string a.op, .int .i64 a.n, .int .i64 0] 101)).drew.cell? ((⟨wr.heap.size, 0, none⟩ : Addr).add i) = some u :=
          World.news_of_block (cs := #[.string a.op, .int .i64 a.n, .int .i64 0]) (heap_alloc_new wr _)
        have hone : ∀ u ∈ [Value.string a.op, .int .i64 a.n, .int .i64 0], u.oneCell' = true := by
          intro u hu; simp at hu; rcases hu with rfl | rfl | rfl <;> rfl
        go_wp2_with fail
        go_region_law ((refine step_append_lies _ (by rfl) _ _ 83 (by rfl) w.heap.size 101 i0 (.agg #[.string ByteArray.empty, .int .i64 0, .int .i64 0]) 3 32 Try.underlying83 hi hz0 hz1 hz2 (by rfl) (by omega) s j _ (by rfl) (hoB _) ⟨wr.heap.size, 0, none⟩ 1 1 [.string a.op, .int .i64 a.n, .int .i64 0] (by rfl) (by rfl) hnA hone (by omega) Hc.out.1 Hc.out.2.1 (hbase _) (wr.heap.size + 1) (by simp) ?_; intro g1 cap1 w3 hown hgrow hat hlt3))
        all_goals
          have c3 := (keepe hgrow hgl hne 2).1.trans c2
          go_wp2_with fail
          go_roundg (l.length - (j + 1) + 1)
          case measure => omega
          case rel =>
            refine ⟨j + 1, _, _, by omega, rfl, rfl, rfl, by go_num, ?_, ?_, (hK.alloc _).drew.grown hgrow (fun q hq => .inr (Hc.out.2.2.lt q hq).1)⟩
            · rw [Ht.out.1, lkCells_snoc, show a.cells = [Value.string a.op, .int .i64 a.n, .int .i64 0] by unfold Lk.cells; rw [Hk.out.1]]
              exact hown
            · refine Chain.besides (((Kp.refl (fun q => s.ownBlock = some q) wr).alloc _).drew.grown hgrow (fun q hq => .inl hq)) ?_ _ _ Hk.out.2
              intro q hq cs fr hcs
              rcases Hc.out.2.2.2 with ⟨e2, _⟩ | ⟨g', cap', cur', e2, _, e3, _⟩
              · rw [e2] at hq; cases hq
              · rw [e2] at hq
                injection hq with hq
                subst hq
                rw [hcs] at e3
                injection e3 with e3
                injection e3 with _ e3
                exact absurd e3 (by decide)
    · obtain rfl : j = l.length := by omega
      rw [List.drop_length] at hch
      have hch' : v2 = .nilIface := hch
      subst hch'
      rw [List.take_length] at hrow
      clear hch
      go_wp2_with fail
      go_ret2
      exact ⟨_, rfl, hrow, hK⟩

theorem lkCells_get : ∀ (l : List Lk) (i : Nat) (a : Lk), l[i]? = some a → (lkCells l)[i * 3]? = some (.string a.op) ∧ (lkCells l)[i * 3 + 1]? = some (.int .i64 a.n) ∧ (lkCells l)[i * 3 + 2]? = some (.int .i64 a.k)
  | [], i, a, h => by simp at h
  | b :: l, 0, a, h => by
    simp at h
    subst h
    exact ⟨rfl, rfl, rfl⟩
  | b :: l, i + 1, a, h => by
    have ih := lkCells_get l i a (by simpa using h)
    have e : ∀ k, (lkCells (b :: l))[(i + 1) * 3 + k]? = (lkCells l)[i * 3 + k]? := by
      intro k
      show (b.cells ++ lkCells l)[(i + 1) * 3 + k]? = _
      rw [List.getElem?_append_right (by simp [Lk.cells]; omega)]
      congr 1
      simp [Lk.cells]
      omega
    exact ⟨by rw [← ih.1]; exact e 0, by rw [← ih.2.1]; exact e 1, by rw [← ih.2.2]; exact e 2⟩

/-- a slice of links, in memory: cell by cell -/
theorem lk_at {w : World} {base : Nat} {s : Value} {l : List Lk} (h : w.ownsRow base 101 3 s l.length (lkCells l)) :
    ∃ po cap, s = .slice po l.length cap ∧ ∀ i a, l[i]? = some a → ∃ g, po = some ⟨g, 0, none⟩ ∧ w.cell? ⟨g, i * 3, none⟩ = some (.string a.op) ∧ w.cell? ⟨g, i * 3 + 1, none⟩ = some (.int .i64 a.n) ∧ w.cell? ⟨g, i * 3 + 2, none⟩ = some (.int .i64 a.k) := by
  have h' := h
  rcases h.2 with ⟨e, h0⟩ | ⟨g, cap, cur, e, _⟩
  · refine ⟨none, 0, by rw [h0]; exact e, fun i a ha => ?_⟩
    have := (List.getElem?_eq_some_iff.1 ha).1
    omega
  · refine ⟨_, cap, e, fun i a ha => ⟨g, rfl, ?_⟩⟩
    have hlt := (List.getElem?_eq_some_iff.1 ha).1
    rw [e] at h'
    have hg := lkCells_get l i a ha
    exact ⟨by rw [h'.cellAt _ (by omega), hg.1], by rw [h'.cellAt _ (by omega), hg.2.1], by rw [h'.cellAt _ (by omega), hg.2.2]⟩

set_option maxHeartbeats 1000000 in
set_option maxRecDepth 100000 in
theorem sameLinks_any (l : List Lk) (s1 s2 : Value) (w : World) (base : Nat) (hl : l.length ≤ 9000) (h1 : w.ownsRow base 101 3 s1 l.length (lkCells l)) (h2 : w.ownsRow base 101 3 s2 l.length (lkCells l)) :
    Calls Try.prog 44 #[s1, s2] w fun e w' => e = .returned (.bool true) ∧ Kp (fun _ => False) w w' := by
  obtain ⟨p1, c1, rfl, g1⟩ := lk_at h1
  obtain ⟨p2, c2, rfl, g2⟩ := lk_at h2
  clear h1 h2
  go_enter Try.func44, Try.ntmps44
  go_wp2_with fail
  go_loopg [5] l.length (fun gk i wr => ∃ (j k : Nat), j ≤ l.length ∧ gk = l.length - j ∧ i = .int .i64 j ∧ wr = w.drewN k)
  case atStart => exact ⟨0, 0, by omega, rfl, rfl, rfl⟩
  case round =>
    obtain ⟨j, k, hj, rfl, rfl, rfl⟩ := hrel
    by_cases hlt : j < l.length
    · obtain ⟨ga, rfl, a1, a2, a3⟩ := g1 j l[j] (List.getElem?_eq_getElem hlt)
      obtain ⟨gb, rfl, b1, b2, b3⟩ := g2 j l[j] (List.getElem?_eq_getElem hlt)
      obtain ⟨a, ha⟩ : ∃ a, l[j] = a := ⟨_, rfl⟩
      rw [ha] at a1 a2 a3 b1 b2 b3
      clear ha g1 g2
      have hli : (j : Int) < l.length := by omega
      go_wp2_with fail
      go_region
      all_goals go_wp2_with fail
      all_goals go_roundg (l.length - (j + 1))
      case measure => omega
      case rel => exact ⟨j + 1, k + 1, by omega, rfl, by go_num, rfl⟩
    · obtain rfl : j = l.length := by omega
      clear g1 g2
      go_wp2_with fail
      go_ret
      exact ⟨rfl, ⟨rfl, rfl, rfl, Nat.le_refl _, fun _ _ _ => rfl⟩⟩

end Go.Proofs.Ytbdogiblndlimaa
