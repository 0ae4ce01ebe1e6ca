/- The document's own errors (links by pointers): what K, f, Links make of them, and that Ref holds an error against one of them. -/
import Derived.Test.YtbdogiblndlimaaErr
namespace Go.Proofs.Ytbdogiblndlimaa
open Go.RowKit

/-- the document's error v is the chain l -/
def XCh (w : World) : Value → List Lk → Prop
  | v, [] => v = .pointer none
  | v, a :: r => (r = [] ∧ ∃ g, v = .pointer (some ⟨g, 0, none⟩) ∧ w.heap[g]? = some (.cells #[.string ByteArray.empty, .int .i64 0, .pointer none, .int .i64 a.k] 96 (0, 0)) ∧ a.op = ByteArray.empty ∧ a.n = 0) ∨
    (a.k = 0 ∧ r ≠ [] ∧ ∃ g gi, v = .pointer (some ⟨g, 0, none⟩) ∧ w.heap[g]? = some (.cells #[.string a.op, .int .i64 a.n, .pointer (some ⟨gi, 0, none⟩), .int .i64 0] 96 (0, 0)) ∧ XCh w (.pointer (some ⟨gi, 0, none⟩)) r)

theorem XCh.kp {w w' : World} (hk : Kp (fun _ => False) w w') : ∀ (l : List Lk) (v : Value), XCh w v l → XCh w' v l
  | [], _, h => h
  | a :: r, v, h => by
    rcases h with ⟨hr, g, h1, h2, h3⟩ | ⟨h0, hr, g, gi, h1, h2, h3⟩
    · exact .inl ⟨hr, g, h1, (hk.block g (Array.getElem?_eq_some_iff.1 h2).1 (fun e => e)).trans h2, h3⟩
    · exact .inr ⟨h0, hr, g, gi, h1, (hk.block g (Array.getElem?_eq_some_iff.1 h2).1 (fun e => e)).trans h2, XCh.kp hk r _ h3⟩

theorem XCh.besides {w w' : World} {G : Nat → Prop} (hk : Kp G w w') (hG : ∀ g, G g → ∀ cs fr, w.heap[g]? ≠ some (.cells cs 96 fr)) : ∀ (l : List Lk) (v : Value), XCh w v l → XCh w' v l
  | [], _, h => h
  | a :: r, v, h => by
    rcases h with ⟨hr, g, h1, h2, h3⟩ | ⟨h0, hr, g, gi, h1, h2, h3⟩
    · exact .inl ⟨hr, g, h1, (hk.block g (Array.getElem?_eq_some_iff.1 h2).1 (fun e => hG g e _ _ h2)).trans h2, h3⟩
    · exact .inr ⟨h0, hr, g, gi, h1, (hk.block g (Array.getElem?_eq_some_iff.1 h2).1 (fun e => hG g e _ _ h2)).trans h2, XCh.besides hk hG r _ h3⟩

/-- K -/
theorem k_any (k : Int) (w : World) :
    Calls Try.prog 42 #[.int .i64 k] w fun e w' => e = .returned (.pointer (some ⟨w.heap.size, 0, none⟩)) ∧ w' = w.alloc (.cells #[.string ByteArray.empty, .int .i64 0, .pointer none, .int .i64 k] 96) := by
  go_enter Try.func42, Try.ntmps42
  go_wp2_with fail
  go_ret
  exact ⟨rfl, rfl⟩

set_option maxHeartbeats 1000000 in
set_option maxRecDepth 100000 in
theorem xlinks_any (l : List Lk) (v : Value) (w : World) (hl : l.length ≤ 9000) (h : XCh w v l) :
    Calls Try.prog 45 #[v] w fun e w' => ∃ s, e = .returned s ∧ w'.ownsRow w.heap.size 101 3 s l.length (lkCells l) ∧ Kp (fun _ => False) w w' := by
  go_enter Try.func45, Try.ntmps45
  go_wp2_with fail
  go_loopg [0, 3] (l.length + 1) (fun gk er ls wr => ∃ (j : Nat) (v s : Value), j ≤ l.length ∧ gk = l.length - j + 1 ∧ v = er ∧ s = ls ∧ wr.ownsRow w.heap.size 101 3 s j (lkCells (l.take j)) ∧ XCh wr v (l.drop j) ∧ Kp (fun _ => False) w wr)
  case atStart => exact ⟨0, _, _, by omega, rfl, rfl, rfl, World.ownsRow_nil _ _ _ _, h, Kp.refl _ w⟩
  case round =>
    obtain ⟨j, v2, s, hj, rfl, rfl, rfl, hrow, hch, hK⟩ := hrel
    by_cases hlt : j < l.length
    · have hdr : l.drop j = l[j] :: l.drop (j + 1) := List.drop_eq_getElem_cons hlt
      rw [hdr] at hch
      obtain ⟨a, ha⟩ : ∃ a, l[j] = a := ⟨_, rfl⟩
      have htk : l.take (j + 1) = l.take j ++ [a] := by rw [List.take_add_one, List.getElem?_eq_getElem hlt, ha]; rfl
      rw [ha] at hch
      have Ht := Lib.hid (And.intro htk hdr)
      clear htk hdr ha
      have hz := hK.size
      have hoA : ∀ o, (wr.alloc o).ownsRow w.heap.size 101 3 s j (lkCells (l.take j)) := fun o => hrow.alloc o
      have hbase : ∀ o, w.heap.size ≤ (wr.alloc o).heap.size := fun o => by simp; omega
      have hc1 : j + 1 ≤ maxLen := by unfold maxLen; omega
      have hc2 : (j + 1) * 32 ≤ 140737488355328 := by omega
      have Hc := Lib.hid (And.intro hc1 (And.intro hc2 hrow))
      obtain ⟨i0, hi, hz0, hz1, hz2⟩ := info_parts Try.infoLink
      clear hc1 hc2 hrow
      rcases hch with ⟨hr, g, rfl, hg, h1, h2⟩ | ⟨h0, hr, g, gi, rfl, hg, hin⟩
      · obtain ⟨kk, hkk⟩ : ∃ kk, a.k = kk := ⟨_, rfl⟩
        rw [hkk] at hg
        have c0 : wr.cell? ⟨g, 2, none⟩ = some (.pointer none) := by rw [cell_of_row wr g 2 _ _ _ hg]; rfl
        have c1 : wr.cell? ⟨g, 3, none⟩ = some (.int .i64 kk) := by rw [cell_of_row wr g 3 _ _ _ hg]; rfl
        have Hk := Lib.hid (And.intro hr (And.intro h1 (And.intro h2 hkk)))
        clear hr h1 h2 hkk hg
        have hnA : ∀ i u, [Value.string ByteArray.empty, .int .i64 0, .int .i64 kk][i]? = some u → (wr.alloc (.cells #[.string ByteArray.empty, .int .i64 0, .int .i64 kk] 101)).cell? ((⟨wr.heap.size, 0, none⟩ : Addr).add i) = some u :=
          World.news_of_block (cs := #[.string ByteArray.empty, .int .i64 0, .int .i64 kk]) (heap_alloc_new wr _)
        have hone : ∀ u ∈ [Value.string ByteArray.empty, .int .i64 0, .int .i64 kk], u.oneCell' = true := by
          intro u hu; simp at hu; rcases hu with rfl | rfl | rfl <;> rfl
        go_wp2_with (at_builtin; refine wpList_append_lies _ rfl _ _ 83 rfl w.heap.size 101 i0 (.agg #[.string ByteArray.empty, .int .i64 0, .int .i64 0]) 3 32 Try.underlying83 hi hz0 hz1 hz2 rfl (by omega) s j _ rfl (hoA _) ⟨wr.heap.size, 0, none⟩ 1 1 [.string ByteArray.empty, .int .i64 0, .int .i64 kk] rfl rfl hnA hone (by omega) Hc.out.1 Hc.out.2.1 (hbase _) (wr.heap.size + 1) (by simp) ?_; intro g1 cap1 w3 hown hgrow hat hlt3)
        go_ret
        have hjl : j + 1 = l.length := by
          have := Hk.out.1
          rw [List.drop_eq_nil_iff] at this
          omega
        refine ⟨_, rfl, ?_, (hK.alloc _).grown hgrow (fun q hq => .inr (Hc.out.2.2.lt q hq).1)⟩
        have e := congrArg lkCells Ht.out.1
        rw [List.take_of_length_le (by omega), lkCells_snoc, show a.cells = [Value.string ByteArray.empty, .int .i64 0, .int .i64 kk] by unfold Lk.cells; rw [Hk.out.2.1, Hk.out.2.2.1, Hk.out.2.2.2]] at e
        rw [e, ← hjl]
        exact hown
      · have hgl := (Array.getElem?_eq_some_iff.1 hg).1
        have c0 : wr.cell? ⟨g, 0, none⟩ = some (.string a.op) := by rw [cell_of_row wr g 0 _ _ _ hg]; rfl
        have c1 : wr.cell? ⟨g, 1, none⟩ = some (.int .i64 a.n) := by rw [cell_of_row wr g 1 _ _ _ hg]; rfl
        have c2 : wr.cell? ⟨g, 2, none⟩ = some (.pointer (some ⟨gi, 0, none⟩)) := by rw [cell_of_row wr g 2 _ _ _ hg]; rfl
        have Hk := Lib.hid (And.intro h0 hin)
        have hne : some g ≠ s.ownBlock := by
          intro e
          rcases Hc.out.2.2.2 with ⟨e2, _⟩ | ⟨g', cap', cur', e2, _, e3, _⟩
          · rw [e2] at e; cases e
          · rw [e2] at e
            injection e with e
            subst e
            rw [hg] at e3
            injection e3 with e3
            injection e3 with _ e3
            exact absurd e3 (by decide)
        clear h0 hg hin
        have hoB : ∀ o, (wr.alloc o).drew.ownsRow w.heap.size 101 3 s j (lkCells (l.take j)) := fun o => ownsRow_of_heap (w := wr.alloc o) rfl (hoA o)
        have hnA : ∀ i u, [Value.string a.op, .int .i64 a.n, .int .i64 0][i]? = some u → (wr.alloc (.cells #[.string a.op, .int .i64 a.n, .int .i64 0] 101)).drew.cell? ((⟨wr.heap.size, 0, none⟩ : Addr).add i) = some u :=
          World.news_of_block (cs := #[.string a.op, .int .i64 a.n, .int .i64 0]) (heap_alloc_new wr _)
        have hone : ∀ u ∈ [Value.string a.op, .int .i64 a.n, .int .i64 0], u.oneCell' = true := by
          intro u hu; simp at hu; rcases hu with rfl | rfl | rfl <;> rfl
        go_wp2_with fail
        go_region_law ((refine step_append_lies _ (by rfl) _ _ 83 (by rfl) w.heap.size 101 i0 (.agg #[.string ByteArray.empty, .int .i64 0, .int .i64 0]) 3 32 Try.underlying83 hi hz0 hz1 hz2 (by rfl) (by omega) s j _ (by rfl) (hoB _) ⟨wr.heap.size, 0, none⟩ 1 1 [.string a.op, .int .i64 a.n, .int .i64 0] (by rfl) (by rfl) hnA hone (by omega) Hc.out.1 Hc.out.2.1 (hbase _) (wr.heap.size + 1) (by simp) ?_; intro g1 cap1 w3 hown hgrow hat hlt3))
        all_goals
          have c3 := (keepe hgrow hgl hne 2).1.trans c2
          go_wp2_with fail
          go_roundg (l.length - (j + 1) + 1)
          case measure => omega
          case rel =>
            refine ⟨j + 1, _, _, by omega, rfl, rfl, rfl, ?_, ?_, (hK.alloc _).drew.grown hgrow (fun q hq => .inr (Hc.out.2.2.lt q hq).1)⟩
            · rw [Ht.out.1, lkCells_snoc, show a.cells = [Value.string a.op, .int .i64 a.n, .int .i64 0] by unfold Lk.cells; rw [Hk.out.1]]
              exact hown
            · refine XCh.besides (((Kp.refl (fun q => s.ownBlock = some q) wr).alloc _).drew.grown hgrow (fun q hq => .inl hq)) ?_ _ _ Hk.out.2
              intro q hq cs fr hcs
              rcases Hc.out.2.2.2 with ⟨e2, _⟩ | ⟨g', cap', cur', e2, _, e3, _⟩
              · rw [e2] at hq; cases hq
              · rw [e2] at hq
                injection hq with hq
                subst hq
                rw [hcs] at e3
                injection e3 with e3
                injection e3 with _ e3
                exact absurd e3 (by decide)
    · obtain rfl : j = l.length := by omega
      rw [List.drop_length] at hch
      have hch' : v2 = .pointer none := hch
      subst hch'
      rw [List.take_length] at hrow
      clear hch
      go_wp2_with fail
      go_ret
      exact ⟨_, rfl, hrow, hK⟩

set_option maxHeartbeats 400000 in
/-- an error and the document's of the same chain -/
theorem ref_any (l : List Lk) (v1 v2 : Value) (w : World) (hl : l.length ≤ 9000) (h1 : Chain w v1 l) (h2 : XCh w v2 l) :
    Calls Try.prog 24 #[v1, v2] w fun e w' => e = .returned (.bool true) ∧ Kp (fun _ => False) w w' := by
  go_enter Try.func24, Try.ntmps24
  go_wp2_with fail
  refine (links_any l v1 w hl h1).mono ?_
  rintro e w1 ⟨s1, rfl, r1, k1⟩
  have h2' := XCh.kp k1 l v2 h2
  go_wp2_with (go_at_call 45; refine (xlinks_any l v2 w1 hl h2').mono ?_; rintro e w2 ⟨s2, rfl, r2, k2⟩; have r1' : w2.ownsRow w.heap.size 101 3 s1 l.length (lkCells l) := k2.row r1 (fun _ _ e => e))
  have r2' : w2.ownsRow w.heap.size 101 3 s2 l.length (lkCells l) := by
    refine ⟨r2.1, ?_⟩
    rcases r2.2 with h | ⟨g, cap, cur, e, hb, rest⟩
    · exact .inl h
    · exact .inr ⟨g, cap, cur, e, Nat.le_trans k1.size hb, rest⟩
  go_wp2_with (go_at_call 44; refine (sameLinks_any l s1 s2 w2 _ hl r1' r2').mono ?_; rintro e w3 ⟨rfl, k3⟩)
  go_ret
  exact ⟨rfl, (k1.trans' k2).trans' k3⟩

/-- the error v is the chain l, all of its blocks from B on -/
def ChainB (B : Nat) (w : World) : Value → List Lk → Prop
  | v, [] => v = .nilIface
  | v, a :: r => (r = [] ∧ v = .iface 82 (.int .i64 a.k) ∧ a.op = ByteArray.empty ∧ a.n = 0 ∧ a.k ≠ 0) ∨
    (a.k = 0 ∧ ∃ g inner, B ≤ g ∧ v = .iface 97 (.pointer (some ⟨g, 0, none⟩)) ∧ w.heap[g]? = some (.cells #[.string a.op, .int .i64 a.n, inner] 99 (0, 0)) ∧ ChainB B w inner r)

theorem ChainB.out {B : Nat} {w : World} : ∀ {l : List Lk} {v : Value}, ChainB B w v l → Chain w v l
  | [], _, h => h
  | _ :: _, _, h => by
    rcases h with h | ⟨h0, g, inner, _, h1, h2, h3⟩
    · exact .inl h
    · exact .inr ⟨h0, g, inner, h1, h2, ChainB.out h3⟩
theorem ChainB.le {B B' : Nat} (hB : B' ≤ B) {w : World} : ∀ {l : List Lk} {v : Value}, ChainB B w v l → ChainB B' w v l
  | [], _, h => h
  | _ :: _, _, h => by
    rcases h with h | ⟨h0, g, inner, hg, h1, h2, h3⟩
    · exact .inl h
    · exact .inr ⟨h0, g, inner, Nat.le_trans hB hg, h1, h2, ChainB.le hB h3⟩
/-- what is written below B does not turn it -/
theorem ChainB.kp {B : Nat} {w w' : World} {G : Nat → Prop} (hk : Kp G w w') (hG : ∀ q, G q → q < B) : ∀ {l : List Lk} {v : Value}, ChainB B w v l → ChainB B w' v l
  | [], _, h => h
  | _ :: _, _, h => by
    rcases h with h | ⟨h0, g, inner, hg, h1, h2, h3⟩
    · exact .inl h
    · exact .inr ⟨h0, g, inner, hg, h1, (hk.block g (Array.getElem?_eq_some_iff.1 h2).1 (fun e => by have := hG g e; omega)).trans h2, ChainB.kp hk hG h3⟩
/-- a Fault more around an error -/
theorem ChainB.cons {B g : Nat} {w : World} {inner : Value} {l : List Lk} (op : ByteArray) (n : Int) (h : ChainB B w inner l) (hg : B ≤ g) (hc : w.heap[g]? = some (.cells #[.string op, .int .i64 n, inner] 99 (0, 0))) :
    ChainB B w (.iface 97 (.pointer (some ⟨g, 0, none⟩))) (Lk.fault op n :: l) :=
  .inr ⟨rfl, g, inner, hg, rfl, hc, h⟩
theorem ChainB.root (B : Nat) (w : World) {k : Int} (hk : k ≠ 0) : ChainB B w (.iface 82 (.int .i64 k)) [Lk.kind k] := .inl ⟨rfl, rfl, rfl, rfl, hk⟩

/-- an error that begins with a Fault is not nil -/
theorem Chain.form {w : World} {v : Value} {op : ByteArray} {n : Int} {b : Lk} {l : List Lk} (h : Chain w v (Lk.fault op n :: b :: l)) : ∃ g, v = .iface 97 (.pointer (some ⟨g, 0, none⟩)) := by
  rcases h with ⟨h, _⟩ | ⟨_, g, _, h, _⟩
  · cases h
  · exact ⟨g, h⟩
end Go.Proofs.Ytbdogiblndlimaa
