/- slices.Backward: its contract for words, and for terms. A heap in the rounds of a range over a function: what is no cells, and new, is of no colour. -/
import Derived.Test.YtkcmfldcdokobaaGreatDoorM29
import Derived.RangeFuncNested
import Derived.RangeFuncBound
import Derived.RangeFuncCalls
import Derived.RangeFuncLeaves
import Derived.Shelf.Abstract
import Derived.Shelf.RegionOpen
import Derived.OwnWalkIn
import Derived.TacticsInMore
import Derived.LoopNIn
import Derived.LoopIn
/- slices.Backward: its contract for words, and for terms. -/
namespace Go.Proofs.YtkcmfldcdokobaaGreatDoor
open Go.RowKit Go.Shelf
attribute [local go_sem] Oper.semAt_some

/-- what lies in Q is kept -/
def KeepQ (Q : Nat → Prop) (A B : World) : Prop := Kp (fun q => ¬ Q q) A B
theorem KeepQ.t {Q : Nat → Prop} {A B C : World} (h : KeepQ Q A B) (k : KeepQ Q B C) : KeepQ Q A C := Kp.trans' h k
theorem KeepQ.b {Q : Nat → Prop} {w : World} (hQ : ∀ q, Q q → q < w.heap.size) (W : World) (l : Nat) (o o' : Obj) (hl : w.heap.size ≤ l) (_ : W.heap[l]? = some o) (_ : o.isCells = false) (_ : o.isWalk = false) : KeepQ Q W (W.putObj l o') :=
  (Kp.refl _ W).grown (grownBy_putObj' W l o') (fun k e => by cases e; exact .inl fun h => by have := hQ l h; omega)
theorem KeepQ.cell {Q : Nat → Prop} {A B : World} (h : KeepQ Q A B) {b j : Nat} {u : Value} (hb : Q b) (hc : A.cell? ⟨b, j, none⟩ = some u) : B.cell? ⟨b, j, none⟩ = some u :=
  (Kp.cell h (p := ⟨b, j, none⟩) (World.block_lt_of_cell? _ _ hc) (fun e => e hb)).trans hc
/-- the iterator hands on xs, one behind the other -/
def HandsOn {α : Type} (n : Nat) (P : Program) (g : Nat) (lb : Array Value) (encs : α → Array Value) (Kq : World → World → Prop) (xs : List α) (w : World) : Prop :=
  ∀ (l : Nat) (J Jx : Nat → World → Prop) (W : World), Below w.heap.size w W →
    (∀ k x W1, xs[k]? = some x → J k W1 → YieldAt Fence.wide (n - 1) P l (encs x) W1 fun e W' => (e = .returned (.bool true) ∧ J (k + 1) W' ∧ Kq W1 W') ∨ (e = .returned (.bool false) ∧ Jx (k + 1) W')) →
    J 0 W → CallsIn Fence.wide n P g (#[.func (.yield l) #[] #[]] ++ lb) W fun e W' => (∃ v, e = .returned v) ∧ (J xs.length W' ∨ ∃ k, Jx k W')
/-- what has come when k rounds are over: from the last one on -/
def downs {α : Type} (f : Nat → α) (len k : Nat) : List α := (List.range k).map fun j => f (len - 1 - j)
theorem downs_succ {α : Type} (f : Nat → α) (len k : Nat) : downs f len (k + 1) = downs f len k ++ [f (len - 1 - k)] := by simp [downs, List.range_succ]
theorem downs_at {α : Type} (f : Nat → α) {len k : Nat} (hk : k < len) : (downs f len len)[k]? = some (f (len - 1 - k)) := by simp [downs, hk]
theorem downs_get {α : Type} {f : Nat → α} {len k : Nat} {x : α} (h : (downs f len len)[k]? = some x) : k < len ∧ x = f (len - 1 - k) := by
  have hk := (List.getElem?_eq_some_iff.1 h).1
  simp [downs] at hk
  rw [downs_at f hk] at h
  exact ⟨hk, (Option.some.inj h).symm⟩
theorem downs_length {α : Type} (f : Nat → α) (len k : Nat) : (downs f len k).length = k := by simp [downs]

set_option maxRecDepth 100000 in
set_option maxHeartbeats 2000000 in
theorem back1_words (n : Nat) (hn : 1 ≤ n) (l Bs b off len cap : Nat) (zs : List Int) (hreach : len ≤ 1000000000000) (Q : Nat → Prop) (hQ1 : Q Bs) (hQ2 : Q b) (J Jx : Nat → World → Prop)
    (hY : ∀ k x W, (downs (fun j => (j, zs[j]?.getD 0)) len len)[k]? = some x → J k W → YieldAt Fence.wide (n - 1) Tryz.prog l #[.int .i64 (x.1 : Int), .int .u64 x.2] W fun e W' =>
      (e = .returned (.bool true) ∧ J (k + 1) W' ∧ KeepQ Q W W') ∨ (e = .returned (.bool false) ∧ Jx (k + 1) W'))
    (W : World) (hBs : W.cell? ⟨Bs, 0, none⟩ = some (.slice (some ⟨b, off, none⟩) len cap)) (hc : ∀ j, j < len → W.cell? ⟨b, off + j, none⟩ = some (.int .u64 (zs[j]?.getD 0))) (h0 : J 0 W) :
    CallsIn Fence.wide n Tryz.prog 135 #[.func (.yield l) #[] #[], .pointer (some ⟨Bs, 0, none⟩)] W fun e W' => (∃ v, e = .returned v) ∧ (J len W' ∨ ∃ k, Jx k W') := by
  refine callsIn_of_wp Tryz.func135 rfl trivial ?_ rfl
  simp only [Tryz.ntmps135, List.size_toArray, List.length_cons, List.length_nil, Nat.reduceAdd, Nat.reduceSub, Array.replicate_succ, Array.replicate_zero, List.push_toArray, List.append_toArray, List.nil_append, List.cons_append]
  gi_wp2
  gi_loopw [3] (fun i wr => ∃ k : Nat, k ≤ len ∧ i = .int .i64 ((len : Int) - 1 - k) ∧ J k wr ∧ KeepQ Q W wr)
    (fun i _ => (intOf i + 1).toNat)
  case atStart => exact ⟨0, Nat.zero_le _, by simp, h0, Kp.refl _ _⟩
  case round =>
    obtain ⟨k, hk, rfl, hJs, hnx⟩ := hrel
    have hBr := hnx.cell hQ1 hBs
    by_cases hlt : k < len
    · obtain ⟨m, hm⟩ : ∃ m : Nat, m = len - 1 - k := ⟨_, rfl⟩
      have hmi : (len : Int) - 1 - k = (m : Int) := by omega
      have hml : m < len := by omega
      have hcx := hnx.cell hQ2 (hc m hml)
      have hy := hY k (m, zs[m]?.getD 0) wr (by rw [downs_at _ hlt, hm]) hJs
      obtain ⟨fn, tmps, assign, body, hy, hR⟩ := hy
      dsimp only at hy
      rw [hmi]
      have Hk := Lib.hid (And.intro hk (And.intro hm (And.intro hmi hlt)))
      clear hk hm hmi hlt
      gi_wp2
      refine hR.mono ?_
      rintro e W3 (⟨rfl, hJ3, hk3⟩ | ⟨rfl, hJx3⟩)
      · gi_wp2
        go_roundw
        case rel =>
          obtain ⟨h1, rfl, h3, h4⟩ := Hk.out
          exact ⟨k + 1, by omega, by go_num, hJ3, hnx.t hk3⟩
        case measure =>
          obtain ⟨h1, h2, h3, h4⟩ := Hk.out
          simp [intOf]
      · gi_wp2
        refine bodyPost_ret (results_none rfl _ _ _) rfl ?_
        obtain ⟨h1, rfl, h3, h4⟩ := Hk.out
        exact ⟨⟨_, rfl⟩, .inr ⟨_, hJx3⟩⟩
    · obtain rfl : k = len := by omega
      have e1 : ((k : Nat) : Int) - 1 - k = -1 := by omega
      rw [e1]
      gi_wp2
      go_end0
      exact ⟨⟨_, rfl⟩, .inl hJs⟩
/-- six cells of a term -/
def SixAt (W : World) (b o : Nat) (v : Array Value) : Prop :=
  ∃ k n s a l c a2 l2 d a3 l3 e, v = #[.int .i64 k, .int .i64 n, .string s, .slice a l c, .slice a2 l2 d, .slice a3 l3 e] ∧ W.cell? ⟨b, o, none⟩ = some (.int .i64 k) ∧ W.cell? ⟨b, o + 1, none⟩ = some (.int .i64 n) ∧ W.cell? ⟨b, o + 2, none⟩ = some (.string s) ∧
    W.cell? ⟨b, o + 3, none⟩ = some (.slice a l c) ∧ W.cell? ⟨b, o + 4, none⟩ = some (.slice a2 l2 d) ∧ W.cell? ⟨b, o + 5, none⟩ = some (.slice a3 l3 e)

set_option maxRecDepth 100000 in
set_option maxHeartbeats 2000000 in
theorem back1_terms (n : Nat) (hn : 1 ≤ n) (l Bs b off len cap : Nat) (zs : Nat → Array Value) (hreach : len ≤ 1000000000000) (Q : Nat → Prop) (hQ1 : Q Bs) (hQ2 : Q b) (J Jx : Nat → World → Prop)
    (hY : ∀ k x W, (downs (fun j => (j, zs j)) len len)[k]? = some x → J k W → YieldAt Fence.wide (n - 1) Tryz.prog l #[.int .i64 (x.1 : Int), .agg x.2] W fun e W' =>
      (e = .returned (.bool true) ∧ J (k + 1) W' ∧ KeepQ Q W W') ∨ (e = .returned (.bool false) ∧ Jx (k + 1) W'))
    (W : World) (hBs : W.cell? ⟨Bs, 0, none⟩ = some (.slice (some ⟨b, off, none⟩) len cap)) (hc : ∀ j, j < len → SixAt W b (off + j * 6) (zs j)) (h0 : J 0 W) :
    CallsIn Fence.wide n Tryz.prog 164 #[.func (.yield l) #[] #[], .pointer (some ⟨Bs, 0, none⟩)] W fun e W' => (∃ v, e = .returned v) ∧ (J len W' ∨ ∃ k, Jx k W') := by
  refine callsIn_of_wp Tryz.func164 rfl trivial ?_ rfl
  simp only [Tryz.ntmps164, List.size_toArray, List.length_cons, List.length_nil, Nat.reduceAdd, Nat.reduceSub, Array.replicate_succ, Array.replicate_zero, List.push_toArray, List.append_toArray, List.nil_append, List.cons_append]
  gi_wp2
  gi_loopw [3] (fun i wr => ∃ k : Nat, k ≤ len ∧ i = .int .i64 ((len : Int) - 1 - k) ∧ J k wr ∧ KeepQ Q W wr)
    (fun i _ => (intOf i + 1).toNat)
  case atStart => exact ⟨0, Nat.zero_le _, by simp, h0, Kp.refl _ _⟩
  case round =>
    obtain ⟨k, hk, rfl, hJs, hnx⟩ := hrel
    have hBr := hnx.cell hQ1 hBs
    by_cases hlt : k < len
    · obtain ⟨m, hm⟩ : ∃ m : Nat, m = len - 1 - k := ⟨_, rfl⟩
      have hmi : (len : Int) - 1 - k = (m : Int) := by omega
      have hml : m < len := by omega
      obtain ⟨k0, n0, s0, a0, l0, c0, a1, l1, c1, a2, l2, c2, hz, d0, d1, d2, d3, d4, d5⟩ := hc m hml
      have x0 := hnx.cell hQ2 d0
      have x1 := hnx.cell hQ2 d1
      have x2 := hnx.cell hQ2 d2
      have x3 := hnx.cell hQ2 d3
      have x4 := hnx.cell hQ2 d4
      have x5 := hnx.cell hQ2 d5
      have hy := hY k (m, zs m) wr (by rw [downs_at _ hlt, hm]) hJs
      obtain ⟨fn, tmps, assign, body, hy, hR⟩ := hy
      dsimp only at hy
      rw [hz] at hy
      rw [hmi]
      have Hk := Lib.hid (And.intro hk (And.intro hm (And.intro hmi hlt)))
      clear hk hm hmi hlt d0 d1 d2 d3 d4 d5 hz
      gi_wp2
      refine hR.mono ?_
      rintro e W3 (⟨rfl, hJ3, hk3⟩ | ⟨rfl, hJx3⟩)
      · gi_wp2
        go_roundw
        case rel =>
          obtain ⟨h1, rfl, h3, h4⟩ := Hk.out
          exact ⟨k + 1, by omega, by go_num, hJ3, hnx.t hk3⟩
        case measure =>
          obtain ⟨h1, h2, h3, h4⟩ := Hk.out
          simp [intOf]
      · gi_wp2
        refine bodyPost_ret (results_none rfl _ _ _) rfl ?_
        obtain ⟨h1, rfl, h3, h4⟩ := Hk.out
        exact ⟨⟨_, rfl⟩, .inr ⟨_, hJx3⟩⟩
    · obtain rfl : k = len := by omega
      have e1 : ((k : Nat) : Int) - 1 - k = -1 := by omega
      rw [e1]
      gi_wp2
      go_end0
      exact ⟨⟨_, rfl⟩, .inl hJs⟩

set_option maxRecDepth 100000 in
set_option maxHeartbeats 1000000 in
theorem back0_words (n : Nat) (l Bs : Nat) (J : Nat → World → Prop) (W : World) (a : Option Addr) (c : Nat) (hBs : W.cell? ⟨Bs, 0, none⟩ = some (.slice a 0 c)) (h0 : J 0 W) :
    CallsIn Fence.wide n Tryz.prog 135 #[.func (.yield l) #[] #[], .pointer (some ⟨Bs, 0, none⟩)] W fun e W' => (∃ v, e = .returned v) ∧ J 0 W' := by
  refine callsIn_of_wp Tryz.func135 rfl trivial ?_ rfl
  simp only [Tryz.ntmps135, List.size_toArray, List.length_cons, List.length_nil, Nat.reduceAdd, Nat.reduceSub, Array.replicate_succ, Array.replicate_zero, List.push_toArray, List.append_toArray, List.nil_append, List.cons_append]
  gi_wp2
  gi_loopw [3] (fun i wr => i = .int .i64 (-1) ∧ J 0 wr) (fun _ _ => 0)
  case atStart => exact ⟨rfl, h0⟩
  case round =>
    obtain ⟨rfl, hJs⟩ := hrel
    gi_wp2
    go_end0
    exact ⟨⟨_, rfl⟩, hJs⟩

set_option maxHeartbeats 1000000 in
theorem backward_words (n : Nat) (a : Option Addr) (len cap : Nat) (w : World) :
    CallsIn Fence.wide n Tryz.prog 89 #[.slice a len cap] w fun e w' => e = .returned (.func (.func 135) #[] #[.pointer (some ⟨w.heap.size, 0, none⟩)]) ∧ w' = w.alloc (.cells #[.slice a len cap] 34) := by
  refine callsIn_of_wp Tryz.func89 rfl trivial ?_ rfl
  simp only [Tryz.ntmps89, List.size_toArray, List.length_cons, List.length_nil, Nat.reduceAdd, Nat.reduceSub, Array.replicate_succ, Array.replicate_zero, List.push_toArray, List.append_toArray, List.nil_append, List.cons_append]
  gi_wp2
  go_ret
  exact ⟨rfl, rfl⟩

set_option maxRecDepth 100000 in
set_option maxHeartbeats 1000000 in
theorem back0_terms (n : Nat) (l Bs : Nat) (J : Nat → World → Prop) (W : World) (a : Option Addr) (c : Nat) (hBs : W.cell? ⟨Bs, 0, none⟩ = some (.slice a 0 c)) (h0 : J 0 W) :
    CallsIn Fence.wide n Tryz.prog 164 #[.func (.yield l) #[] #[], .pointer (some ⟨Bs, 0, none⟩)] W fun e W' => (∃ v, e = .returned v) ∧ J 0 W' := by
  refine callsIn_of_wp Tryz.func164 rfl trivial ?_ rfl
  simp only [Tryz.ntmps164, List.size_toArray, List.length_cons, List.length_nil, Nat.reduceAdd, Nat.reduceSub, Array.replicate_succ, Array.replicate_zero, List.push_toArray, List.append_toArray, List.nil_append, List.cons_append]
  gi_wp2
  gi_loopw [3] (fun i wr => i = .int .i64 (-1) ∧ J 0 wr) (fun _ _ => 0)
  case atStart => exact ⟨rfl, h0⟩
  case round =>
    obtain ⟨rfl, hJs⟩ := hrel
    gi_wp2
    go_end0
    exact ⟨⟨_, rfl⟩, hJs⟩

set_option maxHeartbeats 1000000 in
theorem backward_terms (n : Nat) (a : Option Addr) (len cap : Nat) (w : World) :
    CallsIn Fence.wide n Tryz.prog 151 #[.slice a len cap] w fun e w' => e = .returned (.func (.func 164) #[] #[.pointer (some ⟨w.heap.size, 0, none⟩)]) ∧ w' = w.alloc (.cells #[.slice a len cap] 38) := by
  refine callsIn_of_wp Tryz.func151 rfl trivial ?_ rfl
  simp only [Tryz.ntmps151, List.size_toArray, List.length_cons, List.length_nil, Nat.reduceAdd, Nat.reduceSub, Array.replicate_succ, Array.replicate_zero, List.push_toArray, List.append_toArray, List.nil_append, List.cons_append]
  gi_wp2
  go_ret
  exact ⟨rfl, rfl⟩

theorem downs_take {α : Type} (f : Nat → α) {len k : Nat} (hk : k ≤ len) : downs f len k = (downs f len len).take k := by
  apply List.ext_getElem
  · simp [downs, hk]
  · intro i h1 h2
    simp [downs]
/-- slices.Backward of words -/
theorem hands_words (n : Nat) (hn : 1 ≤ n) (Bs : Nat) (sv : Value) (zs : List Int) (hreach : zs.length ≤ 1000000000000) (Q : Nat → Prop) (w : World) (hQ : ∀ q, Q q → q < w.heap.size) (hQ1 : Q Bs) (hc : w.cell? ⟨Bs, 0, none⟩ = some sv) (hI : WordsAt Q w zs sv) :
    HandsOn n Tryz.prog 135 #[.pointer (some ⟨Bs, 0, none⟩)] (fun x : Nat × Int => #[Value.int .i64 (x.1 : Int), Value.int .u64 x.2]) (KeepQ Q) (downs (fun j => (j, zs[j]?.getD 0)) zs.length zs.length) w := fun l J Jx W hW hY h0 => by
  have hcell : ∀ b j u, Q b → w.cell? ⟨b, j, none⟩ = some u → W.cell? ⟨b, j, none⟩ = some u := fun b j u hb h => (hW.cell (p := ⟨b, j, none⟩) (hQ b hb)).trans h
  obtain ⟨po, cap, rfl, hcap, hel⟩ := hI
  by_cases hz : zs.length = 0
  · have hzs : zs = [] := List.length_eq_zero_iff.1 hz
    subst hzs
    exact (back0_words n l Bs J W po cap (hcell _ _ _ hQ1 hc) h0).mono fun e W' ⟨he, hj⟩ => ⟨he, .inl hj⟩
  · obtain ⟨b, off, rfl, hb, _⟩ := hel 0 _ (List.getElem?_eq_getElem (by omega))
    refine (back1_words n hn l Bs b off zs.length cap zs hreach Q hQ1 hb J Jx hY W (hcell _ _ _ hQ1 hc) (fun j hj => ?_) h0).mono ?_
    · obtain ⟨b', off', e, _, hx⟩ := hel j _ (List.getElem?_eq_getElem hj)
      injection e with e
      injection e with e1 e2
      subst e1 e2
      rw [List.getElem?_eq_getElem hj]
      exact hcell _ _ _ hb hx
    · rintro e W' ⟨he, hj⟩
      exact ⟨he, by rw [downs_length]; exact hj⟩
/-- slices.Backward of terms -/
theorem hands_terms (n : Nat) (hn : 1 ≤ n) (Bs : Nat) (po : Option Addr) (len cap : Nat) (zs : Nat → Array Value) (hreach : len ≤ 1000000000000) (Q : Nat → Prop) (w : World) (hQ : ∀ q, Q q → q < w.heap.size) (hQ1 : Q Bs) (hc : w.cell? ⟨Bs, 0, none⟩ = some (.slice po len cap))
    (hI : ∀ j, j < len → ∃ b off, po = some ⟨b, off, none⟩ ∧ Q b ∧ SixAt w b (off + j * 6) (zs j)) :
    HandsOn n Tryz.prog 164 #[.pointer (some ⟨Bs, 0, none⟩)] (fun x : Nat × Array Value => #[Value.int .i64 (x.1 : Int), Value.agg x.2]) (KeepQ Q) (downs (fun j => (j, zs j)) len len) w := fun l J Jx W hW hY h0 => by
  have hcell : ∀ b j u, Q b → w.cell? ⟨b, j, none⟩ = some u → W.cell? ⟨b, j, none⟩ = some u := fun b j u hb h => (hW.cell (p := ⟨b, j, none⟩) (hQ b hb)).trans h
  by_cases hz : len = 0
  · subst hz
    exact (back0_terms n l Bs J W po cap (hcell _ _ _ hQ1 hc) h0).mono fun e W' ⟨he, hj⟩ => ⟨he, .inl hj⟩
  · obtain ⟨b, off, rfl, hb, _⟩ := hI 0 (by omega)
    refine (back1_terms n hn l Bs b off len cap zs hreach Q hQ1 hb J Jx hY W (hcell _ _ _ hQ1 hc) (fun j hj => ?_) h0).mono ?_
    · obtain ⟨b', off', e, _, k0, n0, s0, a0, l0, c0, a1, l1, c1, a2, l2, c2, hz, d0, d1, d2, d3, d4, d5⟩ := hI j hj
      injection e with e
      injection e with e1 e2
      subst e1 e2
      exact ⟨k0, n0, s0, a0, l0, c0, a1, l1, c1, a2, l2, c2, hz, hcell _ _ _ hb d0, hcell _ _ _ hb d1, hcell _ _ _ hb d2, hcell _ _ _ hb d3, hcell _ _ _ hb d4, hcell _ _ _ hb d5⟩
    · rintro e W' ⟨he, hj⟩
      exact ⟨he, by rw [downs_length]; exact hj⟩
end Go.Proofs.YtkcmfldcdokobaaGreatDoor

/- A heap in the rounds of a range over a function: what is no cells, and new, is of no colour. -/
namespace Go.Proofs.YtkcmfldcdokobaaGreatDoor
open Go.RowKit Go.Maps

/-- what is no cells, from B on, is of no colour -/
def cellcol (col : Nat → Nat) (W : World) (B : Nat) : Nat → Nat := fun q => if B ≤ q ∧ (W.heap[q]?).map Obj.isCells ≠ some true then 0 else col q
/-- so it is -/
def CellsFrom (col : Nat → Nat) (W : World) (B : Nat) : Prop := ∀ q, B ≤ q → col q ≠ 0 → (W.heap[q]?).map Obj.isCells = some true

section
variable {w0 w w' : World} {col col' : Nat → Nat} {B i : Nat} {hb ab tb bb least N mb lb nn : Nat} {sv tv fv : Value} {sl : List (Int × Bool)} {A : Ar} {names fresh : List ByteArray} {a : Bn} {tks : List Int} {D : DataW Unit}
theorem cellcol_at {q : Nat} {cs : Array Value} {t : TypeId} {f : Nat × Nat} (h : w.heap[q]? = some (.cells cs t f)) : cellcol col w B q = col q := by
  unfold cellcol
  rw [if_neg]
  rintro ⟨_, e⟩
  rw [h] at e
  exact e rfl
theorem cellcol_low {q : Nat} (h : q < B) : cellcol col w B q = col q := by
  unfold cellcol
  rw [if_neg (by omega)]
theorem cellcol_fi {q : Nat} {cs : Array Value} {t : TypeId} {f : Nat × Nat} (h : w.heap[q]? = some (.cells cs t f)) (hq : Fi col w i q) : Fi (cellcol col w B) w i q := ⟨(cellcol_at h).trans hq.1, hq.2⟩
theorem cellcol_from : CellsFrom (cellcol col w B) w B := fun q hq h => by
  unfold cellcol at h
  split at h
  · exact absurd rfl h
  · rename_i e
    rcases Decidable.em ((w.heap[q]?).map Obj.isCells = some true) with h1 | h1
    · exact h1
    · exact absurd ⟨hq, h1⟩ e
theorem cell_blk {q j : Nat} {v : Value} (h : w.cell? ⟨q, j, none⟩ = some v) : ∃ cs t f, w.heap[q]? = some (.cells cs t f) := by
  unfold World.cell? at h
  simp only at h
  cases hq : w.heap[q]? with
  | none => rw [hq] at h; simp at h
  | some o =>
    rw [hq] at h
    cases o with
    | cells cs t f => exact ⟨cs, t, f, rfl⟩
    | _ => simp at h
theorem Hs.cells (h : Hs w0 w col hb ab tb bb sv least sl A names N a) (h3 : ∀ q, B ≤ q → col q ≠ 3) (hB : w0.heap.size ≤ B) : Hs w0 w (cellcol col w B) hb ab tb bb sv least sl A names N a := by
  refine ⟨⟨cellcol_fi h.hr.hd h.hr.inF, Fi_lt, h.hr.hd, h.hr.row, fun g hg => ?_⟩, ⟨h.ar.ptr, ?_, h.ar.inv, h.ar.word⟩, ?_, ?_, h.bi, fun q hq => (cellcol_low (by omega)).trans (h.old q hq), h.kp⟩
  · obtain ⟨_, _, _, hh, _⟩ := row_blk h.hr.row hg
    exact ⟨cellcol_fi hh (h.hr.inR g hg).1, (h.hr.inR g hg).2⟩
  · obtain ⟨sl, hR⟩ := h.ar.rep
    obtain ⟨_, _, _, hb⟩ := cell_blk (hR.head 0 _ rfl)
    refine ⟨sl, ⟨cellcol_fi hb hR.inF, Fi_lt, hR.head, hR.cell, hR.fz, hR.own, fun k g hk hg => ?_, hR.apart⟩⟩
    obtain ⟨_, _, _, hh, _⟩ := row_blk (hR.own k hk) hg
    exact ⟨cellcol_fi hh (hR.inn k g hk hg).1, (hR.inn k g hk hg).2⟩
  · refine h.at'.more (fun q hq => ⟨?_, hq.2⟩) Fi_lt
    refine (cellcol_low ?_).trans hq.1
    rcases Nat.lt_or_ge q B with e | e
    · exact e
    · exact absurd hq.1 (h3 q e)
  · obtain ⟨ss, fs, ps, hR⟩ := h.bn
    refine ⟨ss, fs, ps, ⟨cellcol_fi hR.hb hR.inF, Fi_lt, hR.hb, hR.rs, hR.rf, fun g hg => ?_, fun g hg => ?_, fun i s hs => ?_⟩⟩
    · obtain ⟨_, _, _, hh, _⟩ := row_blk hR.rs hg
      exact cellcol_fi hh (hR.fS g hg)
    · obtain ⟨_, _, _, hh, _⟩ := row_blk hR.rf hg
      exact cellcol_fi hh (hR.fF g hg)
    · obtain ⟨v, h1, h2⟩ := hR.el i s hs
      refine ⟨v, h1, h2.imp (fun q hq => ?_) (fun _ _ _ _ e => e)⟩
      obtain ⟨hq1, cs, hq2⟩ := hq
      exact ⟨cellcol_fi hq2 hq1, cs, hq2⟩
theorem LOwn.cells' (h : LOwn (Fi col w 5) w lb hb tv tks mb nn D fv fresh) (hm : mb < B) : LOwn (Fi (cellcol col w B) w 5) w lb hb tv tks mb nn D fv fresh := by
  refine ⟨cellcol_fi h.hd h.inG, Fi_lt, h.hd, h.tk, fun g hg => ?_, h.map, ⟨⟨(cellcol_low hm).trans h.mapG.1.1, h.mapG.1.2⟩, h.mapG.2⟩, h.fr, fun g hg => ?_⟩
  · obtain ⟨_, _, _, hh, _⟩ := row_blk h.tk hg
    exact ⟨cellcol_fi hh (h.tkG g hg).1, (h.tkG g hg).2⟩
  · obtain ⟨_, _, _, hh, _⟩ := row_blk h.fr hg
    exact ⟨cellcol_fi hh (h.frG g hg).1, (h.frG g hg).2⟩
theorem Go0.cells (h : Go0 col w col' w') (hB : w.heap.size ≤ B) : Go0 col w (cellcol col' w' B) w' :=
  ⟨fun q hq => (cellcol_low (by omega)).trans (h.1 q hq), h.2, fun q hq => by
    unfold cellcol
    split
    · omega
    · exact h.no3 q hq⟩
theorem cellcol_0 {q : Nat} (h : col q = 0) : cellcol col w B q = 0 := by
  unfold cellcol
  split
  · rfl
  · exact h

/-- something of no colour turns -/
theorem Hs.aside {G : Nat → Prop} (h : Hs w0 w col hb ab tb bb sv least sl A names N a) (hk : Kp G w w') (hG : ∀ q, G q → q < w.heap.size → col q = 0 ∧ w0.heap.size ≤ q) : Hs w0 w' (recol col w 0) hb ab tb bb sv least sl A names N a := by
  have hd : ∀ i, i ≠ 0 → ∀ q, Fi col w i q → ¬ G q := fun i hi q hq e => hi (hq.1.symm.trans (hG q e hq.2).1)
  exact ⟨(h.hr.kp hk (hd 1 (by omega))).more (Fi_old hk.size) Fi_lt, (h.ar.kp hk (hd 2 (by omega)) (hd 1 (by omega) hb h.hr.inF)).more (Fi_old hk.size) Fi_lt, (h.at'.kp hk (hd 3 (by omega))).more (Fi_old hk.size) Fi_lt, (h.bn.kp hk (hd 4 (by omega))).more (Fi_old hk.size) Fi_lt, h.bi, h.oldCol,
    h.kp.trans (hk.mono fun q hq e => .inr ⟨(hG q e hq).2, hq⟩)⟩
theorem LOwn.aside {G : Nat → Prop} (h : LOwn (Fi col w 5) w lb hb tv tks mb nn D fv fresh) (hk : Kp G w w') (hG : ∀ q, G q → q < w.heap.size → col q = 0) : LOwn (Fi (recol col w 0) w' 5) w' lb hb tv tks mb nn D fv fresh :=
  (h.kp hk (fun q hq e => by have := hG q e hq.2; have := hq.1; omega)).more (Fi_old hk.size) Fi_lt
/-- a world that is turned at a block that is no cells -/
theorem CellsFrom.col0 {W W' : World} {row : Option Nat} (h : CellsFrom col W B) (hr : ∀ r, row = some r → B ≤ r ∧ ∃ o : Obj, W.heap[r]? = some o ∧ o.isCells = false) (hg : W.grownBy W' row) :
    Kp (fun q => row = some q) W W' ∧ (∀ q, row = some q → q < W.heap.size → col q = 0 ∧ B ≤ q) ∧ CellsFrom (recol col W 0) W' B := by
  refine ⟨(Kp.refl _ W).grown hg (fun k e => .inl e), fun q e _ => ?_, fun q hq hc => ?_⟩
  · obtain ⟨h1, o, ho, hn⟩ := hr q e
    refine ⟨?_, h1⟩
    rcases Nat.eq_zero_or_pos (col q) with h0 | h0
    · exact h0
    · have := h q h1 (by omega)
      rw [ho] at this
      simp [hn] at this
  · unfold recol at hc
    split at hc
    · rename_i hl
      have h1 := h q hq hc
      rw [hg.block q hl (fun e => ?_)]
      · exact h1
      · obtain ⟨_, o, ho, hn⟩ := hr q e.symm
        rw [ho] at h1
        simp [hn] at h1
    · exact absurd rfl hc
theorem Go0.aside {G : Nat → Prop} {W W' : World} (h : Go0 col w col' W) (hk : Kp G W W') (hG : ∀ q, G q → q < W.heap.size → w.heap.size ≤ q) : Go0 col w (recol col' W 0) W' :=
  ⟨fun q hq => by unfold recol; rw [if_pos (Nat.lt_of_lt_of_le hq h.2.size)]; exact h.1 q hq, h.2.trans (hk.mono fun q hq e => .inr ⟨hG q e hq, hq⟩), fun q hq => by
    unfold recol
    split
    · exact h.no3 q hq
    · omega⟩
/-- what is no cells is kept by what turns colours alone -/
theorem CellsFrom.keeps {W W' : World} {G : Nat → Prop} (h : CellsFrom col W B) (hk : Kp G W W') (hG : ∀ q, G q → q < W.heap.size → col q ≠ 0) : KeepsFrom B W W' :=
  ⟨hk.size, fun k o hB ho hn => (hk.block k (Array.getElem?_eq_some_iff.1 ho).1 (fun e => by
    have := h k hB (hG k e (Array.getElem?_eq_some_iff.1 ho).1)
    rw [ho] at this
    simp [hn] at this)).trans ho⟩
end
end Go.Proofs.YtkcmfldcdokobaaGreatDoor
