/- A process's heap with its arena, atoms and binaries: one state; whose each block is, is told by a colour. errors.Is, of nil and of the kinds of errors (api.Errno). (The number 436 is the translation's count of types and a hundred.) binary: Handles. binary: Put in the two ways; the statements' common example. A slice of bytes that came in. Bytes of one's own that are written, beside a heap of binaries. -/
import Derived.Test.YtkcmfldcdokobaaGreatDoorM05
import Derived.Test.YtkcmfldcdokobaaGreatDoorM11
import Derived.Test.YtkcmfldcdokobaaGreatDoorM17
import Derived.Test.YtkcmfldcdokobaaGreatDoorM18
import Derived.Test.YtkcmfldcdokobaaGreatDoorM19
import Derived.LaidEql
import Derived.Stop.Asserts
import Derived.RowKitTokens
import Derived.Lib.IfaceEq
import Derived.LoopN
import Derived.Deep.LoopGhost
import Derived.OpenShut
/- A process's heap with its arena, atoms and binaries: one state; whose each block is, is told by a colour. -/
namespace Go.Proofs.YtkcmfldcdokobaaGreatDoor
open Go.RowKit

/-- the blocks of colour i -/
def Fi (col : Nat → Nat) (w : World) (i : Nat) : Nat → Prop := fun q => col q = i ∧ q < w.heap.size
/-- what is new is of colour i -/
def recol (col : Nat → Nat) (w : World) (i : Nat) : Nat → Nat := fun q => if q < w.heap.size then col q else i

section
variable {w0 w w' : World} {col : Nat → Nat} {i j : Nat}
theorem Fi_ne (h : i ≠ j) (q : Nat) (hq : Fi col w i q) : ¬ Fi col w j q := fun e => h (hq.1.symm.trans e.1)
theorem Fi_old (hz : w.heap.size ≤ w'.heap.size) (q : Nat) (h : Fi col w j q) : Fi (recol col w i) w' j q := ⟨by unfold recol; rw [if_pos h.2]; exact h.1, Nat.lt_of_lt_of_le h.2 hz⟩
theorem Fi_new {F' : Nat → Prop} (hn : New (Fi col w i) w F') (hlt : ∀ q, F' q → q < w'.heap.size) (hz : w.heap.size ≤ w'.heap.size) (q : Nat) (h : F' q) : Fi (recol col w i) w' i q := by
  rcases hn q h with e | e
  · exact Fi_old hz q e
  · exact ⟨by unfold recol; rw [if_neg (by omega)], hlt q h⟩
theorem Fi_ext (hz : w.heap.size ≤ w'.heap.size) (q : Nat) (h : Ext (Fi col w i) w w' q) : Fi (recol col w i) w' i q := by
  rcases h with e | e
  · exact Fi_old hz q e
  · exact ⟨by unfold recol; rw [if_neg (by omega)], e.2⟩
theorem Fi_lt (q : Nat) (h : Fi col w i q) : q < w.heap.size := h.2

variable {hb ab tb bb least N M : Nat} {sv : Value} {sl : List (Int × Bool)} {A A' : Ar} {names names' : List ByteArray} {a a' : Bn}
structure Hs (w0 w : World) (col : Nat → Nat) (hb ab tb bb : Nat) (sv : Value) (least : Nat) (sl : List (Int × Bool)) (A : Ar) (names : List ByteArray) (N : Nat) (a : Bn) : Prop where
  hr : HRep (Fi col w 1) w hb ab tb bb sv least sl
  ar : AIn w hb ab (Fi col w 2) A
  at' : AtRep w (Fi col w 3) tb names
  bn : BAt (Fi col w 4) w bb a
  bi : BInv N a
  old : ∀ q, q < w0.heap.size → col q = 0
  kp : Kp (fun _ => False) w0 w

theorem AtRep.more {F G : Nat → Prop} {b : Nat} (h : AtRep w F b names) (hFG : ∀ k, F k → G k) (hlt : ∀ k, G k → k < w.heap.size) : AtRep w G b names := by
  rcases h with ⟨h1, h2, h3, h4⟩ | ⟨mb, D, v, h⟩
  · exact .inl ⟨hFG _ h1, hlt, h3, h4⟩
  · exact .inr ⟨mb, D, v, h.more hFG hlt⟩
theorem BAt.more {F G : Nat → Prop} {b : Nat} (h : BAt F w b a) (hFG : ∀ k, F k → G k) (hlt : ∀ k, G k → k < w.heap.size) : BAt G w b a := by
  obtain ⟨_, _, _, h⟩ := h
  exact ⟨_, _, _, h.more hFG hlt⟩

theorem Hs.notA (h : Hs w0 w col hb ab tb bb sv least sl A names N a) : ¬ Fi col w 2 hb := Fi_ne (by omega) hb h.hr.inF
theorem Hs.kpOld (h : Hs w0 w col hb ab tb bb sv least sl A names N a) (hi : i ≠ 0) (hk : Kp (Fi col w i) w w') : Kp (fun _ => False) w0 w' :=
  h.kp.trans (hk.mono fun q hq e => .inr ⟨by
    rcases Nat.lt_or_ge q w0.heap.size with h1 | h1
    · have := h.old q h1
      have := e.1
      omega
    · exact h1, hq⟩)
theorem Hs.oldCol (h : Hs w0 w col hb ab tb bb sv least sl A names N a) (q : Nat) (hq : q < w0.heap.size) : recol col w i q = 0 := by
  have := h.kp.size
  unfold recol
  rw [if_pos (by omega)]
  exact h.old q hq

theorem Hs.same (h : Hs w0 w col hb ab tb bb sv least sl A names N a) (hk : Kp (fun _ => False) w w') : Hs w0 w' (recol col w 0) hb ab tb bb sv least sl A names N a :=
  ⟨(h.hr.kp hk (fun _ _ e => e)).more (Fi_old hk.size) Fi_lt, (h.ar.same hk).more (Fi_old hk.size) Fi_lt, (h.at'.kp hk (fun _ _ e => e)).more (Fi_old hk.size) Fi_lt, (h.bn.kp hk (fun _ _ e => e)).more (Fi_old hk.size) Fi_lt, h.bi, h.oldCol, h.kp.trans' hk⟩

theorem AIn.kp {F G : Nat → Prop} (h : AIn w hb ab F A) (hk : Kp G w w') (hd : ∀ q, F q → ¬ G q) (hb' : ¬ G hb) : AIn w' hb ab F A := by
  obtain ⟨sl, hR⟩ := h.rep
  exact ⟨(hk.cell (World.block_lt_of_cell? _ _ h.ptr) hb').trans h.ptr, ⟨sl, hR.kp hk hd⟩, h.inv, h.word⟩

/-- the arena goes on -/
theorem Hs.stepA (h : Hs w0 w col hb ab tb bb sv least sl A names N a) (hA : AIn w' hb ab (Ext (Fi col w 2) w w') A') (hk : Kp (Fi col w 2) w w') : Hs w0 w' (recol col w 2) hb ab tb bb sv least sl A' names N a :=
  ⟨(h.hr.kp hk (Fi_ne (by omega))).more (Fi_old hk.size) Fi_lt, hA.more (Fi_ext hk.size) Fi_lt, (h.at'.kp hk (Fi_ne (by omega))).more (Fi_old hk.size) Fi_lt, (h.bn.kp hk (Fi_ne (by omega))).more (Fi_old hk.size) Fi_lt, h.bi, h.oldCol, h.kpOld (by omega) hk⟩
/-- the slots go on -/
theorem Hs.stepH {least' : Nat} {sl' : List (Int × Bool)} (h : Hs w0 w col hb ab tb bb sv least sl A names N a) (hg : HGo (Fi col w 1) w hb ab tb bb least' sl' w') : ∃ sv', Hs w0 w' (recol col w 1) hb ab tb bb sv' least' sl' A names N a := by
  obtain ⟨hk, F', sv', hn, hR⟩ := hg
  have hR' := hR.more (Fi_new hn hR.lt hk.size) Fi_lt
  exact ⟨sv', hR', ⟨hR'.cells.1, ((h.ar.rep).elim fun sl hR => ⟨sl, hR.kp hk (Fi_ne (by omega))⟩ : Rep w' (Fi col w 2) ab A).more' (Fi_old hk.size) Fi_lt, h.ar.inv, h.ar.word⟩, (h.at'.kp hk (Fi_ne (by omega))).more (Fi_old hk.size) Fi_lt, (h.bn.kp hk (Fi_ne (by omega))).more (Fi_old hk.size) Fi_lt, h.bi, h.oldCol, h.kpOld (by omega) hk⟩
/-- the binaries go on -/
theorem Hs.stepB (h : Hs w0 w col hb ab tb bb sv least sl A names N a) (hg : BGo (Fi col w 4) w bb a' w') (hI : BInv M a') : Hs w0 w' (recol col w 4) hb ab tb bb sv least sl A names M a' := by
  obtain ⟨hk, F', hn, hB⟩ := hg
  exact ⟨(h.hr.kp hk (Fi_ne (by omega))).more (Fi_old hk.size) Fi_lt, (h.ar.kp hk (Fi_ne (by omega)) (Fi_ne (by omega) hb h.hr.inF)).more (Fi_old hk.size) Fi_lt, (h.at'.kp hk (Fi_ne (by omega))).more (Fi_old hk.size) Fi_lt, hB.more (Fi_new hn hB.lt hk.size) Fi_lt, hI, h.oldCol, h.kpOld (by omega) hk⟩
/-- the table of atoms goes on -/
theorem Hs.stepT (h : Hs w0 w col hb ab tb bb sv least sl A names N a) (hT : AtRep w' (Ext (Fi col w 3) w w') tb names') (hk : Kp (Fi col w 3) w w') : Hs w0 w' (recol col w 3) hb ab tb bb sv least sl A names' N a :=
  ⟨(h.hr.kp hk (Fi_ne (by omega))).more (Fi_old hk.size) Fi_lt, (h.ar.kp hk (Fi_ne (by omega)) (Fi_ne (by omega) hb h.hr.inF)).more (Fi_old hk.size) Fi_lt, hT.more (Fi_ext hk.size) Fi_lt, (h.bn.kp hk (Fi_ne (by omega))).more (Fi_old hk.size) Fi_lt, h.bi, h.oldCol, h.kpOld (by omega) hk⟩
end
end Go.Proofs.YtkcmfldcdokobaaGreatDoor

/- errors.Is, of nil and of the kinds of errors (api.Errno). (The number 436 is the translation's count of types and a hundred.) -/
namespace Go.Proofs.YtkcmfldcdokobaaGreatDoor
open Go.RowKit Go.Extern.Stop Go.Stop Go.Extern

theorem Tryz.isTypeOf (v : Value) (w : World) : (Extern.ReflectliteType.typeOf #[.iface 67 v]).run Tryz.prog w = .ok (.iface 241 (.agg #[.pointer (some ⟨1, 67, none⟩)])) w := by kernel_rfl
def compOf : Array Value → Sem Value := Extern.ReflectliteType.method fun t => do Extern.Rtype.noPackHeld "Comparable" t; pure (.bool (← typeInfo t).comparable)
theorem Tryz.isComparable (w : World) : (compOf #[.agg #[.pointer (some ⟨1, 67, none⟩)]]).run Tryz.prog w = .ok (.bool true) w := by kernel_rfl
theorem Tryz.isMethodComparable (v : Value) (w : World) : (Go.method 436 241 v "Comparable").run Tryz.prog w = .ok (223, v) w := by kernel_rfl
theorem Tryz.isComp : (Tryz.prog.info? 67).map (·.comparable) = some true := by kernel_rfl
theorem Tryz.noIsE (v : Value) (xT : TypeId) (w : World) : (Instr.typeAssert (.iface 67 v) xT 264 true).run Tryz.prog w = .ok (.tuple #[.nilIface, .bool false]) w := run_typeAssert_lacksB Tryz.underlying264 (by kernel_rfl) (by kernel_rfl) v xT w
theorem Tryz.noUnwrapE (v : Value) (xT : TypeId) (w : World) : (Instr.typeAssert (.iface 67 v) xT 248 true).run Tryz.prog w = .ok (.tuple #[.nilIface, .bool false]) w := run_typeAssert_lacksB Tryz.underlying248 (by kernel_rfl) (by kernel_rfl) v xT w
theorem Tryz.noUnwrapsE (v : Value) (xT : TypeId) (w : World) : (Instr.typeAssert (.iface 67 v) xT 249 true).run Tryz.prog w = .ok (.tuple #[.nilIface, .bool false]) w := run_typeAssert_lacksB Tryz.underlying249 (by kernel_rfl) (by kernel_rfl) v xT w

/-- errors.Is(nil, k) -/
theorem is_nil (k : Int) (w : World) :
    Calls Tryz.prog 70 #[.nilIface, .iface 67 (.int .i64 k)] w fun e w' => e = .returned (.bool false) ∧ w = w' := by
  have hn := run_eql_iface_nil_left (P := Tryz.prog) w 67 (.int .i64 k) Tryz.underlying29
  go_enter Tryz.func70, Tryz.ntmps70
  go_wp2
  go_ret
  exact ⟨rfl, rfl⟩

set_option maxRecDepth 100000 in
set_option maxHeartbeats 1000000 in
/-- errors.Is(k, j) -/
theorem is_kind (k j : Int) (w : World) :
    Calls Tryz.prog 70 #[.iface 67 (.int .i64 k), .iface 67 (.int .i64 j)] w fun e w' => e = .returned (.bool (k == j)) ∧ w = w' := by
  have h8 := @run_callFunc_extern Tryz.prog 113 _ Extern.ReflectliteType.typeOf Tryz.func113 (by kernel_rfl) (by kernel_rfl) (by kernel_rfl) (by kernel_rfl)
  have h32 := @run_callFunc_extern Tryz.prog 223 _ compOf Tryz.func223 (by kernel_rfl) (by kernel_rfl) (by kernel_rfl) (by kernel_rfl)
  have tT := Tryz.isTypeOf
  have cT := Tryz.isComparable
  have mR := Tryz.isMethodComparable
  have nE := Tryz.noIsE
  have uE := Tryz.noUnwrapE
  have vE := Tryz.noUnwrapsE
  have heq := Go.Lib.run_eql_iface_int (P := Tryz.prog) w (k := .i64) k j Tryz.underlying29 Tryz.isComp Tryz.underlying67
  by_cases hkj : k = j
  · have hb : (k == j) = true := by simpa using hkj
    rw [hb] at heq ⊢
    clear hkj hb
    go_enter Tryz.func70, Tryz.ntmps70
    go_wp2
    refine wp_loop_rounds 1 ?_
    rw [rounds_succ]
    go_wp2
    go_ret
    exact ⟨rfl, rfl⟩
  · have hb : (k == j) = false := by simpa using hkj
    rw [hb] at heq ⊢
    clear hkj hb
    go_enter Tryz.func70, Tryz.ntmps70
    go_wp2
    refine wp_loop_rounds 1 ?_
    rw [rounds_succ]
    go_wp2
    go_ret
    exact ⟨rfl, rfl⟩
end Go.Proofs.YtkcmfldcdokobaaGreatDoor

/- binary: Handles. -/
namespace Go.Proofs.YtkcmfldcdokobaaGreatDoor
open Go.RowKit

/-- the handles of those of the first k slots that are held -/
def heldN (l : List Sl) : Nat → List Int
  | 0 => []
  | k + 1 => heldN l k ++ (match l[k]? with | some s => if s.count = 0 then [] else [(k : Int) + 4096 * s.gen] | none => [])
def Bn.held (a : Bn) : List Int := heldN a.slots a.slots.length
theorem heldN_le (l : List Sl) : ∀ k, (heldN l k).length ≤ k
  | 0 => by simp [heldN]
  | k + 1 => by
    have := heldN_le l k
    rw [heldN, List.length_append]
    split
    · split <;> simp <;> omega
    · simp; omega
theorem heldN_some {l : List Sl} {k : Nat} {s : Sl} (hs : l[k]? = some s) (hc : 0 < s.count) : heldN l (k + 1) = heldN l k ++ [(k : Int) + 4096 * s.gen] := by
  rw [heldN, hs]
  simp only
  rw [if_neg (by omega)]
theorem heldN_none {l : List Sl} {k : Nat} {s : Sl} (hs : l[k]? = some s) (hc : s.count = 0) : heldN l (k + 1) = heldN l k := by
  rw [heldN, hs]
  simp only
  rw [if_pos hc, List.append_nil]

def ints (l : List Int) : List Value := l.map (Value.int .i64)
theorem ints_snoc (l : List Int) (n : Int) : ints (l ++ [n]) = ints l ++ [.int .i64 n] := by simp [ints]
theorem ints_len (l : List Int) : (ints l).length = l.length := by simp [ints]

section
variable {F G : Nat → Prop} {w w' : World} {b : Nat} {a : Bn} {ss fs : Value} {ps : List (Value × Value × Value)}

set_option maxRecDepth 100000 in
set_option maxHeartbeats 2000000 in
theorem handles_any (h : BRep F w b a ss fs ps) (hL : a.slots.length ≤ 4096) (hg : ∀ (i : Nat) (s : Sl), a.slots[i]? = some s → s.gen ≤ 1000000000000000) :
    Calls Tryz.prog 30 #[.pointer (some ⟨b, 0, none⟩)] w fun e w' => ∃ v, e = .returned v ∧ w'.ownsRow w.heap.size 3 1 v a.held.length (ints a.held) ∧ Kp (fun _ => False) w w' := by
  obtain ⟨_, _, _, c3, _, _⟩ := h.cells
  obtain ⟨pS, capS, hS⟩ := slice_form h.rs
  obtain ⟨L, hLe, hL1⟩ : ∃ L, a.slots.length = L ∧ L ≤ 4096 := ⟨_, rfl, hL⟩
  rw [hS, hLe] at c3
  have H := Lib.hid (And.intro h (And.intro hg hLe))
  clear h hg hL hLe hS
  go_enter Tryz.func30, Tryz.ntmps30
  go_wp2_with fail
  clear c3
  go_loopg [3, 13] L (fun gk v i wr => ∃ (k : Nat) (vs : Value), k ≤ L ∧ gk = L - k ∧ i = Value.int .i64 k ∧ vs = v ∧ wr.ownsRow w.heap.size 3 1 vs (heldN a.slots k).length (ints (heldN a.slots k)) ∧ Kp (fun _ => False) w wr)
  case atStart => exact ⟨0, _, by omega, rfl, rfl, rfl, World.ownsRow_nil _ _ _ _, Kp.refl _ w⟩
  case round =>
    obtain ⟨k, vs, hk, rfl, rfl, rfl, hrow, hK⟩ := hrel
    by_cases hlt : k < L
    · obtain ⟨s, hs⟩ : ∃ s, a.slots[k]? = some s := ⟨_, List.getElem?_eq_getElem (by have := H.out.2.2; omega)⟩
      have hgs := H.out.2.1 k s hs
      obtain ⟨q, hq, hq2⟩ : ∃ q, s.gen = q ∧ q ≤ 1000000000000000 := ⟨_, rfl, hgs⟩
      obtain ⟨n, hn, hn0, hnM⟩ : ∃ n : Int, (k : Int) + 4096 * q = n ∧ 0 ≤ n ∧ n ≤ 9223372036854775807 := ⟨_, rfl, by omega, by omega⟩
      have hB := H.out.1.kp hK (fun _ _ e => e)
      have hLL := H.out.2.2
      have hca : Calls Tryz.prog 68 #[.pointer (some ⟨b, 0, none⟩), .int .i64 k] wr fun e w' => e = .returned (.int .i64 n) ∧ ∃ j, w' = wr.drewN j := by
        have := handle_any hB hs (by omega) hgs
        rw [hq, hn] at this
        exact this
      have Hca := Lib.hid (And.intro hca (And.intro hs (And.intro hq (And.intro hn (And.intro hB (And.intro hrow hK))))))
      have hli : (k : Int) < L := by omega
      clear hca hs hgs hq hn hB hLL hrow hK
      go_wp2_with fail
      refine Hca.out.1.mono ?_
      rintro e w1 ⟨rfl, j, rfl⟩
      obtain ⟨_, hs, hq, hn, hB, hrow, hK⟩ := Hca.out
      have hB1 := hB.kp (Kp.drewN' (Kp.refl (fun _ => False) wr) j) (fun _ _ e => e)
      have hK1 := Kp.drewN' hK j
      have hrow1 : (wr.drewN j).ownsRow w.heap.size 3 1 vs (heldN a.slots k).length (ints (heldN a.slots k)) := hrow
      obtain ⟨w1, hw1⟩ : ∃ w1, wr.drewN j = w1 := ⟨_, rfl⟩
      rw [hw1] at hB1 hK1 hrow1
      have hLL := H.out.2.2
      by_cases hc : s.count = 0
      · have hbad : FBad a n 4 := .inr ⟨rfl, hn0, k, s, by omega, hs, .inr ⟨by omega, hc⟩⟩
        have Hx := Lib.hid (And.intro hB1 (And.intro hK1 (And.intro hbad (And.intro hrow1 (heldN_none hs hc)))))
        clear hs hq hn hB hrow hK hB1 hK1 hrow1 hc hbad hLL Hca
        go_wp2_with fail
        refine (find_bad Hx.out.1 (by have := H.out.2.2; omega) n 4 (by omega) hnM Hx.out.2.2.1).mono ?_
        rintro e w2 ⟨rfl, rfl⟩
        go_wp2_with fail
        refine (is_kind 4 4 _).mono ?_
        rintro e w2 ⟨rfl, rfl⟩
        go_wp2_with fail
        go_roundg (L - (k + 1))
        case measure => omega
        case rel => exact ⟨k + 1, _, by omega, rfl, by go_num, rfl, by rw [Hx.out.2.2.2.2]; exact Hx.out.2.2.2.1, Hx.out.2.1⟩
      · obtain ⟨g, cap, v, hv, _⟩ := hB1.slot hs
        have hlen := heldN_le a.slots k
        have hc1 : (heldN a.slots k).length + 1 ≤ maxLen := by unfold maxLen; omega
        have hc2 : ((heldN a.slots k).length + 1) * 8 ≤ 140737488355328 := by omega
        obtain ⟨hh, hhe⟩ : ∃ hh, (heldN a.slots k).length = hh := ⟨_, rfl⟩
        rw [hhe] at hc1 hc2 hrow1
        have hoA : ∀ o, (w1.alloc o).ownsRow w.heap.size 3 1 vs hh (ints (heldN a.slots k)) := fun o => hrow1.alloc o
        have hnA : ∀ i u, [Value.int .i64 n][i]? = some u → (w1.alloc (.cells #[Value.int .i64 n] 3)).cell? ((⟨w1.heap.size, 0, none⟩ : Addr).add i) = some u :=
          World.news_of_block (cs := #[Value.int .i64 n]) (heap_alloc_new w1 _)
        have hone : ∀ u ∈ [Value.int .i64 n], u.oneCell' = true := by intro u hu; simp at hu; subst hu; rfl
        obtain ⟨i0, hi, hz0, hz1, hz2⟩ := info_parts Tryz.infoInt
        have hbase : w.heap.size ≤ (w1.alloc (.cells #[Value.int .i64 n] 3)).heap.size := by have := hK1.size; simp; omega
        have Hx := Lib.hid (And.intro hB1 (And.intro hK1 (And.intro hs (And.intro hrow1 (And.intro (heldN_some hs (by omega)) (And.intro hc1 (And.intro hc2 (And.intro hv (And.intro hhe (And.intro hc (And.intro hq hn)))))))))))
        clear hs hq hn hB hrow hK hB1 hK1 hrow1 hc hLL Hca hc1 hc2 hv hhe hlen
        go_wp2_with fail
        refine (find_ok Hx.out.1 Hx.out.2.2.1 (by have := H.out.2.2; omega) (by have := Hx.out.2.2.2.2.2.2.2.2.2.1; omega) n hn0 hnM (by have := Hx.out.2.2.2.2.2.2.2.2.2.2; omega) (by have := Hx.out.2.2.2.2.2.2.2.2.2.2; omega) Hx.out.2.2.2.2.2.2.2.1).mono ?_
        rintro e w2 ⟨rfl, rfl⟩
        go_wp2_with fail
        refine (is_nil 4 _).mono ?_
        rintro e w2 ⟨rfl, rfl⟩
        go_wp2_with (at_builtin; refine wpList_append_lies _ rfl _ _ 22 rfl w.heap.size 3 i0 (.int .i64 0) 1 8 Tryz.underlying22 hi hz0 hz1 hz2 rfl (by omega) vs hh _ rfl (hoA _) ⟨w1.heap.size, 0, none⟩ 1 1 [.int .i64 n] rfl rfl hnA hone (by omega) Hx.out.2.2.2.2.2.1 Hx.out.2.2.2.2.2.2.1 hbase (w1.heap.size + 1) (by simp) ?_; intro g1 cap1 w3 hown hgrow hat hlt3; have Hy := Lib.hid (And.intro hown (And.intro hgrow (And.intro hat hlt3))); clear hown hgrow hat hlt3)
        have hfin : w3.ownsRow w.heap.size 3 1 (.slice (some ⟨g1, 0, none⟩) (hh + 1) cap1) (heldN a.slots (k + 1)).length (ints (heldN a.slots (k + 1))) ∧ Kp (fun _ => False) w w3 := by
          obtain ⟨hown, hgrow, hat, hlt3⟩ := Hy.out
          obtain ⟨_, hK1, _, hrow1, he, _, _, _, hhe, _, hq, hn⟩ := Hx.out
          refine ⟨?_, (hK1.alloc _).grown hgrow (fun q hq => .inr (hrow1.lt q hq).1)⟩
          rw [he, ints_snoc, List.length_append, hhe, hq, hn]
          exact hown
        have Hz := Lib.hid hfin
        clear hfin Hy hoA hnA hone hbase
        go_roundg (L - (k + 1))
        case measure => omega
        case rel => exact ⟨k + 1, _, by omega, rfl, by go_num, rfl, Hz.out.1, Hz.out.2⟩
    · obtain rfl : L = k := by omega
      have Hx := Lib.hid (And.intro hrow hK)
      clear hrow hK
      go_wp2_with fail
      go_ret
      refine ⟨_, rfl, ?_, Hx.out.2⟩
      have := Hx.out.1
      rw [← H.out.2.2] at this
      exact this
end
end Go.Proofs.YtkcmfldcdokobaaGreatDoor

/- binary: Put in the two ways; the statements' common example. -/
namespace Go.Proofs.YtkcmfldcdokobaaGreatDoor
open Go.RowKit

def pushIn (a : Bn) (l : List UInt8) : Bn := { a with used := a.used + l.length, slots := a.slots ++ [(⟨l, 1, 0⟩ : Sl)] }
def backIn (a : Bn) (rest : List Nat) (i g : Nat) (l : List UInt8) : Bn := { a with used := a.used + l.length, slots := a.slots.set i ⟨l, 1, g⟩, free := rest }
def freeIn (a : Bn) (i : Nat) (s : Sl) : Bn := { a with used := a.used - s.bs.length, slots := a.slots.set i ⟨[], 0, s.gen + 1⟩, free := a.free ++ [i] }

section
variable {F : Nat → Prop} {w w3 : World} {b : Nat} {a : Bn} {ss fs : Value} {ps : List (Value × Value × Value)} {N : Nat}

theorem bytes_lit {w : World} {g cap : Nat} {l : List UInt8} (h : w.heap[g]? = some (.cells (bcells l).toArray 5 (0, 0))) (hl : l.length ≤ 1048576) (hc : l.length ≤ cap) : BytesAt (fun q => q = g) w l (.slice (some ⟨g, 0, none⟩) l.length cap) :=
  ⟨_, cap, rfl, hc, by omega, fun i c hi => ⟨g, 0, rfl, rfl, by rw [cell_of h, Nat.zero_add]; simpa using bcells_get hi⟩⟩

theorem taken_new (hf : a.free = []) (hL : a.slots.length < a.most) (hM : a.most ≤ 4096) : Taken a a.slots.length ⟨[], 0, 0⟩ { a with slots := a.slots ++ [(⟨[], 0, 0⟩ : Sl)] } :=
  ⟨by simp, rfl, rfl, rfl, by simp; omega, by simp, .inl ⟨hf, hL, rfl, rfl, rfl⟩⟩
theorem putIn_new (a : Bn) (l : List UInt8) : putIn { a with slots := a.slots ++ [(⟨[], 0, 0⟩ : Sl)] } a.slots.length ⟨[], 0, 0⟩ l = pushIn a l := by
  have he : (a.slots ++ [(⟨[], 0, 0⟩ : Sl)]).set a.slots.length ⟨l, 1, 0⟩ = a.slots ++ [(⟨l, 1, 0⟩ : Sl)] := by simp
  unfold putIn pushIn
  simp only [he]

theorem put_first (h : BRep F w b a ss fs ps) (hI : BInv N a) (hN : N ≤ 1000000000000000) {G : Nat → Prop} {l : List UInt8} {v : Value} (hv : BytesAt G w l v) (hG : ∀ q, G q → ¬ F q)
    (hf : a.free = []) (hL : a.slots.length < a.most) (hl : a.used + l.length ≤ a.room) :
    Calls Tryz.prog 152 #[.pointer (some ⟨b, 0, none⟩), v] w fun e w' => e = .returned (.tuple #[.int .i64 a.slots.length, .nilIface]) ∧ BGo F w b (pushIn a l) w' := by
  obtain ⟨i, s, a1, hT, hc⟩ := put_ok h hI hN hv hG (.inl hL) hl
  rcases hT.how with ⟨_, _, rfl, hg, rfl⟩ | ⟨rest, hf2, _⟩
  · have hs0 : s = ⟨[], 0, 0⟩ := by
      have := hT.slot
      simp at this
      exact this.symm
    subst hs0
    rw [putIn_new] at hc
    refine hc.mono ?_
    rintro e w' ⟨rfl, h2⟩
    exact ⟨by simp, h2⟩
  · rw [hf] at hf2
    simp at hf2
theorem inv_push (hI : BInv N a) (hN : 1 ≤ N) {l : List UInt8} (hf : a.free = []) (hL : a.slots.length < a.most) (hl : a.used + l.length ≤ a.room) : BInv N (pushIn a l) := by
  rw [← putIn_new]
  exact hI.put (taken_new hf hL hI.most.2) hl hN

theorem put_again (h : BRep F w b a ss fs ps) (hI : BInv N a) (hN : N ≤ 1000000000000000) {G : Nat → Prop} {l : List UInt8} {v : Value} (hv : BytesAt G w l v) (hG : ∀ q, G q → ¬ F q)
    {rest : List Nat} {i : Nat} {s : Sl} (hf : a.free = rest ++ [i]) (hs : a.slots[i]? = some s) (hl : a.used + l.length ≤ a.room) :
    Calls Tryz.prog 152 #[.pointer (some ⟨b, 0, none⟩), v] w fun e w' => e = .returned (.tuple #[.int .i64 (i + 4096 * s.gen), .nilIface]) ∧ BGo F w b (backIn a rest i s.gen l) w' := by
  obtain ⟨i', s', a1, hT, hc⟩ := put_ok h hI hN hv hG (.inr (by rw [hf]; simp)) hl
  rcases hT.how with ⟨hf2, _⟩ | ⟨rest', hf2, hs2, rfl⟩
  · rw [hf] at hf2
    simp at hf2
  · rw [hf] at hf2
    obtain ⟨rfl, hi⟩ := List.append_inj' hf2 rfl
    injection hi with hi
    subst hi
    rw [hs] at hs2
    injection hs2 with hs2
    subst hs2
    exact hc
theorem inv_back (hI : BInv N a) (hN : 1 ≤ N) (hNM : N ≤ 1000000000000000) {l : List UInt8} {rest : List Nat} {i : Nat} {s : Sl} (hf : a.free = rest ++ [i]) (hs : a.slots[i]? = some s) (hl : a.used + l.length ≤ a.room) : BInv N (backIn a rest i s.gen l) := by
  have h3 := hI.len
  have h1 := hI.most
  have hc : s.count = 0 := by
    obtain ⟨t, h4, h5⟩ := (hI.fr i).1 (by rw [hf]; simp)
    rw [hs] at h4; injection h4 with h4; subst h4; exact h5
  exact hI.put (a1 := { a with free := rest }) ⟨hs, hI.em i s hs hc, hc, rfl, by show a.slots.length ≤ 4096; omega, by have := (hI.bd i s hs).2; omega, .inr ⟨rest, hf, hs, rfl⟩⟩ hl hN
end

/-- what the example of the chapter comes to -/
def a1W : Bn := ⟨2, 10, 3, [⟨[1, 2, 3], 1, 0⟩], []⟩
def a2W : Bn := ⟨2, 10, 0, [⟨[], 0, 1⟩], [0]⟩

end Go.Proofs.YtkcmfldcdokobaaGreatDoor

/- A slice of bytes that came in. -/
namespace Go.Proofs.YtkcmfldcdokobaaGreatDoor
open Go.RowKit

def BIn (w : World) (a : Option Addr) (len cap : Nat) (f : Nat → UInt8) : Prop :=
  len ≤ cap ∧ cap ≤ 9223372036854775807 ∧ ∀ k, k < len → ∃ b off, a = some ⟨b, off, none⟩ ∧ b < w.heap.size ∧ w.cell? ⟨b, off + k, none⟩ = some (.int .u8 (f k).toNat)

/-- the first m of them -/
def bl (f : Nat → UInt8) (m : Nat) : List UInt8 := (List.range m).map f
theorem bl_len (f : Nat → UInt8) (m : Nat) : (bl f m).length = m := by simp [bl]
theorem bl_get {f : Nat → UInt8} {m i : Nat} {c : UInt8} (h : (bl f m)[i]? = some c) : i < m ∧ c = f i := by
  have hl := (List.getElem?_eq_some_iff.1 h).1
  rw [bl_len] at hl
  refine ⟨hl, ?_⟩
  simp [bl, hl] at h
  exact h.symm

theorem bIn_of {w : World} {x : Addr} {len cap : Nat} {zs : List Int} (h1 : len ≤ cap) (h2 : cap ≤ maxLen) (h3 : len ≤ zs.length) (h4 : ∀ i, i < zs.length → w.cell? (x.add i) = some (.int .u8 (zs.getD i 0))) (h5 : ∀ n ∈ zs, (Lit.int .u8 n).wf = true) :
    BIn w (some x) len cap (fun k => UInt8.ofNat (zs.getD k 0).toNat) := by
  refine ⟨h1, by unfold maxLen at h2; omega, fun k hk => ?_⟩
  obtain ⟨b, off, rfl, hc⟩ := ints_at h4 (by omega)
  have hk' := hc k (by omega)
  refine ⟨b, off, rfl, World.block_lt_of_cell? _ _ hk', ?_⟩
  have hm : zs.getD k 0 ∈ zs := by
    have : k < zs.length := by omega
    rw [List.getD_eq_getElem?_getD, List.getElem?_eq_getElem this]
    exact List.getElem_mem this
  have hw := h5 _ hm
  obtain ⟨z, hz⟩ : ∃ z, zs.getD k 0 = z := ⟨_, rfl⟩
  show _ = some (Value.int .u8 (UInt8.ofNat (zs.getD k 0).toNat).toNat)
  rw [hz] at hk' hw ⊢
  have hb := bounds_u8 hw
  rw [hk']
  congr 2
  rw [UInt8.toNat_ofNat']
  omega

theorem BIn.at' {w : World} {a : Option Addr} {len cap : Nat} {f : Nat → UInt8} (h : BIn w a len cap f) {m c : Nat} (hm : m ≤ len) (hM : m ≤ 140737488351232) (hc : m ≤ c) : BytesAt (fun q => q < w.heap.size) w (bl f m) (.slice a m c) := by
  refine ⟨a, c, by rw [bl_len], by rw [bl_len]; exact hc, by rw [bl_len]; exact hM, fun i x hi => ?_⟩
  obtain ⟨him, rfl⟩ := bl_get hi
  obtain ⟨b, off, h1, h2, h3⟩ := h.2.2 i (by omega)
  exact ⟨b, off, h1, h2, h3⟩
theorem bIn_nil (w : World) (f : Nat → UInt8) : BIn w none 0 0 f := ⟨by omega, by omega, fun k hk => by omega⟩
end Go.Proofs.YtkcmfldcdokobaaGreatDoor

/- Bytes of one's own that are written, beside a heap of binaries. -/
namespace Go.Proofs.YtkcmfldcdokobaaGreatDoor
open Go.RowKit

/-- so many bytes, in blocks of G, that may be written -/
def Loose (G : Nat → Prop) (w : World) (po : Option Addr) (n : Nat) : Prop :=
  ∀ k, k < n → ∃ g off x, po = some ⟨g, off, none⟩ ∧ G g ∧ g < w.heap.size ∧ w.cell? ⟨g, off + k, none⟩ = some (.int .u8 x) ∧ 0 ≤ x ∧ x ≤ 255 ∧ w.frozen? ⟨g, off + k, none⟩ = false

theorem BytesAt.form' {F : Nat → Prop} {w : World} {l : List UInt8} {v : Value} (h : BytesAt F w l v) {m : Nat} (hl : l.length = m) : ∃ po cap, v = .slice po m cap := by
  obtain ⟨po, cap, e, _⟩ := h
  exact ⟨po, cap, by rw [e, hl]⟩
theorem loose_of {G : Nat → Prop} {w : World} {l : List UInt8} {po : Option Addr} {n cap : Nat} (h : BytesAt (Byt G w) w l (.slice po n cap)) : Loose G w po n := by
  obtain ⟨po2, cap2, e, h2, h3, h4⟩ := h
  injection e with e e1 e2
  subst e e1
  intro k hk
  obtain ⟨b, off, e, hb, hc⟩ := h4 k l[k] (List.getElem?_eq_getElem hk)
  obtain ⟨cs, hcs⟩ := hb.2
  exact ⟨b, off, _, e, hb.1, (Array.getElem?_eq_some_iff.1 hcs).1, hc, by omega, by have := l[k].toNat_lt; omega, frozen_of hcs _⟩
theorem Loose.set {G : Nat → Prop} {w : World} {po : Option Addr} {n : Nat} (h : Loose G w po n) {g off k : Nat} (hpo : po = some ⟨g, off, none⟩) (hk : k < n) {x : Int} (h0 : 0 ≤ x) (h1 : x ≤ 255) :
    Loose G (w.setCell ⟨g, off + k, none⟩ (.int .u8 x)) po n := by
  intro j hj
  obtain ⟨g', off', y, e, hG, hlt, hc, y0, y1, hf⟩ := h j hj
  rw [hpo] at e
  injection e with e
  rw [Addr.mk.injEq] at e
  obtain ⟨rfl, rfl, _⟩ := e
  by_cases hjk : j = k
  · subst hjk
    exact ⟨g, off, x, hpo, hG, by simpa [World.setCell] using hlt, World.cell?_setCell_same _ _ _ hc, h0, h1, by rw [World.frozen?_setCell]; exact hf⟩
  · exact ⟨g, off, y, hpo, hG, by simpa [World.setCell] using hlt, by rw [World.cell?_setCell_other _ _ _ _ (fun e => by have e' := congrArg Addr.off e; simp only at e'; omega)]; exact hc, y0, y1, by rw [World.frozen?_setCell]; exact hf⟩
theorem Loose.kp {G H : Nat → Prop} {w w' : World} {po : Option Addr} {n : Nat} (h : Loose G w po n) (hk : Kp H w w') (hd : ∀ q, G q → ¬ H q) : Loose G w' po n := by
  intro k hkn
  obtain ⟨g, off, x, e, hG, hlt, hc, h0, h1, hf⟩ := h k hkn
  exact ⟨g, off, x, e, hG, Nat.lt_of_lt_of_le hlt hk.size, (hk.cell (p := ⟨g, off + k, none⟩) hlt (hd g hG)).trans hc, h0, h1, (hk.frozen (p := ⟨g, off + k, none⟩) hlt (hd g hG)).trans hf⟩

section
variable {w wr w2 : World} {b N M : Nat} {a a' : Bn} {F G : Nat → Prop}
theorem Solo.beside (h : Solo w wr b N a F) (hk : Kp G wr w2) (hd : ∀ q, F q → ¬ G q) (hn : ∀ q, G q → w.heap.size ≤ q) : Solo w w2 b N a F :=
  ⟨h.at'.kp hk hd, h.inv, h.new, h.kp.trans (hk.mono fun q hq hG => .inr ⟨hn q hG, hq⟩)⟩

/-- a heap of binaries, and bytes beside it that may be written -/
structure Duo8 (w wr : World) (b N : Nat) (a : Bn) (F G : Nat → Prop) (po : Option Addr) (n : Nat) : Prop where
  solo : Solo w wr b N a F
  loose : Loose G wr po n
  apart : ∀ q, F q → ¬ G q
  new : ∀ q, G q → w.heap.size ≤ q
theorem Duo8.set {po : Option Addr} {n : Nat} (h : Duo8 w wr b N a F G po n) {g off k : Nat} (hpo : po = some ⟨g, off, none⟩) (hk : k < n) {x : Int} (h0 : 0 ≤ x) (h1 : x ≤ 255) :
    Duo8 w (wr.setCell ⟨g, off + k, none⟩ (.int .u8 x)) b N a F G po n := by
  obtain ⟨g', off', y, e, hG, _⟩ := h.loose k hk
  rw [hpo] at e
  injection e with e
  rw [Addr.mk.injEq] at e
  obtain ⟨rfl, rfl, _⟩ := e
  exact ⟨h.solo.beside ((Kp.refl G wr).setCell _ _ (.inl hG)) h.apart h.new, h.loose.set hpo hk h0 h1, h.apart, h.new⟩
theorem Duo8.drewN {po : Option Addr} {n : Nat} (h : Duo8 w wr b N a F G po n) (j : Nat) : Duo8 w (wr.drewN j) b N a F G po n :=
  ⟨h.solo.same (Kp.drewN' (Kp.refl _ wr) j), h.loose.kp (Kp.drewN' (Kp.refl (fun _ => False) wr) j) (fun _ _ e => e), h.apart, h.new⟩
end
end Go.Proofs.YtkcmfldcdokobaaGreatDoor
