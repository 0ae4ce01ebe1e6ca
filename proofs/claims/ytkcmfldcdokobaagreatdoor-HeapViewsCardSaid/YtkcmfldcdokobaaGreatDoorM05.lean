/- It ended in an error that is a chain of links. What the functions class, At and the method holds do. What the arena's method Alloc does where a block was found. What the arena's method Alloc does where it refuses. -/
import Derived.Test.YtkcmfldcdokobaaGreatDoorM03
import Derived.Test.YtkcmfldcdokobaaGreatDoorM04
import Derived.Lib.ItoaNum
/- It ended in an error that is a chain of links. -/
namespace Go.Proofs.YtkcmfldcdokobaaGreatDoor
open Go.RowKit

/-- an error and nothing else that is new but blocks of errors: the chain of these links -/
def EBad (w : World) (mk : Value → Value) (l : List Lk) (e : Ending) (w' : World) : Prop :=
  ∃ v, e = .returned (mk v) ∧ ChainB w.heap.size w' v l ∧ Kp (fun _ => False) w w'
def XBad (w : World) (mk : Value → Value) (l : List Lk) (e : Ending) (w' : World) : Prop :=
  ∃ v, e = .returned (mk v) ∧ XCh w' v l ∧ Kp (fun _ => False) w w'

theorem ebad1 (w : World) (mk : Value → Value) (op : ByteArray) (n k : Int) (hk : k ≠ 0) (j : Nat) :
    EBad w mk [Lk.fault op n, Lk.kind k] (.returned (mk (.iface 95 (.pointer (some ⟨w.heap.size, 0, none⟩))))) ((w.alloc (.cells #[.string op, .int .i64 n, .iface 67 (.int .i64 k)] 181)).drewN j) := by
  refine ⟨_, rfl, ChainB.cons op n (ChainB.root _ _ hk) (Nat.le_refl _) ?_, ?_⟩
  · exact heap_alloc_new w _
  · have := (Kp.refl (fun _ => False) w).alloc (.cells #[.string op, .int .i64 n, .iface 67 (.int .i64 k)] 181)
    exact ⟨this.os, this.tape, this.output, this.size, this.block⟩

theorem xbad1 (w : World) (mk : Value → Value) (op : ByteArray) (n k : Int) (j : Nat) :
    XBad w mk [Lk.fault op n, Lk.kind k] (.returned (mk (.pointer (some ⟨w.heap.size + 1, 0, none⟩))))
      (((w.alloc (.cells #[.string ByteArray.empty, .int .i64 0, .pointer none, .int .i64 k] 259)).alloc (.cells #[.string op, .int .i64 n, .pointer (some ⟨w.heap.size, 0, none⟩), .int .i64 0] 259)).drewN j) := by
  refine ⟨_, rfl, .inr ⟨rfl, by simp, w.heap.size + 1, w.heap.size, rfl, ?_, .inl ⟨rfl, _, rfl, ?_, rfl, rfl⟩⟩, ?_⟩
  · have := heap_alloc_new (w.alloc (.cells #[.string ByteArray.empty, .int .i64 0, .pointer none, .int .i64 k] 259)) (.cells #[.string op, .int .i64 n, .pointer (some ⟨w.heap.size, 0, none⟩), .int .i64 0] 259)
    have hz : (w.alloc (.cells #[.string ByteArray.empty, .int .i64 0, .pointer none, .int .i64 k] 259)).heap.size = w.heap.size + 1 := by simp
    rw [hz] at this
    exact this
  · have := heap_alloc_new w (.cells #[.string ByteArray.empty, .int .i64 0, .pointer none, .int .i64 k] 259)
    exact (Below.heap_alloc _ _ _ (by simp)).trans this
  · have := ((Kp.refl (fun _ => False) w).alloc (.cells #[.string ByteArray.empty, .int .i64 0, .pointer none, .int .i64 k] 259)).alloc (.cells #[.string op, .int .i64 n, .pointer (some ⟨w.heap.size, 0, none⟩), .int .i64 0] 259)
    exact ⟨this.os, this.tape, this.output, this.size, this.block⟩

theorem ret2 {k : IntKind} {a b : Int} {v : Value} (h : a = b) : Ending.returned (.tuple #[.int k a, v]) = .returned (.tuple #[.int k b, v]) := by rw [h]


/-- fault.At around an error -/
theorem at_any (op : ByteArray) (n : Int) (t : TypeId) (v : Value) (w : World) :
    Calls Tryz.prog 49 #[.string op, .int .i64 n, .iface t v] w fun e w' => e = .returned (.iface 95 (.pointer (some ⟨w.heap.size, 0, none⟩))) ∧
      w' = w.alloc (.cells #[.string op, .int .i64 n, .iface t v] 181) := by
  go_enter Tryz.func49, Tryz.ntmps49
  go_wp2
  go_ret
  exact ⟨rfl, rfl⟩
theorem EBad.drew {w w1 : World} {mk : Value → Value} {l : List Lk} {e : Ending} {w' : World} (h : EBad w1 mk l e w') (hk : Kp (fun _ => False) w w1) : EBad w mk l e w' := by
  obtain ⟨v, h1, h2, h3⟩ := h
  exact ⟨v, h1, h2.le hk.size, hk.trans' h3⟩
end Go.Proofs.YtkcmfldcdokobaaGreatDoor

/- What the functions class, At and the method holds do. -/
namespace Go.Proofs.YtkcmfldcdokobaaGreatDoor
open Go.RowKit

/-- the class of a block -/
def cls (n : Nat) : Nat := max 1 (Lib.bitLen n)

set_option maxHeartbeats 400000 in
theorem class_any (n : Nat) (w : World) (hn : n ≤ 1048576) :
    Calls Tryz.prog 136 #[.int .i64 n] w fun e w' => e = .returned (.int .i64 (cls n)) ∧ w = w' := by
  go_enter Tryz.func136, Tryz.ntmps136
  go_wp2_with (go_at_call 153; refine (Tryz.bits_Len _ _ (by omega) (by omega)).mono ?_; rintro e w' ⟨rfl, rfl⟩)
  go_ret
  refine ⟨?_, rfl⟩
  simp [cls]
  omega

theorem cls_spec (n : Nat) (hn : n ≤ 1048576) : 1 ≤ cls n ∧ cls n ≤ 21 ∧ n + 1 ≤ 2 ^ cls n ∧ ∀ c, 1 ≤ c → n + 1 ≤ 2 ^ c → cls n ≤ c := by
  by_cases h0 : n = 0
  · subst h0
    have e : cls 0 = 1 := by decide
    rw [e]
    exact ⟨by omega, by omega, by decide, fun c hc _ => hc⟩
  · obtain ⟨h1, h2, h3⟩ := Lib.bitLenAux_bounds 64 n (by omega) h0
    have e : cls n = Lib.bitLenAux 64 n := by unfold cls Lib.bitLen; omega
    rw [e]
    have key : ∀ c, n + 1 ≤ 2 ^ c → Lib.bitLenAux 64 n ≤ c := by
      intro c hc
      rcases Nat.lt_or_ge c (Lib.bitLenAux 64 n) with hlt | hge
      · have := Nat.pow_le_pow_right (n := 2) (by omega) (show c ≤ Lib.bitLenAux 64 n - 1 by omega)
        omega
      · exact hge
    exact ⟨h1, key 21 (by omega), h3, fun c _ hc => key c hc⟩

/-- p is a block that is taken -/
def Ar.holds (A : Ar) (p : Int) : Bool := if 0 < p ∧ p ≤ A.taken.length then A.taken.getD (p - 1).toNat false else false

theorem holds_cells {w : World} {F : Nat → Prop} {b : Nat} {A : Ar} (h : Rep w F b A) :
    ∃ po cap, w.cell? ⟨b, 4, none⟩ = some (.slice po A.taken.length cap) ∧ ∀ q, q < A.taken.length → ∃ g, po = some ⟨g, 0, none⟩ ∧ w.cell? ⟨g, q, none⟩ = some (.bool (A.taken.getD q false)) := by
  obtain ⟨sl, hR⟩ := h
  have ho := hR.own 1 (by omega)
  have hce := hR.cell 1 (by omega)
  rw [show A.rows 1 = A.taken.map Value.bool from rfl, List.length_map] at ho
  obtain ⟨po, cap, hv⟩ := row_form ho
  rw [show A.hd.length + 1 = 4 from rfl, hv] at hce
  refine ⟨po, cap, hce, fun q hq => ?_⟩
  obtain ⟨g, cap', hv', _, _⟩ := row_cons ho (by omega)
  rw [hv] at hv'
  simp only [Value.slice.injEq, true_and] at hv'
  obtain ⟨rfl, rfl⟩ := hv'
  refine ⟨g, rfl, ?_⟩
  rw [hv] at ho
  rw [ho.cellAt q (by omega), List.getElem?_map, List.getD_eq_getElem?_getD]
  rw [List.getElem?_eq_getElem hq]
  rfl

set_option maxHeartbeats 400000 in
theorem holds_any {w : World} {F : Nat → Prop} {b : Nat} {A : Ar} (h : Rep w F b A) (ht : A.taken.length ≤ 1048576) (p : Int) :
    Calls Tryz.prog 116 #[.pointer (some ⟨b, 0, none⟩), .int .i64 p] w fun e w' => e = .returned (.bool (A.holds p)) ∧ w = w' := by
  obtain ⟨po, cap, hce, hq⟩ := holds_cells h
  by_cases h0 : 0 < p
  · by_cases h1 : p ≤ A.taken.length
    · obtain ⟨q, rfl⟩ : ∃ q : Nat, p = q + 1 := ⟨(p - 1).toNat, by omega⟩
      obtain ⟨g, rfl, hc⟩ := hq q (by omega)
      have e : A.holds ((q : Int) + 1) = A.taken.getD q false := by
        unfold Ar.holds
        rw [if_pos ⟨h0, h1⟩]
        simp
      rw [e]
      have hlt : (q : Int) < A.taken.length := by omega
      clear e h hq
      obtain ⟨x, hx⟩ : ∃ x, A.taken.getD q false = x := ⟨_, rfl⟩
      rw [hx] at hc ⊢
      clear hx
      go_enter Tryz.func116, Tryz.ntmps116
      go_wp2
      go_ret
      exact ⟨rfl, rfl⟩
    · have e : A.holds p = false := by unfold Ar.holds; rw [if_neg (by omega)]
      rw [e]
      clear hq e
      go_enter Tryz.func116, Tryz.ntmps116
      go_wp2
      go_ret
      exact ⟨rfl, rfl⟩
  · have e : A.holds p = false := by unfold Ar.holds; rw [if_neg (by omega)]
    rw [e]
    clear hq e
    go_enter Tryz.func116, Tryz.ntmps116
    go_wp2
    go_ret
    exact ⟨rfl, rfl⟩
end Go.Proofs.YtkcmfldcdokobaaGreatDoor

/- What the arena's method Alloc does where a block was found. -/
namespace Go.Proofs.YtkcmfldcdokobaaGreatDoor
open Go.RowKit

def zeroed (l : List Int) (p n : Nat) : List Int := l.take p ++ List.replicate n 0 ++ l.drop (p + n)
/-- block own of class c is taken for n words -/
def Ar.took (A : Ar) (own c n : Nat) : Ar := { A with used := A.used + 2 ^ c, taken := A.taken.set own true, places := zeroed (A.places.set own n) (own + 1) n }

theorem ext2 {w w1 w5 : World} {F : Nat → Prop} {b : Nat} {A : Ar} (hk : Kp F w w1) (h : Rep w5 (Ext F w w1) b A ∧ Kp (Ext F w w1) w1 w5) : Rep w5 (Ext F w w5) b A ∧ Kp F w w5 := by
  have h1 := hk.size
  have h2 := h.2.size
  refine ⟨h.1.more' ?_ ?_, hk.trans h.2⟩
  · intro q hq
    rcases hq with hq | hq
    · exact .inl hq
    · exact .inr ⟨hq.1, by omega⟩
  · intro q hq
    rcases hq with hq | hq
    · exact h.1.ltF q (.inl hq)
    · exact hq.2

theorem row_set3 {w : World} {g3 g4 b : Nat} {cur : Array Value} {t : TypeId} {v1 v2 v3 : Value} (h : w.heap[g3]? = some (.cells cur t (0, 0))) (h1 : g3 ≠ b) (h2 : g3 ≠ g4) (o1 o2 o3 : Nat) :
    (((w.setCell ⟨b, o1, none⟩ v1).setCell ⟨g4, o2, none⟩ v2).setCell ⟨g3, o3, none⟩ v3).drew.heap[g3]? = some (.cells (cur.setIfInBounds o3 v3) t (0, 0)) := by
  refine heap_setCell_same _ g3 o3 cur t v3 ?_
  rw [Below.heap_setCell _ _ _ _ h2, Below.heap_setCell _ _ _ _ h1]
  exact h

theorem take_splice {α : Type} (X rep : List α) (p n pl : Nat) (hr : rep.length = n) (h : p + n ≤ pl) (hl : pl ≤ X.length) :
    (X.take p ++ rep ++ X.drop (p + n)).take pl = (X.take pl).take p ++ rep ++ (X.take pl).drop (p + n) := by
  apply List.ext_getElem?
  intro i
  subst hr
  simp only [List.getElem?_take, List.getElem?_append, List.getElem?_drop, List.length_append, List.length_take]
  repeat' split
  all_goals first
    | rfl
    | omega
    | (congr 1; omega)

theorem took_rows (A1 : Ar) (own c n : Nat) (cur : List Value) (hr : cur.take A1.places.length = A1.places.map (Value.int .u64)) (hl : A1.places.length ≤ cur.length) (h : own + 1 + n ≤ A1.places.length) :
    upd (upd (upd A1.rows 1 ((A1.rows 1).set own (.bool true))) 0 ((upd A1.rows 1 ((A1.rows 1).set own (.bool true)) 0).set own (.int .u64 n))) 0
      ((((cur.set own (.int .u64 n)).take (own + 1) ++ List.replicate n (Value.int .u64 0) ++ (cur.set own (.int .u64 n)).drop (own + 1 + n))).take A1.places.length) = (A1.took own c n).rows := by
  rw [take_splice _ _ (own + 1) n _ (by simp) h (by simpa using hl), List.take_set, hr]
  funext k
  unfold upd Ar.rows Ar.took zeroed
  by_cases h0 : k = 0
  · rw [if_pos h0, if_pos h0]
    simp
  · rw [if_neg h0, if_neg h0, if_neg h0]
    by_cases h1 : k = 1
    · subst h1
      simp
    · rw [if_neg h1, if_neg h0, if_neg h1, if_neg h1]

theorem took_rep {A1 A : Ar} {F : Nat → Prop} {w : World} {b g3 g4 cap3 cap4 c m : Nat} {cur : Array Value} {sl : Nat → Value}
    (hR : Reps ety w F b A1.hd 23 A1.rows sl) (e3 : sl 0 = .slice (some ⟨g3, 0, none⟩) A1.places.length cap3) (e4 : sl 1 = .slice (some ⟨g4, 0, none⟩) A1.places.length cap4)
    (r3 : w.heap[g3]? = some (.cells cur (ety 0) (0, 0))) (hs : cur.size = cap3) (ht : cur.toList.take (A1.rows 0).length = A1.rows 0) (hm : 2 ^ c = m) (hu : A1.used = A.used) (own n : Nat) (hpl : own + 1 + n ≤ A1.places.length) (hcp : A1.places.length ≤ cap3) :
    Rep ((((w.setCell ⟨b, 2, none⟩ (.int .i64 (A.used + m))).setCell ⟨g4, own, none⟩ (.bool true)).setCell ⟨g3, own, none⟩ (.int .u64 n)).drew.setRow g3
      ((cur.setIfInBounds own (.int .u64 n)).toList.take (own + 1) ++ List.replicate n (Value.int .u64 0) ++ (cur.setIfInBounds own (.int .u64 n)).toList.drop (own + 1 + n)).toArray) F b (A1.took own c n) ∧
    Kp F w ((((w.setCell ⟨b, 2, none⟩ (.int .i64 (A.used + m))).setCell ⟨g4, own, none⟩ (.bool true)).setCell ⟨g3, own, none⟩ (.int .u64 n)).drew.setRow g3
      ((cur.setIfInBounds own (.int .u64 n)).toList.take (own + 1) ++ List.replicate n (Value.int .u64 0) ++ (cur.setIfInBounds own (.int .u64 n)).toList.drop (own + 1 + n)).toArray) := by
  have n3 := hR.inn 0 g3 (by omega) (by rw [e3]; rfl)
  have n34 : g3 ≠ g4 := fun e => by have := hR.apart 0 1 g3 (by omega) (by omega) (by rw [e3]; rfl) (by rw [e4, e]; rfl); omega
  have s1 := hR.setHead 2 (.int .i64 (A.used + m)) (by simp [Ar.hd])
  have s2 := s1.1.store 1 (by omega) g4 _ cap4 e4 own (.bool true)
  have s3 := s2.1.store 0 (by omega) g3 _ cap3 e3 own (.int .u64 n)
  have s3' := s3.1.heap (w' := (((w.setCell ⟨b, 2, none⟩ (.int .i64 (A.used + m))).setCell ⟨g4, own, none⟩ (.bool true)).setCell ⟨g3, own, none⟩ (.int .u64 n)).drew) rfl
  have hrow := row_set3 (v1 := .int .i64 (A.used + m)) (v2 := .bool true) (v3 := .int .u64 n) r3 n3.2 n34 2 own own
  have s4 := s3'.setRow 0 (by omega) g3 _ cap3 e3 _ ((cur.setIfInBounds own (.int .u64 n)).toList.take (own + 1) ++ List.replicate n (Value.int .u64 0) ++ (cur.setIfInBounds own (.int .u64 n)).toList.drop (own + 1 + n)).toArray hrow
    (by simp; omega)
  have hhd : A1.hd.set 2 (.int .i64 (A.used + m)) = (A1.took own c n).hd := by
    unfold Ar.hd Ar.took
    rw [hm, hu]
    simp
  have hrows := took_rows A1 own c n cur.toList (by simpa [Ar.rows] using ht) (by simpa [hs] using hcp) hpl
  simp only [Array.toList_setIfInBounds] at s4 ⊢
  rw [hhd, hrows] at s4
  refine ⟨⟨sl, s4.1⟩, ?_⟩
  exact (((s1.2.trans' s2.2).trans' s3.2).drew).trans' s4.2

set_option maxHeartbeats 1000000 in
set_option maxRecDepth 100000 in
theorem alloc_ok {w : World} {F : Nat → Prop} {b : Nat} {A A1 : Ar} (n c own : Nat) (h : Rep w F b A) (hn : n ≤ 1048576) (hc : cls n = c) (hc1 : 1 ≤ c) (hc2 : c < 21) (hnc : n + 1 ≤ 2 ^ c) (hq : A.used + 2 ^ c ≤ A.quota) (hqs : A.quota ≤ 1048576)
    (htake : ∀ w, Rep w F b A → Calls Tryz.prog 141 #[.pointer (some ⟨b, 0, none⟩), .int .i64 c] w (Ends F w b (.tuple #[.int .i64 own, .bool true]) A1))
    (hu : A1.used = A.used) (hown : own + 2 ^ c ≤ A1.places.length) (hte : A1.taken.length = A1.places.length) (hpl : A1.places.length ≤ 1048576) :
    Calls Tryz.prog 96 #[.pointer (some ⟨b, 0, none⟩), .int .i64 n] w (Ends F w b (.tuple #[.int .i64 (own + 1), .nilIface]) (A1.took own c n)) := by
  have h' := h
  obtain ⟨sl, hR⟩ := h
  have hqc := hR.head 1 _ rfl
  have huc := hR.head 2 _ rfl
  have hb1 := pow_bd c (by omega)
  have hmI : ((2 ^ c : Nat) : Int) = 2 ^ c := by simp
  have hm2 : 2 ≤ 2 ^ c := Nat.pow_le_pow_right (n := 2) (by omega) hc1
  obtain ⟨m, hm⟩ : ∃ m : Nat, 2 ^ c = m := ⟨_, rfl⟩
  rw [hm] at hm2 hnc hq hown hmI
  have hw1 : IntKind.i64.wrap (2 ^ c) = (m : Int) := by rw [← hmI]; exact IntWalk.i64_in _ (by omega)
  have Hm := Lib.hid (And.intro hm hc)
  clear hm hmI hb1 hR hc
  have hw2 : IntKind.i64.wrap ((A.used : Int) + m) = (A.used : Int) + m := IntWalk.i64_in _ (by omega)
  have hle : ¬ ((A.quota : Int) < (A.used : Int) + m) := by omega
  have Hx := Lib.hid (And.intro hu hte)
  have Ht := Lib.hid htake
  clear hu hte htake
  go_enter Tryz.func96, Tryz.ntmps96
  go_wp2_with (go_at_call 136; refine (class_any n _ hn).mono ?_; rintro e w' ⟨rfl, rfl⟩; rw [Hm.out.2])
  go_region
  go_wp2_with fail
  rw [show (some { block := b, off := 0 } : Option Addr) = some ⟨b, 0, none⟩ from rfl]
  refine (Ht.out w.drew h'.drew).mono ?_
  rintro e w1 ⟨rfl, hr1, hk1⟩
  have hk : Kp F w w1 := ⟨hk1.os, hk1.tape, hk1.output, hk1.size, hk1.block⟩
  have hr2 : Rep w1 (Ext F w w1) b A1 := hr1
  clear hr1 hk1 hqc huc
  obtain ⟨sl1, hR1⟩ := hr2
  have huc := hR1.head 2 _ rfl
  have hf2 := hR1.fz 2
  have c3 := hR1.cell 0 (by omega)
  have c4 := hR1.cell 1 (by omega)
  obtain ⟨g3, cap3, cur3, e3, r3, hl3, hm3, hs3, ht3⟩ := hR1.row 0 (by omega) (by rw [show A1.rows 0 = A1.places.map (Value.int .u64) from rfl, List.length_map]; omega)
  obtain ⟨g4, cap4, cur4, e4, r4, hl4, hm4, hs4, ht4⟩ := hR1.row 1 (by omega) (by rw [show A1.rows 1 = A1.taken.map Value.bool from rfl, List.length_map, Hx.out.2]; omega)
  have n3 := hR1.inn 0 g3 (by omega) (by rw [e3]; rfl)
  have n4 := hR1.inn 1 g4 (by omega) (by rw [e4]; rfl)
  have n34 : g3 ≠ g4 := fun e => by have := hR1.apart 0 1 g3 (by omega) (by omega) (by rw [e3]; rfl) (by rw [e4, e]; rfl); omega
  have l3 : (A1.rows 0).length = A1.places.length := by rw [show A1.rows 0 = A1.places.map (Value.int .u64) from rfl, List.length_map]
  have l4 : (A1.rows 1).length = A1.places.length := by rw [show A1.rows 1 = A1.taken.map Value.bool from rfl, List.length_map, Hx.out.2]
  rw [show A1.hd.length + 0 = 3 from rfl, e3, l3] at c3
  rw [show A1.hd.length + 1 = 4 from rfl, e4, l4] at c4
  rw [l3] at hl3 e3
  rw [l4] at hl4 e4
  rw [Hx.out.1] at huc
  obtain ⟨v3, x3⟩ : ∃ v, w1.cell? ⟨g3, own, none⟩ = some v := ⟨cur3[own]'(by omega), by rw [cell_of_row w1 g3 own cur3 _ (0, 0) r3]; simp⟩
  obtain ⟨v4, x4⟩ : ∃ v, w1.cell? ⟨g4, own, none⟩ = some v := ⟨cur4[own]'(by omega), by rw [cell_of_row w1 g4 own cur4 _ (0, 0) r4]; simp⟩
  have f3 := frozen_of_row w1 g3 own cur3 _ r3
  have f4 := frozen_of_row w1 g4 own cur4 _ r4
  have Hfin := Lib.hid (And.intro hR1 (And.intro e3 (And.intro e4 (And.intro r3 (And.intro hs3 ht3)))))
  clear hR1 e3 e4 r4 hs4 ht4 ht3 l3 l4
  obtain ⟨pl, hpl'⟩ : ∃ pl, A1.places.length = pl := ⟨_, rfl⟩
  rw [hpl'] at c3 c4 hl3 hl4 hown hpl
  have Hpl := Lib.hid hpl'
  clear hpl'
  have n3' := n3.2
  have n4' := n4.2
  have n3'' := n3'.symm
  have n4'' := n4'.symm
  have n34' := n34.symm
  have hi1 : (own : Int) < pl := by omega
  have hi2 : (own : Int) + 1 + n ≤ pl := by omega
  have hi3 : own + 1 < cap3 := by omega
  go_wp2_with fail
  go_region
  go_wp2_with fail
  obtain ⟨i0, hi, hz0, hz1, hz2⟩ := info_parts Tryz.infoU64
  have hrow := row_set3 (v1 := .int .i64 (A.used + m)) (v2 := .bool true) (v3 := .int .u64 n) r3 n3' n34 2 own own
  have hfit : own + 1 + n ≤ (cur3.setIfInBounds own (.int .u64 n)).size := by rw [Array.size_setIfInBounds]; omega
  rw [run_clear_row (P := Tryz.prog) _ 34 0 27 i0 (.int .u64 0) Tryz.underlying34 hi hz0 rfl rfl g3 (own + 1) n (cap3 - (own + 1)) (cur3.setIfInBounds own (.int .u64 n)) hrow hfit]
  have htk := took_rep (m := m) Hfin.out.1 Hfin.out.2.1 Hfin.out.2.2.1 Hfin.out.2.2.2.1 Hfin.out.2.2.2.2.1 Hfin.out.2.2.2.2.2 Hm.out.1 Hx.out.1 own n (by rw [Hpl.out]; omega) (by rw [Hpl.out]; exact hl3)
  clear hrow hfit
  generalize (World.setRow _ g3 _) = w5 at *
  go_wp2_with fail
  go_ret2
  exact ⟨rfl, ext2 hk htk⟩
end Go.Proofs.YtkcmfldcdokobaaGreatDoor

/- What the arena's method Alloc does where it refuses. -/
namespace Go.Proofs.YtkcmfldcdokobaaGreatDoor
open Go.RowKit

/-- v is a Fault of this Op and number, around inner, in new memory -/
def Faulty (lo : Nat) (op : ByteArray) (n : Int) (inner v : Value) (w' : World) : Prop :=
  ∃ g, lo ≤ g ∧ v = .iface 95 (.pointer (some ⟨g, 0, none⟩)) ∧ w'.heap[g]? = some (.cells #[.string op, .int .i64 n, inner] 181 (0, 0))
/-- it ended in a Fault, and nothing has turned -/
def EndsBad (F : Nat → Prop) (w : World) (b : Nat) (A : Ar) (mk : Value → Value) (op : ByteArray) (n : Int) (inner : Value) (e : Ending) (w' : World) : Prop :=
  ∃ v, e = .returned (mk v) ∧ Faulty w.heap.size op n inner v w' ∧ Rep w' F b A ∧ Kp F w w' ∧ Kp (fun _ => False) w w'

theorem Rep.kp {w w' : World} {F : Nat → Prop} {b : Nat} {A : Ar} (h : Rep w F b A) (hk : Kp (fun _ => False) w w') : Rep w' F b A := by
  obtain ⟨sl, h⟩ := h
  exact ⟨sl, h.kp hk (fun _ _ e => e)⟩

theorem endsBad {F : Nat → Prop} {w : World} {b : Nat} {A : Ar} {mk : Value → Value} {op : ByteArray} {n : Int} {inner : Value} (h : Rep w F b A) (k : Nat) :
    EndsBad F w b A mk op n inner (.returned (mk (.iface 95 (.pointer (some ⟨w.heap.size, 0, none⟩))))) ((w.alloc (.cells #[.string op, .int .i64 n, inner] 181)).drewN k) := by
  have hk : Kp (fun _ => False) w ((w.alloc (.cells #[.string op, .int .i64 n, inner] 181)).drewN k) := by
    have := (Kp.refl (fun _ => False) w).alloc (.cells #[.string op, .int .i64 n, inner] 181)
    exact ⟨this.os, this.tape, this.output, this.size, this.block⟩
  exact ⟨_, rfl, ⟨w.heap.size, Nat.le_refl _, rfl, heap_alloc_new w _⟩, h.kp hk, hk.mono (fun _ _ e => e.elim), hk⟩

set_option maxHeartbeats 400000 in
theorem alloc_arg {w : World} {F : Nat → Prop} {b : Nat} {A : Ar} (n : Int) (h : Rep w F b A) (hn : n < 0 ∨ 1048576 < n) :
    Calls Tryz.prog 96 #[.pointer (some ⟨b, 0, none⟩), .int .i64 n] w (EndsBad F w b A (fun v => .tuple #[.int .i64 0, v]) ⟨#[97, 108, 108, 111, 99]⟩ n (.iface 67 (.int .i64 1))) := by
  rcases hn with hn | hn
  · go_enter Tryz.func96, Tryz.ntmps96
    go_wp2_with (go_at_call 49; refine (at_any _ _ _ _ _).mono ?_; rintro e w' ⟨rfl, rfl⟩)
    go_ret2
    exact endsBad h 0
  · have h0 : ¬ n < 0 := by omega
    go_enter Tryz.func96, Tryz.ntmps96
    go_wp2_with (go_at_call 49; refine (at_any _ _ _ _ _).mono ?_; rintro e w' ⟨rfl, rfl⟩)
    go_ret2
    exact endsBad h 0

set_option maxHeartbeats 400000 in
theorem alloc_quota {w : World} {F : Nat → Prop} {b : Nat} {A : Ar} (n c : Nat) (h : Rep w F b A) (hn : n ≤ 1048576) (hc : cls n = c) (hc2 : c ≤ 21) (hu : A.used ≤ 1048576) (hq : A.quota < A.used + 2 ^ c) :
    Calls Tryz.prog 96 #[.pointer (some ⟨b, 0, none⟩), .int .i64 n] w (EndsBad F w b A (fun v => .tuple #[.int .i64 0, v]) ⟨#[97, 108, 108, 111, 99]⟩ n (.iface 67 (.int .i64 2))) := by
  have h' := h
  obtain ⟨sl, hR⟩ := h
  have hqc := hR.head 1 _ rfl
  have huc := hR.head 2 _ rfl
  have hb1 := pow_bd c (by omega)
  have hmI : ((2 ^ c : Nat) : Int) = 2 ^ c := by simp
  obtain ⟨m, hm⟩ : ∃ m : Nat, 2 ^ c = m := ⟨_, rfl⟩
  rw [hm] at hq hmI
  rw [← hmI] at hb1
  have hw1 : IntKind.i64.wrap (2 ^ c) = (m : Int) := by rw [← hmI]; exact IntWalk.i64_in _ (by omega)
  have Hm := Lib.hid (And.intro hm hc)
  clear hm hmI hR hc
  have hw2 : IntKind.i64.wrap ((A.used : Int) + m) = (A.used : Int) + m := IntWalk.i64_in _ (by omega)
  have hle : (A.quota : Int) < (A.used : Int) + m := by omega
  go_enter Tryz.func96, Tryz.ntmps96
  go_wp2_with (go_at_call 136; refine (class_any n _ hn).mono ?_; rintro e w' ⟨rfl, rfl⟩; rw [Hm.out.2])
  go_region
  go_wp2_with (go_at_call 49; refine (at_any _ _ _ _ _).mono ?_; rintro e w' ⟨rfl, rfl⟩)
  go_ret2
  exact endsBad h' 1

set_option maxHeartbeats 400000 in
theorem alloc_none {w : World} {F : Nat → Prop} {b : Nat} {A : Ar} (n c : Nat) (h : Rep w F b A) (hn : n ≤ 1048576) (hc : cls n = c) (hc2 : c ≤ 21) (hu : A.used ≤ 1048576) (hq : A.used + 2 ^ c ≤ A.quota)
    (htake : ∀ w, Rep w F b A → Calls Tryz.prog 141 #[.pointer (some ⟨b, 0, none⟩), .int .i64 c] w fun e w' => e = .returned (.tuple #[.int .i64 0, .bool false]) ∧ w' = w.drew) :
    Calls Tryz.prog 96 #[.pointer (some ⟨b, 0, none⟩), .int .i64 n] w (EndsBad F w b A (fun v => .tuple #[.int .i64 0, v]) ⟨#[97, 108, 108, 111, 99]⟩ n (.iface 67 (.int .i64 2))) := by
  have h' := h
  obtain ⟨sl, hR⟩ := h
  have hqc := hR.head 1 _ rfl
  have huc := hR.head 2 _ rfl
  have hb1 := pow_bd c (by omega)
  have hmI : ((2 ^ c : Nat) : Int) = 2 ^ c := by simp
  obtain ⟨m, hm⟩ : ∃ m : Nat, 2 ^ c = m := ⟨_, rfl⟩
  rw [hm] at hq hmI
  rw [← hmI] at hb1
  have hw1 : IntKind.i64.wrap (2 ^ c) = (m : Int) := by rw [← hmI]; exact IntWalk.i64_in _ (by omega)
  have Hm := Lib.hid (And.intro hm hc)
  clear hm hmI hR hc
  have hw2 : IntKind.i64.wrap ((A.used : Int) + m) = (A.used : Int) + m := IntWalk.i64_in _ (by omega)
  have hle : ¬ (A.quota : Int) < (A.used : Int) + m := by omega
  have Ht := Lib.hid htake
  clear htake
  go_enter Tryz.func96, Tryz.ntmps96
  go_wp2_with (go_at_call 136; refine (class_any n _ hn).mono ?_; rintro e w' ⟨rfl, rfl⟩; rw [Hm.out.2])
  go_region
  go_wp2_with fail
  refine (Ht.out w.drew h'.drew).mono ?_
  rintro e w1 ⟨rfl, rfl⟩
  go_wp2_with (go_at_call 49; refine (at_any _ _ _ _ _).mono ?_; rintro e w' ⟨rfl, rfl⟩)
  go_ret2
  exact endsBad h' 2
end Go.Proofs.YtkcmfldcdokobaaGreatDoor
