/- A slice of bytes that grows: what appends make of it. Arithmetic of words: three bits put together, and cut off. writeNumber, writeCount, writeSigned, writeBytes. writeSigned. -/
import Derived.Test.YtpdepmkojbpklaaDoorM02
import Derived.Lib.AppendStr
import Derived.Maps.AppendAt
import Derived.WalkKit
import Derived.Laws.Bits64b
import Derived.Deep.LoopGhost
import Derived.Laws.Bits64
/- A slice of bytes that grows: what appends make of it. -/
namespace Go.Proofs.YtpdepmkojbpklaaDoor
open Go.RowKit

/-- only blocks of bytes from B on are written, and new ones are made -/
def Kb (B : Nat) (w w' : World) : Prop := Kp (Byt (fun q => B ≤ q) w) w w'
/-- the bytes l, in a row that has no room for more -/
def Full (B : Nat) (w : World) (v : Value) (l : List UInt8) : Prop := ∃ g fr, v = .slice (some ⟨g, 0, none⟩) l.length l.length ∧ B ≤ g ∧ w.heap[g]? = some (.cells (bcells l).toArray 5 fr) ∧ l.length = 4
/-- the bytes l, in a row of one's own, or in one without room -/
def BufAt (B : Nat) (w : World) (v : Value) (l : List UInt8) : Prop := (w.ownsRow B 5 1 v l.length (bcells l) ∨ Full B w v l) ∧ B ≤ w.heap.size
/-- a call that answers a slice of these bytes -/
def BufTo (B : Nat) (w : World) (l : List UInt8) (e : Ending) (w' : World) : Prop := ∃ po n c, e = .returned (.slice po n c) ∧ BufAt B w' (.slice po n c) l ∧ Kb B w w'

theorem bcells_append (l m : List UInt8) : bcells (l ++ m) = bcells l ++ bcells m := by simp [bcells]
theorem Kb.refl (B : Nat) (w : World) : Kb B w w := Kp.refl _ w
theorem Kb.of {B : Nat} {w w' : World} (h : Kp (fun _ => False) w w') : Kb B w w' := h.mono fun _ _ e => e.elim
theorem Kb.byt {B : Nat} {w w' : World} (h : Kb B w w') {q : Nat} (hq : q < w.heap.size) (hb : Byt (fun q => B ≤ q) w' q) : Byt (fun q => B ≤ q) w q := by
  refine Classical.byContradiction fun hn => ?_
  have := h.block q hq hn
  exact hn ⟨hb.1, by obtain ⟨cs, e⟩ := hb.2; exact ⟨cs, this.symm.trans e⟩⟩
theorem Kb.trans {B : Nat} {w w1 w2 : World} (h : Kb B w w1) (k : Kb B w1 w2) : Kb B w w2 :=
  Kp.trans h (k.mono fun q _ hb => by
    by_cases hq : q < w.heap.size
    · exact .inl (h.byt hq hb)
    · exact .inr ⟨by omega, by omega⟩)
theorem Kb.heap {B : Nat} {w w' : World} (h : Kb B w w') {q : Nat} {cs : Array Value} {T : TypeId} {fr : Nat × Nat} (hT : T ≠ 5) (hq : w.heap[q]? = some (.cells cs T fr)) : w'.heap[q]? = some (.cells cs T fr) :=
  (h.block q (Array.getElem?_eq_some_iff.1 hq).1 (fun e => by
    obtain ⟨c2, e2⟩ := e.2
    rw [hq] at e2
    injection e2 with e2
    injection e2 with _ e3 _
    exact hT e3)).trans hq
theorem Kb.old {B : Nat} {w w' : World} (h : Kb B w w') {q : Nat} (hq : q < w.heap.size) (hB : q < B) : w'.heap[q]? = w.heap[q]? :=
  h.block q hq (fun e => by have := e.1; omega)
theorem Kb.below {B : Nat} {w w' : World} (h : Kb B w w') (hB : B ≤ w.heap.size) : Below B w w' := Kp.below h B hB (fun _ e => e.1)
theorem Kb.term {B : Nat} {w w' : World} (hk : Kb B w w') {h : Nat} {T : Tm} {cs : List Value} (ht : TermAt (fun q => q < B) w h T cs) : TermAt (fun q => q < B) w' h T cs :=
  ht.kp hk (fun q e e2 => by have := e2.1; omega)
theorem Kb.bytes {B : Nat} {w w' : World} (hk : Kb B w w') {l : List UInt8} {v : Value} (ht : BytesAt (fun q => q < B) w l v) : BytesAt (fun q => q < B) w' l v :=
  bytes_kp ht hk (fun q e e2 => by have := e2.1; omega)
theorem BufAt.kp {B : Nat} {w w' : World} {v : Value} {l : List UInt8} (h : BufAt B w v l) (hk : Kp (fun _ => False) w w') : BufAt B w' v l :=
  ⟨h.1.imp (fun h => hk.row h (fun _ _ e => e)) (fun ⟨g, fr, e, hb, hg, h4⟩ => ⟨g, fr, e, hb, (hk.block g (Array.getElem?_eq_some_iff.1 hg).1 (fun e => e)).trans hg, h4⟩), Nat.le_trans h.2 hk.size⟩
theorem BufAt.nil {B : Nat} {w : World} (h : B ≤ w.heap.size) : BufAt B w (.slice none 0 0) [] := ⟨.inl (World.ownsRow_nil _ _ _ _), h⟩
theorem BufAt.own {B : Nat} {w : World} {v : Value} {l : List UInt8} (h : BufAt B w v l) (hl : l.length ≠ 4) : w.ownsRow B 5 1 v l.length (bcells l) :=
  h.1.elim (fun e => e) fun ⟨_, _, _, _, _, h4⟩ => absurd h4 hl
theorem BufAt.form {B : Nat} {w : World} {v : Value} {l : List UInt8} (h : BufAt B w v l) : ∃ po c, v = .slice po l.length c ∧ l.length ≤ c := by
  rcases h.1 with h | ⟨g, fr, e, _⟩
  · rcases h.2 with ⟨e, h0⟩ | ⟨g, cap, cur, e, _, _, h1, _⟩
    · exact ⟨none, 0, by rw [e, h0], by omega⟩
    · exact ⟨_, cap, e, h1⟩
  · exact ⟨_, _, e, Nat.le_refl _⟩
theorem BufAt.at' {B : Nat} {w : World} {v : Value} {l : List UInt8} (h : BufAt B w v l) (hl : l.length ≤ 140737488351232) : BytesAt (fun q => B ≤ q ∧ q < w.heap.size) w l v := by
  rcases h.1 with h | ⟨g, fr, e, hb, hg, h4'⟩
  · have hrow := h
    rcases h.2 with ⟨e, h0⟩ | ⟨g, cap, cur, e, hb, hg, h1, _⟩
    · exact ⟨none, 0, by rw [e, h0], by omega, hl, fun i c hi => by have := (List.getElem?_eq_some_iff.1 hi).1; omega⟩
    · refine ⟨_, cap, e, h1, hl, fun i c hi => ⟨g, 0, rfl, ⟨hb, (Array.getElem?_eq_some_iff.1 hg).1⟩, ?_⟩⟩
      have hil := (List.getElem?_eq_some_iff.1 hi).1
      rw [e] at hrow
      rw [Nat.zero_add, hrow.cellAt i (by omega), bcells_get hi]
  · refine ⟨_, _, e, Nat.le_refl _, hl, fun i c hi => ⟨g, 0, rfl, ⟨hb, (Array.getElem?_eq_some_iff.1 hg).1⟩, ?_⟩⟩
    rw [Nat.zero_add, cell_of_row w g i _ _ _ hg]
    simpa using bcells_get hi
theorem kb_grown {B : Nat} {w w' : World} {v : Value} {l : List UInt8} (h : w.ownsRow B 5 1 v l.length (bcells l)) (hg : w.grownBy w' v.ownBlock) : Kb B w w' :=
  (Kp.refl _ w).grown hg fun q hq => by
    rcases h.2 with ⟨e, _⟩ | ⟨g, cap, cur, e, hb, hgg, _⟩
    · rw [e] at hq; cases hq
    · rw [e] at hq
      injection hq with hq
      subst hq
      exact .inl ⟨hb, cur, hgg⟩
theorem row_base {B B' : Nat} {w : World} {e : TypeId} {s : Nat} {v : Value} {n : Nat} {xs : List Value} (h : w.ownsRow B e s v n xs) (hB : B' ≤ B) : w.ownsRow B' e s v n xs :=
  ⟨h.1, h.2.imp (fun e => e) (fun ⟨g, cap, cur, e, hb, r⟩ => ⟨g, cap, cur, e, Nat.le_trans hB hb, r⟩)⟩
theorem app_empty (p po : Option Addr) (n c cap : Nat) (w : World) (h : n ≤ c) : (Builtin.append_ #[33, 33] 33 #[.slice p n c, .slice po 0 cap]).run Tryd.prog w = .ok (.slice p n c) w := by
  obtain ⟨i0, hi, _⟩ := info_parts Tryd.infoByte
  cases p <;> cases po <;> simp [Builtin.append_, run_underlying Tryd.underlying33, sizeOf, typeInfo, hi, Builtin.lenOf, Builtin.firstCells, loadCells, loadCellsFrom, h, storeCells]

/-- bytes are put behind -/
theorem app_bytes {B : Nat} {w : World} {v x : Value} {l m : List UInt8} {F : Nat → Prop} (h : BufAt B w v l) (hx : BytesAt F w m x) (hl : (l ++ m).length ≤ 70368744177664) :
    ∃ po n c w', (Builtin.append_ #[33, 33] 33 #[v, x]).run Tryd.prog w = .ok (.slice po n c) w' ∧ BufAt B w' (.slice po n c) (l ++ m) ∧ Kb B w w' := by
  obtain ⟨i0, hi, hz0, hz1, hz2⟩ := info_parts Tryd.infoByte
  rw [List.length_append] at hl
  obtain ⟨po, cap, rfl, h2, h3, h4⟩ := hx
  by_cases hm : m = []
  · subst hm
    obtain ⟨p, c, rfl, hc⟩ := h.form
    exact ⟨p, _, c, w, app_empty p po _ _ _ w hc, by rw [List.append_nil]; exact h, Kb.refl _ _⟩
  · have hpos : 0 < m.length := List.length_pos_iff.2 hm
    obtain ⟨b, off, rfl, hF, hc0⟩ := h4 0 m[0] (List.getElem?_eq_getElem hpos)
    have hnews : ∀ i u, (bcells m)[i]? = some u → w.cell? ((⟨b, off, none⟩ : Addr).add i) = some u := by
      intro i u hu
      rw [bcells, List.getElem?_map] at hu
      obtain ⟨c, hc, rfl⟩ := Option.map_eq_some_iff.1 hu
      obtain ⟨b2, off2, e2, _, hcell⟩ := h4 i c hc
      have e2 := Option.some.inj e2
      rw [e2, Go.WideShapes.add_plain]
      exact hcell
    rcases h.1 with ho | ⟨g, fr, rfl, hb, hg, -⟩
    · obtain ⟨v', w', hr, ho', hg, _, _⟩ := run_append_own_at (P := Tryd.prog) w B 33 33 5 i0 (.int .u8 0) 1 1 Tryd.underlying33 hi hz0 hz1 hz2 rfl (by omega) v l.length (bcells l) ho ⟨b, off, none⟩ m.length cap (bcells m) (by rw [bcells_len]; omega)
        hnews (bcells_one m) (by unfold maxLen; omega) (by omega) h.2
      have hb : BufAt B w' v' (l ++ m) := ⟨.inl (by rw [List.length_append, bcells_append]; exact ho'), Nat.le_trans h.2 hg.size⟩
      obtain ⟨p, c, rfl, _⟩ := hb.form
      exact ⟨p, _, c, w', hr, hb, kb_grown ho hg⟩
    · obtain ⟨v', w', hr, ho', hgr⟩ := run_append_arg_grows (P := Tryd.prog) w 33 33 5 i0 (.int .u8 0) 1 1 Tryd.underlying33 hi hz0 hz1 hz2 rfl (by omega) ⟨g, 0, none⟩ l.length l.length (bcells l) (by rw [bcells_len]; omega)
        (fun j u hu => by rw [Go.WideShapes.add_plain, cell_of_row w g _ _ _ _ hg]; simpa using hu) ⟨b, off, none⟩ m.length cap (bcells m) (by rw [bcells_len]; omega) hnews (by omega) (by unfold maxLen; omega) (by omega)
      have hb : BufAt B w' v' (l ++ m) := ⟨.inl (by rw [List.length_append, bcells_append]; exact row_base ho' h.2), Nat.le_trans h.2 hgr.size⟩
      obtain ⟨p, c, rfl, _⟩ := hb.form
      exact ⟨p, _, c, w', hr, hb, (Kp.refl _ w).grown hgr fun q hq => by cases hq⟩

/-- one byte is put behind: a slice of one that was just made -/
theorem app_one {B : Nat} {w : World} {v : Value} {l : List UInt8} (c : UInt8) (h : BufAt B w v l) (hl : (l ++ [c]).length ≤ 70368744177664) :
    ∃ po n cp w', (Builtin.append_ #[33, 33] 33 #[v, .slice (some ⟨w.heap.size, 0, none⟩) 1 1]).run Tryd.prog (w.alloc (.cells #[.int .u8 c.toNat] 5)) = .ok (.slice po n cp) w' ∧ BufAt B w' (.slice po n cp) (l ++ [c]) ∧ Kb B w w' := by
  have hk : Kp (fun _ => False) w (w.alloc (.cells #[.int .u8 c.toNat] 5)) := (Kp.refl _ w).alloc _
  obtain ⟨p, n, cp, w', h1, h2, h3⟩ := app_bytes (F := fun _ => True) (h.kp hk) (m := [c]) (x := .slice (some ⟨w.heap.size, 0, none⟩) 1 1)
    ⟨_, 1, rfl, by simp, by simp, fun i d hd => by
      obtain rfl : i = 0 := by have := (List.getElem?_eq_some_iff.1 hd).1; simp at this; exact this
      simp at hd
      subst hd
      exact ⟨w.heap.size, 0, rfl, trivial, by rw [cell_of_row _ _ 0 _ _ _ (heap_alloc_new w _)]; rfl⟩⟩ hl
  exact ⟨p, n, cp, w', h1, h2, (Kb.of hk).trans h3⟩

theorem Lib.strCells_bcells (s : ByteArray) : Lib.strCells s = bcells s.data.toList := by rfl
theorem strCells_bcells (s : ByteArray) : Lib.strCells s = bcells s.data.toList := rfl
/-- a string's bytes are put behind -/
theorem app_string {B : Nat} {w : World} {v : Value} {l : List UInt8} (s : ByteArray) (h : BufAt B w v l) (hl : (l ++ s.data.toList).length ≤ 70368744177664) :
    ∃ po n c w', (Builtin.append_ #[33, 9] 33 #[v, .string s]).run Tryd.prog w = .ok (.slice po n c) w' ∧ BufAt B w' (.slice po n c) (l ++ s.data.toList) ∧ Kb B w w' := by
  obtain ⟨i0, hi, hz0, hz1, hz2⟩ := info_parts Tryd.infoByte
  have hs : s.data.toList.length = s.size := Array.length_toList
  rw [List.length_append, hs] at hl
  rcases h.1 with ho | ⟨g, fr, rfl, hb, hg, -⟩
  · obtain ⟨v', w', hr, ho', hg, _⟩ := Lib.run_append_own_string (P := Tryd.prog) w B 33 9 33 5 i0 Tryd.underlying33 Tryd.underlying9 hi hz0 hz1 hz2 v l.length (bcells l) ho s (by unfold maxLen; omega) (by omega) h.2
    have hb : BufAt B w' v' (l ++ s.data.toList) := ⟨.inl (by rw [List.length_append, bcells_append, hs, ← strCells_bcells]; exact ho'), Nat.le_trans h.2 hg.size⟩
    obtain ⟨p, c, rfl, _⟩ := hb.form
    exact ⟨p, _, c, w', hr, hb, kb_grown ho hg⟩
  · by_cases h0 : s.size = 0
    · have hn : s.data.toList = [] := List.eq_nil_of_length_eq_zero (by rw [hs]; exact h0)
      refine ⟨_, _, _, w, ?_, by rw [hn, List.append_nil]; exact h, Kb.refl _ _⟩
      have hf := Lib.run_firstCells_string (P := Tryd.prog) w 1 s
      rw [h0] at hf
      have hnn : Lib.strCells s = [] := by rw [strCells_bcells, hn]; rfl
      simp [Builtin.append_, run_underlying Tryd.underlying33, run_underlying Tryd.underlying9, sizeOf, typeInfo, hi, hz1, Builtin.lenOf, h0, hf, hnn, storeCells]
    · have hr := Lib.run_append_grow_string (P := Tryd.prog) w 33 9 33 5 i0 (.int .u8 0) Tryd.underlying33 Tryd.underlying9 hi hz0 ⟨g, 0, none⟩ l.length l.length (bcells l) (by rw [bcells_len, hz1]; omega)
        (fun j u hu => by rw [Go.WideShapes.add_plain, cell_of_row w g _ _ _ _ hg]; simpa using hu) s (by omega) (by omega) (by rw [hz2]; exact growslice_fits (by omega) (by omega))
      have hge := grownCap_ge w (l.length + s.size) l.length 5
      have hcm := grownCap_le_maxLen w (l.length + s.size) l.length 5 (by unfold maxLen; omega)
      have hlen : (bcells l ++ Lib.strCells s).length = l.length + s.size := by rw [List.length_append, strCells_bcells, bcells_len, bcells_len, hs]
      refine ⟨_, _, _, _, hr, ⟨.inl ⟨by rw [bcells_len]; omega, .inr ⟨w.heap.size, _, _, by rw [List.length_append, hs], h.2, heap_alloc_new w.drew _, by rw [List.length_append, hs]; exact hge, hcm, ?_, ?_⟩⟩, Nat.le_trans h.2 (by simp)⟩, ((Kp.refl _ w).drew).alloc _⟩
      · have hz1 : (Value.int IntKind.u8 0).cells.size = 1 := rfl
        have e1 : (Lib.strCells s).length = s.size := by rw [strCells_bcells, bcells_len, hs]
        simp only [Array.size_append, List.size_toArray, size_zeroCells, hz1, bcells_len, e1]
        omega
      · rw [List.length_append, hs, Nat.mul_one, ← hlen, bcells_append, ← strCells_bcells]
        simp only [Array.toList_append, List.append_assoc]
        rw [← List.append_assoc]
        exact List.take_left

/-- an append of a string, whose outcome is known ahead of the walk -/
theorem wpList_run2 {P : Program} {w : World} {ops : Array Oper} {rest : List Oper} {o : Oper} {a : Act} {Q : Exit → Act → World → Prop} (hgd : o.guard = none) (s x : Operand) (t u : TypeId)
    (ho : o.op = .call { callee := .builtin .append, args := #[s, x], argTypes := #[t, u] }) (sv xv : Value) (hs : a.eval s = sv) (hx : a.eval x = xv) (v : Value) (w' : World)
    (hr : (Builtin.append_ #[t, u] o.type #[sv, xv]).run P w = .ok v w') (h : wpList P ops Q rest (a.put o.dst v) w') : wpList P ops Q (o :: rest) a w := by
  refine wpList_plain hgd fun _ hK => ?_
  unfold Oper.wp execOp
  simp only [ho, resolve, invoke, builtin, Sem.run_bind, Sem.run_pure, Result.andThen_ok, List.map_toArray, List.map_cons, List.map_nil, hs, hx, hr]
  exact hK _ _ h
end Go.Proofs.YtpdepmkojbpklaaDoor

/- Arithmetic of words: three bits put together, and cut off. -/
namespace Go
open Go.RowKit

theorem u64_in (n : Int) (h0 : 0 ≤ n) (h1 : n ≤ 18446744073709551615) : IntKind.u64.wrap n = n := by
  rw [IntKind.wrap_u64]; omega

/-- x * 8 | y -/
theorem or_low (x y : Int) (k : Nat) (h0 : 0 ≤ x) (h1 : x * 2 ^ k < 18446744073709551616) (h2 : 0 ≤ y) (h3 : y < 2 ^ k) (hk : k ≤ 64) : bits BinOp.or IntKind.u64 (x * 2 ^ k) y = x * 2 ^ k + y := by
  obtain ⟨a, rfl⟩ := Int.eq_ofNat_of_zero_le h0
  obtain ⟨b, rfl⟩ := Int.eq_ofNat_of_zero_le h2
  have e2 : ((2 ^ k : Nat) : Int) = 2 ^ k := by simp
  have e3 : ((a * 2 ^ k : Nat) : Int) = (a : Int) * 2 ^ k := by simp
  have h3' : b < 2 ^ k := by rw [← e2] at h3; omega
  have h1' : a * 2 ^ k < 18446744073709551616 := by rw [← e3] at h1; omega
  have hlt : b < 18446744073709551616 := by
    have : 2 ^ k ≤ 2 ^ 64 := Nat.pow_le_pow_right (by omega) hk
    omega
  have h := bits_or_u64_nat (a * 2 ^ k) b h1' hlt
  have e := Nat.two_pow_add_eq_or_of_lt h3' a
  rw [Nat.mul_comm] at e
  rw [← e] at h
  rw [Int.natCast_add, e3] at h
  exact h
theorem or_low3 (x y : Int) (h0 : 0 ≤ x) (h1 : x ≤ 2305843009213693951) (h2 : 0 ≤ y) (h3 : y < 8) : bits BinOp.or IntKind.u64 (x * 8) y = x * 8 + y :=
  or_low x y 3 h0 (by omega) h2 h3 (by omega)

theorem and_low (x : Int) (k : Nat) (h0 : 0 ≤ x) (h1 : x ≤ 18446744073709551615) (hk : k < 64) : bits BinOp.and IntKind.u64 x (2 ^ k - 1) = x % 2 ^ k := by
  obtain ⟨a, rfl⟩ := Int.eq_ofNat_of_zero_le h0
  have h2 : 2 ^ k ≤ 2 ^ 63 := Nat.pow_le_pow_right (by omega) (by omega)
  have hp : 0 < 2 ^ k := Nat.two_pow_pos k
  have h := bits_and_u64_nat a (2 ^ k - 1) (by omega) (by omega)
  rw [Nat.and_two_pow_sub_one_eq_mod] at h
  have e : ((2 ^ k - 1 : Nat) : Int) = 2 ^ k - 1 := by
    rw [Int.ofNat_sub hp]; simp
  rw [← e]
  refine h.trans ?_
  simp
theorem and_low3 (x : Int) (h0 : 0 ≤ x) (h1 : x ≤ 18446744073709551615) : bits BinOp.and IntKind.u64 x 7 = x % 8 := and_low x 3 h0 h1 (by omega)

/-- a tag is put behind a number -/
theorem tagged (n tag : Int) (h2 : 0 ≤ tag) (h3 : tag < 8) : bits BinOp.or IntKind.u64 (IntKind.u64.wrap (IntKind.u64.wrap n * 8)) tag = n * 8 % 18446744073709551616 + tag := by
  have e : IntKind.u64.wrap (IntKind.u64.wrap n * 8) = (n % 2305843009213693952) * 8 := by
    rw [IntKind.wrap_u64, IntKind.wrap_u64]; omega
  rw [e, or_low3 _ _ (by omega) (by omega) h2 h3]
  omega
theorem mark_bits (k n : Int) (h1 : 0 ≤ k) (h2 : k ≤ 7) (h3 : 0 ≤ n) (h4 : n ≤ 1048576) : bits BinOp.or IntKind.u64 (bits BinOp.or IntKind.u64 (n * 64) (k * 8)) 7 = n * 64 + k * 8 + 7 := by
  have a := or_low n (k * 8) 6 h3 (by omega) (by omega) (by omega) (by omega)
  simp only [show (2 : Int) ^ 6 = 64 from rfl] at a
  rw [a, show n * 64 + k * 8 = (n * 8 + k) * 8 by omega]
  exact or_low3 _ _ (by omega) (by omega) (by omega) (by omega)
end Go

/- writeNumber, writeCount, writeSigned, writeBytes. -/
namespace Go.Proofs.YtpdepmkojbpklaaDoor
open Go.RowKit

theorem or_128f : ∀ k : Fin 256, bits BinOp.or IntKind.u8 (k.val : Int) 128 = ((k.val % 128 + 128 : Nat) : Int) := by decide +kernel
theorem or_128 (m : Nat) : bits BinOp.or IntKind.u8 ((m : Int) % 256) 128 = ((UInt8.ofNat (m % 128 + 128)).toNat : Int) := by
  have h := or_128f ⟨m % 256, by omega⟩
  rw [u8_of (by omega)]
  simp only [show m % 256 % 128 = m % 128 by omega] at h
  rw [← h]
  congr 1

end Go.Proofs.YtpdepmkojbpklaaDoor

/- writeSigned. -/
namespace Go.Proofs.YtpdepmkojbpklaaDoor
open Go.RowKit

theorem xor_ones (a : Nat) (ha : a < 18446744073709551616) : a ^^^ 18446744073709551615 = 18446744073709551615 - a := by
  have h := congrArg BitVec.toNat (BitVec.xor_allOnes (x := BitVec.ofNat 64 a))
  rw [BitVec.toNat_xor, BitVec.toNat_not, BitVec.toNat_ofNat, BitVec.toNat_allOnes, Nat.mod_eq_of_lt (by omega)] at h
  exact h
theorem zig_neg (n : Int) (h1 : -9223372036854775808 ≤ n) (h2 : n < 0) : bits BinOp.xor IntKind.u64 (IntKind.u64.wrap (IntKind.u64.wrap n * 2)) (IntKind.u64.wrap (n / 9223372036854775808)) = (zig n : Nat) := by
  have e1 : IntKind.u64.wrap (IntKind.u64.wrap n * 2) = ((18446744073709551616 + 2 * n).toNat : Nat) := by
    rw [IntKind.wrap_u64, IntKind.wrap_u64]; omega
  have e2 : IntKind.u64.wrap (n / 9223372036854775808) = ((18446744073709551615 : Nat) : Int) := by
    rw [IntKind.wrap_u64]; omega
  rw [e1, e2, bits_xor_u64_nat _ _ (by omega) (by omega), xor_ones _ (by omega)]
  unfold zig
  rw [if_pos h2]
  omega
theorem zig_pos (n : Int) (h1 : 0 ≤ n) (h2 : n ≤ 9223372036854775807) : bits BinOp.xor IntKind.u64 (n * 2) (n / 9223372036854775808) = (zig n : Nat) := by
  have e1 : n * 2 = ((2 * n).toNat : Nat) := by omega
  have e2 : n / 9223372036854775808 = ((0 : Nat) : Int) := by omega
  rw [e2, e1, bits_xor_u64_nat _ _ (by omega) (by omega), Nat.xor_zero]
  unfold zig
  rw [if_neg (by omega)]

end Go.Proofs.YtpdepmkojbpklaaDoor
