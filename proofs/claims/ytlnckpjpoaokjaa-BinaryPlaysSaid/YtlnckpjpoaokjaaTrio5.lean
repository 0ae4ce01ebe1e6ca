/- Both heaps in one state, with a row of handles beside: what each call of a script does. -/
import Derived.Test.YtlnckpjpoaokjaaDuo5
import Derived.Test.YtlnckpjpoaokjaaHandles
import Derived.Deep.Onto
namespace Go.Proofs.Ytlnckpjpoaokjaa
open Go.RowKit
section
variable {w wr w2 : World} {b c N M : Nat} {a a' : Bn} {F G : Nat → Prop} {v : Value} {ls : List Nat}

structure Trio (w wr : World) (b c N : Nat) (a : Bn) (F G : Nat → Prop) (v : Value) (ls : List Nat) : Prop where
  duo : Duo w wr b c N a F G
  row : wr.ownsRow w.heap.size 3 1 v ls.length (nats ls)
  ap : ∀ g, v.ownBlock = some g → ¬ F g ∧ ¬ G g
structure Tri2 (w wr : World) (b c : Nat) (a' a : Bn) (F G : Nat → Prop) (v : Value) (ls : List Nat) : Prop where
  half : Half w wr b c a' a F G
  row : wr.ownsRow w.heap.size 3 1 v ls.length (nats ls)
  ap : ∀ g, v.ownBlock = some g → ¬ F g ∧ ¬ G g

theorem own_lt {base : Nat} {e : TypeId} {s n : Nat} {xs : List Value} (h : wr.ownsRow base e s v n xs) {g : Nat} (hg : v.ownBlock = some g) : g < wr.heap.size := by
  obtain ⟨_, _, _, h, _⟩ := row_blk h hg
  exact (Array.getElem?_eq_some_iff.1 h).1

theorem Trio.same (h : Trio w wr b c N a F G v ls) (hk : Kp (fun _ => False) wr w2) : Trio w w2 b c N a F G v ls := ⟨h.duo.same hk, hk.row h.row (fun _ _ e => e), h.ap⟩
theorem Tri2.same (h : Tri2 w wr b c a' a F G v ls) (hk : Kp (fun _ => False) wr w2) : Tri2 w w2 b c a' a F G v ls := ⟨h.half.same hk, hk.row h.row (fun _ _ e => e), h.ap⟩
theorem Trio.mono (h : Trio w wr b c N a F G v ls) (hm : N ≤ M) : Trio w wr b c M a F G v ls := ⟨h.duo.mono hm, h.row, h.ap⟩
theorem Trio.kp (h : Trio w wr b c N a F G v ls) : Kp (fun _ => False) w wr := h.duo.one.kp
theorem Tri2.kp (h : Tri2 w wr b c a' a F G v ls) : Kp (fun _ => False) w wr := h.half.kp

theorem Trio.first (h : Trio w wr b c N a F G v ls) (hg : BGo F wr b a' w2) : ∃ F', Tri2 w w2 b c a' a F' G v ls := by
  obtain ⟨hk, F', hn, hB⟩ := hg
  have hlt := h.duo.ref.lt
  refine ⟨F', ⟨hB, h.duo.ref.kp hk (fun q hq hF => h.duo.apart q hF hq), fun q hq hG => ?_, fun q hq => (hn q hq).elim (h.duo.one.new q) (fun e => Nat.le_trans h.duo.one.kp.size e), h.duo.newG, h.duo.one.kp.trans (hk.mono fun q hq hF => .inr ⟨h.duo.one.new q hF, hq⟩)⟩,
    hk.row h.row (fun g hg => (h.ap g hg).1), fun g hg => ⟨fun e => ?_, (h.ap g hg).2⟩⟩
  · rcases hn q hq with e | e
    · exact h.duo.apart q e hG
    · have := hlt q hG; omega
  · rcases hn g e with e | e
    · exact (h.ap g hg).1 e
    · have := own_lt h.row hg; omega
theorem Tri2.second (h : Tri2 w wr b c a' a F G v ls) (hg : XGo G wr c a' w2) (hI : BInv M a') : ∃ G', Trio w w2 b c M a' F G' v ls := by
  obtain ⟨hk, G', hn, hB⟩ := hg
  have hlt := h.half.at'.lt
  refine ⟨G', ⟨⟨h.half.at'.kp hk (fun q hq hG => h.half.apart q hq hG), hI, h.half.newF, h.half.kp.trans (hk.mono fun q hq hG => .inr ⟨h.half.newG q hG, hq⟩)⟩, hB, fun q hq hG => ?_, fun q hq => (hn q hq).elim (h.half.newG q) (fun e => Nat.le_trans h.half.kp.size e)⟩,
    hk.row h.row (fun g hg => (h.ap g hg).2), fun g hg => ⟨(h.ap g hg).1, fun e => ?_⟩⟩
  · rcases hn q hG with e | e
    · exact h.half.apart q hq e
    · have := hlt q hq; omega
  · rcases hn g e with e | e
    · exact (h.ap g hg).2 e
    · have := own_lt h.row hg; omega

/-- a number more in the row -/
theorem Trio.push (h : Trio w wr b c N a F G v ls) (n : Nat) {o : Obj} {g cap : Nat}
    (hown : w2.ownsRow w.heap.size 3 1 (.slice (some ⟨g, 0, none⟩) (ls.length + 1) cap) (ls.length + 1) (nats ls ++ [.int .i64 n]))
    (hg : (wr.alloc o).grownBy w2 v.ownBlock) (hat : v.ownBlock = some g ∨ g = wr.heap.size + 1) :
    Trio w w2 b c N a F G (.slice (some ⟨g, 0, none⟩) (ls.length + 1) cap) (ls ++ [n]) := by
  have hk : Kp (fun q => v.ownBlock = some q) wr w2 := ((Kp.refl _ wr).alloc o).grown hg (fun q hq => .inl hq)
  have hfl := h.duo.one.at'.lt
  have hgl := h.duo.ref.lt
  refine ⟨⟨⟨h.duo.one.at'.kp hk (fun q hq e => (h.ap q e).1 hq), h.duo.one.inv, h.duo.one.new, h.duo.one.kp.trans (hk.mono fun q hq e => .inr ⟨(h.row.lt q e).1, hq⟩)⟩, h.duo.ref.kp hk (fun q hq e => (h.ap q e).2 hq), h.duo.apart, h.duo.newG⟩, ?_, ?_⟩
  · rw [show nats (ls ++ [n]) = nats ls ++ [.int .i64 n] by simp [nats], List.length_append]
    exact hown
  · intro q hq
    simp [Value.ownBlock] at hq
    subst hq
    rcases hat with e | e
    · exact h.ap _ e
    · exact ⟨fun e' => by have := hfl _ e'; omega, fun e' => by have := hgl _ e'; omega⟩

/-- both are refused alike -/
theorem EBad.trio' {mk : Value → Value} {l : List Lk} {e : Ending} (h : EBad wr mk l e w2) (hT : Trio w wr b c N a F G v ls) : ∃ v1, e = .returned (mk v1) ∧ (Chain w2 v1 l ∧ Trio w w2 b c N a F G v ls) ∧ Kp (fun _ => False) wr w2 := by
  obtain ⟨v1, h1, h2, h3⟩ := h
  exact ⟨v1, h1, ⟨h2.out, hT.same h3⟩, h3⟩
theorem EBad.trio {mk : Value → Value} {l : List Lk} {e : Ending} (h : EBad wr mk l e w2) (hT : Trio w wr b c N a F G v ls) : ∃ v1, e = .returned (mk v1) ∧ Chain w2 v1 l ∧ Trio w w2 b c N a F G v ls := by
  obtain ⟨v1, h1, h2, _⟩ := h.trio' hT
  exact ⟨v1, h1, h2⟩
theorem XBad.trio {mk : Value → Value} {l l0 : List Lk} {e : Ending} {v1 : Value} (h : XBad wr mk l e w2) (hT : Chain wr v1 l0 ∧ Trio w wr b c N a F G v ls) : ∃ v2, e = .returned (mk v2) ∧ Chain w2 v1 l0 ∧ XCh w2 v2 l ∧ Trio w w2 b c N a F G v ls := by
  obtain ⟨v2, h1, h2, h3⟩ := h
  exact ⟨v2, h1, Chain.kp h3 _ _ hT.1, h2, hT.2.same h3⟩

theorem BInv.lenL (h : BInv N a) : a.slots.length ≤ 4096 := by have := h.len; have := h.most; omega
theorem BInv.gens (h : BInv N a) (hN : N ≤ 1000000000000000) (i : Nat) (s : Sl) (hs : a.slots[i]? = some s) : s.gen ≤ 1000000000000000 := by have := (h.bd i s hs).2; omega

def kept (a : Bn) (i : Nat) (s : Sl) : Bn := { a with slots := a.slots.set i ⟨s.bs, s.count + 1, s.gen⟩ }
def less (a : Bn) (i c : Nat) (s : Sl) : Bn := { a with slots := a.slots.set i ⟨s.bs, c, s.gen⟩ }

variable {i : Nat} {s : Sl} {n : Int}
theorem t_keep (h : Trio w wr b c N a F G v ls) (hN : N ≤ 100000000000000) (hf : FOk a n i s) (hM : n ≤ 9223372036854775807) :
    Calls Try.prog 14 #[.pointer (some ⟨b, 0, none⟩), .int .i64 n] wr fun e w' => e = .returned .nilIface ∧ ∃ F', Tri2 w w' b c (kept a i s) a F' G v ls := by
  obtain ⟨ss, fs, ps, hB⟩ := h.duo.one.at'
  refine (keep_ok hB h.duo.one.inv.lenL hf hM (by have := (h.duo.one.inv.bd i s hf.slot).1; omega)).mono ?_
  rintro e w' ⟨rfl, hg⟩
  exact ⟨rfl, h.first hg⟩
theorem x_keep (h : Tri2 w wr b c (kept a i s) a F G v ls) (hI : BInv N a) (hN : N ≤ 100000000000000) (hf : FOk a n i s) (hM : n ≤ 9223372036854775807) :
    Calls Try.prog 15 #[.pointer (some ⟨c, 0, none⟩), .int .i64 n] wr fun e w' => e = .returned (.pointer none) ∧ ∃ G', Trio w w' b c (N + 1) (kept a i s) F G' v ls := by
  obtain ⟨ss, fs, ps, hB⟩ := h.half.ref
  refine (xkeep_ok hB hI.lenL hf hM (hI.gens (by omega) i s hf.slot) (by have := (hI.bd i s hf.slot).1; omega)).mono ?_
  rintro e w' ⟨rfl, hg⟩
  exact ⟨rfl, h.second hg (hI.held hf.slot hf.held (s.count + 1) (by omega) (by have := (hI.bd i s hf.slot).1; omega) (by omega))⟩

theorem t_drop1 (h : Trio w wr b c N a F G v ls) (hN : N ≤ 100000000000000) (hf : FOk a n i s) (hM : n ≤ 9223372036854775807) {k : Nat} (hc : s.count = k + 1) (h0 : 0 < k) :
    Calls Try.prog 16 #[.pointer (some ⟨b, 0, none⟩), .int .i64 n] wr fun e w' => e = .returned .nilIface ∧ ∃ F', Tri2 w w' b c (less a i k s) a F' G v ls := by
  obtain ⟨ss, fs, ps, hB⟩ := h.duo.one.at'
  refine (drop_more hB h.duo.one.inv.lenL hf hM hc h0 (by have := (h.duo.one.inv.bd i s hf.slot).1; omega)).mono ?_
  rintro e w' ⟨rfl, hg⟩
  exact ⟨rfl, h.first hg⟩
theorem x_drop1 {k : Nat} (h : Tri2 w wr b c (less a i k s) a F G v ls) (hI : BInv N a) (hN : N ≤ 100000000000000) (hf : FOk a n i s) (hM : n ≤ 9223372036854775807) (hc : s.count = k + 1) (h0 : 0 < k) :
    Calls Try.prog 17 #[.pointer (some ⟨c, 0, none⟩), .int .i64 n] wr fun e w' => e = .returned (.pointer none) ∧ ∃ G', Trio w w' b c (N + 1) (less a i k s) F G' v ls := by
  obtain ⟨ss, fs, ps, hB⟩ := h.half.ref
  refine (xdrop_more hB hI.lenL hf hM (hI.gens (by omega) i s hf.slot) hc h0 (by have := (hI.bd i s hf.slot).1; omega)).mono ?_
  rintro e w' ⟨rfl, hg⟩
  exact ⟨rfl, h.second hg (hI.held hf.slot hf.held k h0 (by have := (hI.bd i s hf.slot).1; omega) (by omega))⟩

theorem t_drop0 (h : Trio w wr b c N a F G v ls) (hN : N ≤ 100000000000000) (hf : FOk a n i s) (hM : n ≤ 9223372036854775807) (hc : s.count = 1) :
    Calls Try.prog 16 #[.pointer (some ⟨b, 0, none⟩), .int .i64 n] wr fun e w' => e = .returned .nilIface ∧ ∃ F', Tri2 w w' b c (freeIn a i s) a F' G v ls := by
  obtain ⟨ss, fs, ps, hB⟩ := h.duo.one.at'
  have hI := h.duo.one.inv
  have h1 := hI.free_le
  have h2 := hI.lenL
  have h3 := sumL_le _ _ _ hf.slot
  have h4 := hI.sum
  have h5 := hI.le
  have h6 := hI.room
  refine (drop_last hB hI.lenL (by omega) hf hM hc (hI.gens (by omega) i s hf.slot) (by omega) (by omega)).mono ?_
  rintro e w' ⟨rfl, hg⟩
  exact ⟨rfl, h.first hg⟩
theorem x_drop0 (h : Tri2 w wr b c (freeIn a i s) a F G v ls) (hI : BInv N a) (hN : N ≤ 100000000000000) (hf : FOk a n i s) (hM : n ≤ 9223372036854775807) (hc : s.count = 1) :
    Calls Try.prog 17 #[.pointer (some ⟨c, 0, none⟩), .int .i64 n] wr fun e w' => e = .returned (.pointer none) ∧ ∃ G', Trio w w' b c (N + 1) (freeIn a i s) F G' v ls := by
  obtain ⟨ss, fs, ps, hB⟩ := h.half.ref
  have h1 := hI.free_le
  have h2 := hI.lenL
  refine (xdrop_last hB hI.lenL (by omega) hf hM (hI.gens (by omega) i s hf.slot) hc (a.used - s.bs.length)).mono ?_
  rintro e w' ⟨rfl, hg⟩
  exact ⟨rfl, h.second hg (hI.drop hf.slot hf.held (by have := (hI.bd i s hf.slot).2; omega) (by omega))⟩

theorem t_bad1 (h : Trio w wr b c N a F G v ls) {k : Int} (hf : FBad a n k) (hm : -9223372036854775808 ≤ n) (hM : n ≤ 9223372036854775807) :
    Calls Try.prog 14 #[.pointer (some ⟨b, 0, none⟩), .int .i64 n] wr fun e w' => ∃ v1, e = .returned v1 ∧ Chain w' v1 [Lk.fault keepS n, Lk.kind k] ∧ Trio w w' b c N a F G v ls := by
  obtain ⟨ss, fs, ps, hB⟩ := h.duo.one.at'
  exact (keep_bad hB h.duo.one.inv.lenL n k hm hM hf).mono fun e w' he => he.trio h
theorem x_bad1 {v1 : Value} {l0 : List Lk} (h : Chain wr v1 l0 ∧ Trio w wr b c N a F G v ls) (hN : N ≤ 100000000000000) {k : Int} (hf : FBad a n k) (hm : -9223372036854775808 ≤ n) (hM : n ≤ 9223372036854775807) :
    Calls Try.prog 15 #[.pointer (some ⟨c, 0, none⟩), .int .i64 n] wr fun e w' => ∃ v2, e = .returned v2 ∧ Chain w' v1 l0 ∧ XCh w' v2 [Lk.fault keepS n, Lk.kind k] ∧ Trio w w' b c N a F G v ls := by
  obtain ⟨ss, fs, ps, hB⟩ := h.2.duo.ref
  exact (xkeep_bad hB h.2.duo.one.inv.lenL (h.2.duo.one.inv.gens (by omega)) n k hm hM hf).mono fun e w' he => he.trio h
theorem t_bad2 (h : Trio w wr b c N a F G v ls) {k : Int} (hf : FBad a n k) (hm : -9223372036854775808 ≤ n) (hM : n ≤ 9223372036854775807) :
    Calls Try.prog 16 #[.pointer (some ⟨b, 0, none⟩), .int .i64 n] wr fun e w' => ∃ v1, e = .returned v1 ∧ Chain w' v1 [Lk.fault dropS n, Lk.kind k] ∧ Trio w w' b c N a F G v ls := by
  obtain ⟨ss, fs, ps, hB⟩ := h.duo.one.at'
  exact (drop_bad hB h.duo.one.inv.lenL n k hm hM hf).mono fun e w' he => he.trio h
theorem x_bad2 {v1 : Value} {l0 : List Lk} (h : Chain wr v1 l0 ∧ Trio w wr b c N a F G v ls) (hN : N ≤ 100000000000000) {k : Int} (hf : FBad a n k) (hm : -9223372036854775808 ≤ n) (hM : n ≤ 9223372036854775807) :
    Calls Try.prog 17 #[.pointer (some ⟨c, 0, none⟩), .int .i64 n] wr fun e w' => ∃ v2, e = .returned v2 ∧ Chain w' v1 l0 ∧ XCh w' v2 [Lk.fault dropS n, Lk.kind k] ∧ Trio w w' b c N a F G v ls := by
  obtain ⟨ss, fs, ps, hB⟩ := h.2.duo.ref
  exact (xdrop_bad hB h.2.duo.one.inv.lenL (h.2.duo.one.inv.gens (by omega)) n k hm hM hf).mono fun e w' he => he.trio h

/-- Bytes, and the document's Get -/
theorem t_bytes (h : Trio w wr b c N a F G v ls) (hf : FOk a n i s) (hM : n ≤ 9223372036854775807) :
    Calls Try.prog 18 #[.pointer (some ⟨b, 0, none⟩), .int .i64 n] wr fun e w' => ∃ v1, e = .returned (.tuple #[v1, .nilIface]) ∧ BytesAt (fun q => q < w'.heap.size) w' s.bs v1 ∧ Trio w w' b c N a F G v ls := by
  obtain ⟨ss, fs, ps, hB⟩ := h.duo.one.at'
  refine (bytes_ok hB h.duo.one.inv.lenL hf hM).mono ?_
  rintro e w' ⟨v1, rfl, h1, h2⟩
  exact ⟨v1, rfl, bytes_any h1, h.same h2⟩
theorem x_get (op : ByteArray) {v1 : Value} {l1 : List UInt8} (h : BytesAt (fun q => q < wr.heap.size) wr l1 v1 ∧ Trio w wr b c N a F G v ls) (hN : N ≤ 100000000000000) (hf : FOk a n i s) (hM : n ≤ 9223372036854775807) :
    Calls Try.prog 19 #[.pointer (some ⟨c, 0, none⟩), .string op, .int .i64 n] wr fun e w' => ∃ v2, e = .returned (.tuple #[v2, .int .i64 s.count, .pointer none]) ∧ BytesAt (fun q => q < w'.heap.size) w' l1 v1 ∧ BytesAt (fun q => q < w'.heap.size) w' s.bs v2 ∧ Trio w w' b c N a F G v ls := by
  obtain ⟨ss, fs, ps, hB⟩ := h.2.duo.ref
  refine (xget_ok op hB h.2.duo.one.inv.lenL hf hM (h.2.duo.one.inv.gens (by omega) i s hf.slot)).mono ?_
  rintro e w' ⟨v2, rfl, h1, h2⟩
  exact ⟨v2, rfl, bytes_any (bytes_kp h.1 h2 (fun _ _ e => e)), bytes_any h1, h.2.same h2⟩
theorem t_bad3 (h : Trio w wr b c N a F G v ls) {k : Int} (hf : FBad a n k) (hm : -9223372036854775808 ≤ n) (hM : n ≤ 9223372036854775807) :
    Calls Try.prog 18 #[.pointer (some ⟨b, 0, none⟩), .int .i64 n] wr fun e w' => ∃ v1, e = .returned (.tuple #[.slice none 0 0, v1]) ∧ Chain w' v1 [Lk.fault bytesS n, Lk.kind k] ∧ Trio w w' b c N a F G v ls := by
  obtain ⟨ss, fs, ps, hB⟩ := h.duo.one.at'
  exact (bytes_bad hB h.duo.one.inv.lenL n k hm hM hf).mono fun e w' he => he.trio h
theorem x_badG (op : ByteArray) {v1 : Value} {l0 : List Lk} (h : Chain wr v1 l0 ∧ Trio w wr b c N a F G v ls) (hN : N ≤ 100000000000000) {k : Int} (hf : FBad a n k) (hm : -9223372036854775808 ≤ n) (hM : n ≤ 9223372036854775807) :
    Calls Try.prog 19 #[.pointer (some ⟨c, 0, none⟩), .string op, .int .i64 n] wr fun e w' => ∃ v2, e = .returned (.tuple #[.slice none 0 0, .int .i64 0, v2]) ∧ Chain w' v1 l0 ∧ XCh w' v2 [Lk.fault op n, Lk.kind k] ∧ Trio w w' b c N a F G v ls := by
  obtain ⟨ss, fs, ps, hB⟩ := h.2.duo.ref
  exact (xget_bad op hB h.2.duo.one.inv.lenL (h.2.duo.one.inv.gens (by omega)) n k hm hM hf).mono fun e w' he => he.trio h
theorem t_count (h : Trio w wr b c N a F G v ls) (hf : FOk a n i s) (hM : n ≤ 9223372036854775807) :
    Calls Try.prog 22 #[.pointer (some ⟨b, 0, none⟩), .int .i64 n] wr fun e w' => e = .returned (.tuple #[.int .i64 s.count, .nilIface]) ∧ wr = w' := by
  obtain ⟨ss, fs, ps, hB⟩ := h.duo.one.at'
  exact count_ok hB h.duo.one.inv.lenL hf hM
theorem t_bad5 (h : Trio w wr b c N a F G v ls) {k : Int} (hf : FBad a n k) (hm : -9223372036854775808 ≤ n) (hM : n ≤ 9223372036854775807) :
    Calls Try.prog 22 #[.pointer (some ⟨b, 0, none⟩), .int .i64 n] wr fun e w' => ∃ v1, e = .returned (.tuple #[.int .i64 0, v1]) ∧ Chain w' v1 [Lk.fault countS n, Lk.kind k] ∧ Trio w w' b c N a F G v ls := by
  obtain ⟨ss, fs, ps, hB⟩ := h.duo.one.at'
  exact (count_bad hB h.duo.one.inv.lenL n k hm hM hf).mono fun e w' he => he.trio h

/-- Part -/
theorem t_part (h : Trio w wr b c N a F G v ls) (hf : FOk a n i s) (hM : n ≤ 9223372036854775807) (x y : Nat) (hxy : x + y ≤ s.bs.length) :
    Calls Try.prog 20 #[.pointer (some ⟨b, 0, none⟩), .int .i64 n, .int .i64 x, .int .i64 y] wr fun e w' => ∃ v1, e = .returned (.tuple #[v1, .nilIface]) ∧ (BytesAt (fun q => q < w'.heap.size) w' ((s.bs.drop x).take y) v1 ∧ Trio w w' b c N a F G v ls) ∧ Kp (fun _ => False) wr w' := by
  obtain ⟨ss, fs, ps, hB⟩ := h.duo.one.at'
  refine (part_ok hB h.duo.one.inv.lenL hf hM x y hxy).mono ?_
  rintro e w' ⟨v1, rfl, h1, h2⟩
  exact ⟨v1, rfl, ⟨bytes_any h1, h.same h2⟩, h2⟩
theorem x_part {v1 : Value} {l1 : List UInt8} (h : BytesAt (fun q => q < wr.heap.size) wr l1 v1 ∧ Trio w wr b c N a F G v ls) (hN : N ≤ 100000000000000) (hf : FOk a n i s) (hM : n ≤ 9223372036854775807) (x y : Nat) (hxy : x + y ≤ s.bs.length) :
    Calls Try.prog 21 #[.pointer (some ⟨c, 0, none⟩), .int .i64 n, .int .i64 x, .int .i64 y] wr fun e w' => ∃ v2, e = .returned (.tuple #[v2, .pointer none]) ∧ BytesAt (fun q => q < w'.heap.size) w' l1 v1 ∧ BytesAt (fun q => q < w'.heap.size) w' ((s.bs.drop x).take y) v2 ∧ Trio w w' b c N a F G v ls := by
  obtain ⟨ss, fs, ps, hB⟩ := h.2.duo.ref
  refine (xpart_ok hB h.2.duo.one.inv.lenL hf hM (h.2.duo.one.inv.gens (by omega) i s hf.slot) x y hxy).mono ?_
  rintro e w' ⟨v2, rfl, h1, h2⟩
  exact ⟨v2, rfl, bytes_any (bytes_kp h.1 h2 (fun _ _ e => e)), bytes_any h1, h.2.same h2⟩

/-- a part that is refused -/
def PBad (a : Bn) (n x y k : Int) : Prop := FBad a n k ∨ (k = 12 ∧ ∃ i s, FOk a n i s ∧ (x < 0 ∨ y < 0 ∨ (s.bs.length : Int) - x < y))
theorem part_how (a : Bn) (n x y : Int) : (∃ (i : Nat) (s : Sl) (x' y' : Nat), FOk a n i s ∧ x = x' ∧ y = y' ∧ x' + y' ≤ s.bs.length) ∨ ∃ k, PBad a n x y k := by
  rcases found_any a n with ⟨i, s, hf⟩ | ⟨k, hk⟩
  · by_cases h : x < 0 ∨ y < 0 ∨ (s.bs.length : Int) - x < y
    · exact .inr ⟨12, .inr ⟨rfl, i, s, hf, h⟩⟩
    · exact .inl ⟨i, s, x.toNat, y.toNat, hf, by omega, by omega, by omega⟩
  · exact .inr ⟨k, .inl hk⟩
theorem t_bad4 (h : Trio w wr b c N a F G v ls) {x y k : Int} (hf : PBad a n x y k) (hm : -9223372036854775808 ≤ n) (hM : n ≤ 9223372036854775807) (hx : -9223372036854775808 ≤ x ∧ x ≤ 9223372036854775807) (hy : -9223372036854775808 ≤ y ∧ y ≤ 9223372036854775807) :
    Calls Try.prog 20 #[.pointer (some ⟨b, 0, none⟩), .int .i64 n, .int .i64 x, .int .i64 y] wr fun e w' => ∃ v1, e = .returned (.tuple #[.slice none 0 0, v1]) ∧ (Chain w' v1 [Lk.fault partS n, Lk.kind k] ∧ Trio w w' b c N a F G v ls) ∧ Kp (fun _ => False) wr w' := by
  obtain ⟨ss, fs, ps, hB⟩ := h.duo.one.at'
  rcases hf with hf | ⟨rfl, i, s, hf, hxy⟩
  · exact (part_bad hB h.duo.one.inv.lenL n k hm hM hf x y).mono fun e w' he => EBad.trio' (mk := fun v => .tuple #[.slice none 0 0, v]) he h
  · exact (part_out hB h.duo.one.inv.lenL hf hM x y hx hy hxy).mono fun e w' he => EBad.trio' (mk := fun v => .tuple #[.slice none 0 0, v]) he h
theorem x_bad4 {v1 : Value} {l0 : List Lk} (h : Chain wr v1 l0 ∧ Trio w wr b c N a F G v ls) (hN : N ≤ 100000000000000) {x y k : Int} (hf : PBad a n x y k) (hm : -9223372036854775808 ≤ n) (hM : n ≤ 9223372036854775807) (hx : -9223372036854775808 ≤ x ∧ x ≤ 9223372036854775807) (hy : -9223372036854775808 ≤ y ∧ y ≤ 9223372036854775807) :
    Calls Try.prog 21 #[.pointer (some ⟨c, 0, none⟩), .int .i64 n, .int .i64 x, .int .i64 y] wr fun e w' => ∃ v2, e = .returned (.tuple #[.slice none 0 0, v2]) ∧ Chain w' v1 l0 ∧ XCh w' v2 [Lk.fault partS n, Lk.kind k] ∧ Trio w w' b c N a F G v ls := by
  obtain ⟨ss, fs, ps, hB⟩ := h.2.duo.ref
  have hg := h.2.duo.one.inv.gens (N := N) (by omega)
  rcases hf with hf | ⟨rfl, i, s, hf, hxy⟩
  · exact (xpart_bad hB h.2.duo.one.inv.lenL hg n k hm hM hf x y).mono fun e w' he => XBad.trio (mk := fun v => .tuple #[.slice none 0 0, v]) he h
  · exact (xpart_out hB h.2.duo.one.inv.lenL hf hM (hg i s hf.slot) x y hx hy hxy).mono fun e w' he => XBad.trio (mk := fun v => .tuple #[.slice none 0 0, v]) he h

/-- Put where there is room -/
def PutOk (a : Bn) (l : List UInt8) (a' : Bn) (m : Nat) : Prop :=
  a.used + l.length ≤ a.room ∧ ((a.free = [] ∧ a.slots.length < a.most ∧ a' = pushIn a l ∧ m = a.slots.length) ∨
    ∃ rest i s, a.free = rest ++ [i] ∧ a.slots[i]? = some s ∧ a' = backIn a rest i s.gen l ∧ m = i + 4096 * s.gen)
theorem put_how (hI : BInv N a) (l : List UInt8) : (∃ a' m, PutOk a l a' m) ∨ ((a.slots.length = a.most ∧ a.free = []) ∨ a.room < a.used + l.length) := by
  by_cases h : a.used + l.length ≤ a.room
  · by_cases hf : a.free = []
    · have := hI.len
      by_cases hl : a.slots.length = a.most
      · exact .inr (.inl ⟨hl, hf⟩)
      · exact .inl ⟨_, _, h, .inl ⟨hf, by omega, rfl, rfl⟩⟩
    · obtain ⟨rest, i, hr⟩ : ∃ rest i, a.free = rest ++ [i] := ⟨_, _, (List.dropLast_concat_getLast hf).symm⟩
      obtain ⟨s, hs, _⟩ := (hI.fr i).1 (by rw [hr]; simp)
      exact .inl ⟨_, _, h, .inr ⟨rest, i, s, hr, hs, rfl, rfl⟩⟩
  · exact .inr (.inr (by omega))
theorem PutOk.small {l : List UInt8} {m : Nat} (h : PutOk a l a' m) (hI : BInv N a) (hN : N ≤ 100000000000000) : m ≤ 5000000000000000000 := by
  rcases h.2 with ⟨_, _, _, rfl⟩ | ⟨rest, i, s, _, hs, _, rfl⟩
  · have := hI.lenL; omega
  · have h1 := (List.getElem?_eq_some_iff.1 hs).1
    have h2 := (hI.bd i s hs).2
    have := hI.lenL
    omega
theorem t_put (h : Trio w wr b c N a F G v ls) (hN : N ≤ 100000000000000) {K : Nat → Prop} {l : List UInt8} {u : Value} (hv : BytesAt K wr l u) (hK : ∀ q, K q → ¬ F q) {m : Nat} (hp : PutOk a l a' m) :
    Calls Try.prog 11 #[.pointer (some ⟨b, 0, none⟩), u] wr fun e w' => e = .returned (.tuple #[.int .i64 m, .nilIface]) ∧ (∃ F', Tri2 w w' b c a' a F' G v ls) ∧ Kp F wr w' := by
  obtain ⟨ss, fs, ps, hB⟩ := h.duo.one.at'
  rcases hp.2 with ⟨hf, hL, rfl, rfl⟩ | ⟨rest, i, s, hf, hs, rfl, rfl⟩
  · refine (put_first hB h.duo.one.inv (by omega) hv hK hf hL hp.1).mono ?_
    rintro e w' ⟨rfl, hg⟩
    exact ⟨rfl, h.first hg, hg.1⟩
  · refine (put_again hB h.duo.one.inv (by omega) hv hK hf hs hp.1).mono ?_
    rintro e w' ⟨rfl, hg⟩
    exact ⟨ret2 (by omega), h.first hg, hg.1⟩
theorem x_put {l : List UInt8} (h : Tri2 w wr b c a' a F G v ls) (hI : BInv N a) (hN : N ≤ 100000000000000) (hN1 : 1 ≤ N) {u : Value} (hv : BytesAt (fun q => q < w.heap.size) w l u) {m : Nat} (hp : PutOk a l a' m) :
    Calls Try.prog 13 #[.pointer (some ⟨c, 0, none⟩), u] wr fun e w' => e = .returned (.tuple #[.int .i64 m, .pointer none]) ∧ ∃ G', Trio w w' b c (N + 1) a' F G' v ls := by
  obtain ⟨ss, fs, ps, hB⟩ := h.half.ref
  have hv' := bytes_kp hv h.half.kp (fun _ _ e => e)
  have hG : ∀ q, q < w.heap.size → ¬ G q := fun q hq e => by have := h.half.newG q e; omega
  rcases hp.2 with ⟨hf, hL, rfl, rfl⟩ | ⟨rest, i, s, hf, hs, rfl, rfl⟩
  · refine (xput_first hB hI hv' hG hp.1 hf hL (a.used + l.length)).mono ?_
    rintro e w' ⟨rfl, hg⟩
    exact ⟨rfl, h.second hg ((inv_push hI hN1 hf hL hp.1).mono (by omega))⟩
  · refine (xput_again hB hI hv' hG hp.1 (by omega) hf hs (a.used + l.length)).mono ?_
    rintro e w' ⟨rfl, hg⟩
    exact ⟨ret2 (by omega), h.second hg ((inv_back hI hN1 (by omega) hf hs hp.1).mono (by omega))⟩
theorem t_putF (h : Trio w wr b c N a F G v ls) (p : Option Addr) (len cap : Nat) (hlen : len ≤ 140737488351232) (hf : (a.slots.length = a.most ∧ a.free = []) ∨ a.room < a.used + len) :
    Calls Try.prog 11 #[.pointer (some ⟨b, 0, none⟩), .slice p len cap] wr fun e w' => ∃ v1, e = .returned (.tuple #[.int .i64 (-1), v1]) ∧ (Chain w' v1 [Lk.fault putS len, Lk.kind 2] ∧ Trio w w' b c N a F G v ls) ∧ Kp (fun _ => False) wr w' := by
  obtain ⟨ss, fs, ps, hB⟩ := h.duo.one.at'
  exact (put_full hB h.duo.one.inv p len cap (by omega) hf).mono fun e w' he => EBad.trio' (mk := fun v => .tuple #[.int .i64 (-1), v]) he h
theorem x_putF {v1 : Value} {l0 : List Lk} (h : Chain wr v1 l0 ∧ Trio w wr b c N a F G v ls) (p : Option Addr) (len cap : Nat) (hlen : len ≤ 140737488351232) (hf : (a.slots.length = a.most ∧ a.free = []) ∨ a.room < a.used + len) :
    Calls Try.prog 13 #[.pointer (some ⟨c, 0, none⟩), .slice p len cap] wr fun e w' => ∃ v2, e = .returned (.tuple #[.int .i64 (-1), v2]) ∧ Chain w' v1 l0 ∧ XCh w' v2 [Lk.fault putS len, Lk.kind 2] ∧ Trio w w' b c N a F G v ls := by
  obtain ⟨ss, fs, ps, hB⟩ := h.2.duo.ref
  exact (xput_full hB h.2.duo.one.inv p len cap hlen hf).mono fun e w' he => XBad.trio (mk := fun v => .tuple #[.int .i64 (-1), v]) he h

/-- what is asked of both behind each call -/
theorem t_used (h : Trio w wr b c N a F G v ls) : Calls Try.prog 23 #[.pointer (some ⟨b, 0, none⟩)] wr fun e w' => e = .returned (.int .i64 a.used) ∧ wr = w' := by
  obtain ⟨ss, fs, ps, hB⟩ := h.duo.one.at'
  exact used_any hB
theorem x_used (h : Trio w wr b c N a F G v ls) : Calls Try.prog 24 #[.pointer (some ⟨c, 0, none⟩)] wr fun e w' => e = .returned (.int .i64 a.used) ∧ wr = w' := by
  obtain ⟨ss, fs, ps, hB⟩ := h.duo.ref
  exact xused_any hB h.duo.one.inv
theorem t_handles (h : Trio w wr b c N a F G v ls) (hN : N ≤ 100000000000000) :
    Calls Try.prog 26 #[.pointer (some ⟨b, 0, none⟩)] wr fun e w' => ∃ s1, e = .returned s1 ∧ w'.ownsRow 0 3 1 s1 a.held.length (ints a.held) ∧ Trio w w' b c N a F G v ls := by
  obtain ⟨ss, fs, ps, hB⟩ := h.duo.one.at'
  refine (handles_any hB h.duo.one.inv.lenL (h.duo.one.inv.gens (by omega))).mono ?_
  rintro e w' ⟨s1, rfl, h1, h2⟩
  exact ⟨s1, rfl, h1.mono (Nat.zero_le _), h.same h2⟩
theorem x_handles {s1 : Value} (h : wr.ownsRow 0 3 1 s1 a.held.length (ints a.held) ∧ Trio w wr b c N a F G v ls) (hN : N ≤ 100000000000000) :
    Calls Try.prog 27 #[.pointer (some ⟨c, 0, none⟩)] wr fun e w' => ∃ s2, e = .returned s2 ∧ w'.ownsRow 0 3 1 s1 a.held.length (ints a.held) ∧ w'.ownsRow 0 3 1 s2 a.held.length (ints a.held) ∧ Trio w w' b c N a F G v ls := by
  obtain ⟨ss, fs, ps, hB⟩ := h.2.duo.ref
  refine (xhandles_any hB h.2.duo.one.inv.lenL (h.2.duo.one.inv.gens (by omega))).mono ?_
  rintro e w' ⟨s2, rfl, h1, h2⟩
  exact ⟨s2, rfl, h2.row h.1 (fun _ _ e => e), h1.mono (Nat.zero_le _), h.2.same h2⟩
end
end Go.Proofs.Ytlnckpjpoaokjaa
