/- A block is given back, with what it holds of a handle. What is reached from words: the words of a block that are looked at. -/
import Derived.Test.YtkcmfldcdokobaaGreatDoorM16
import Derived.Test.YtkcmfldcdokobaaGreatDoorM21
/- A block is given back, with what it holds of a handle. -/
namespace Go.Proofs.YtkcmfldcdokobaaGreatDoor
open Go.RowKit

/-- what is of no colour is kept; nothing new is the table's -/
structure Go0 (col : Nat → Nat) (w : World) (col' : Nat → Nat) (w' : World) : Prop where
  old : ∀ q, q < w.heap.size → col' q = col q
  kp : Kp (fun q => col q ≠ 0) w w'
  no3 : ∀ q, w.heap.size ≤ q → col' q ≠ 3

section
variable {w0 w w' w1 w2 : World} {col col1 col2 : Nat → Nat} {i : Nat}
theorem Go0.of (hi : i ≠ 0 ∧ i ≠ 3) (hk : Kp (Fi col w i) w w') : Go0 col w (recol col w i) w' := ⟨fun q hq => by unfold recol; rw [if_pos hq], hk.mono fun q _ e => by rw [e.1]; exact hi.1, fun q hq => by unfold recol; rw [if_neg (by omega)]; exact hi.2⟩
theorem Go0.same (hk : Kp (fun _ => False) w w') : Go0 col w (recol col w 0) w' := ⟨fun q hq => by unfold recol; rw [if_pos hq], hk.mono fun _ _ e => e.elim, fun q hq => by unfold recol; rw [if_neg (by omega)]; omega⟩
theorem Go0.trans (h1 : Go0 col w col1 w1) (h2 : Go0 col1 w1 col2 w2) : Go0 col w col2 w2 :=
  ⟨fun q hq => (h2.1 q (Nat.lt_of_lt_of_le hq h1.2.size)).trans (h1.1 q hq), h1.2.trans (h2.2.mono fun q hq e => by
    rcases Nat.lt_or_ge q w.heap.size with h | h
    · rw [h1.1 q h] at e; exact .inl e
    · exact .inr ⟨h, hq⟩), fun q hq => by
    rcases Nat.lt_or_ge q w1.heap.size with h | h
    · rw [h2.1 q h]; exact h1.no3 q hq
    · exact h2.no3 q h⟩
theorem Go0.block (h : Go0 col w col1 w1) {q : Nat} {o : Obj} (hq : w.heap[q]? = some o) (hc : col q = 0) : w1.heap[q]? = some o ∧ col1 q = 0 := by
  have hlt := (Array.getElem?_eq_some_iff.1 hq).1
  exact ⟨(h.2.block q hlt (fun e => e hc)).trans hq, (h.1 q hlt).trans hc⟩
theorem Go0.row (h : Go0 col w col1 w1) {base : Nat} {e : TypeId} {s n : Nat} {xs : List Value} {v : Value} (ho : w.ownsRow base e s v n xs) (hc : ∀ g, v.ownBlock = some g → col g = 0) : w1.ownsRow base e s v n xs ∧ ∀ g, v.ownBlock = some g → col1 g = 0 :=
  ⟨h.2.row ho (fun g hg e => e (hc g hg)), fun g hg => by
    obtain ⟨_, _, _, hh, _⟩ := row_blk ho hg
    exact (h.1 g (Array.getElem?_eq_some_iff.1 hh).1).trans (hc g hg)⟩

variable {F : Nat → Prop} {hb ab tb bb least N M : Nat} {sv : Value} {sl : List (Int × Bool)} {A A' : Ar} {names : List ByteArray} {a a' : Bn} {q n : Nat}

/-- what Drop makes of binaries -/
def DropTo (a : Bn) (x : Int) (a' : Bn) : Prop :=
  (∃ i s, FOk a x i s ∧ ((s.count = 1 ∧ a' = { a with used := a.used - s.bs.length, slots := a.slots.set i ⟨[], 0, s.gen + 1⟩, free := a.free ++ [i] }) ∨ ∃ c, s.count = c + 1 ∧ 0 < c ∧ a' = { a with slots := a.slots.set i ⟨s.bs, c, s.gen⟩ })) ∨
    ((∃ k, FBad a x k) ∧ a' = a)
def GiveTo (a : Bn) : Option Int → Bn → Prop
  | none, a' => a' = a
  | some x, a' => DropTo a x a'

theorem drop_any (hB : BAt F w bb a) (hI : BInv N a) (hN : N ≤ 100000000000000) (x : Int) (h0 : -9223372036854775808 ≤ x) (h1 : x ≤ 9223372036854775807) :
    Calls Tryz.prog 90 #[.pointer (some ⟨bb, 0, none⟩), .int .i64 x] w fun e w' => ∃ v a', e = .returned v ∧ DropTo a x a' ∧ BInv (N + 1) a' ∧ BGo F w bb a' w' := by
  obtain ⟨ss, fs, ps, hB⟩ := hB
  have hL : a.slots.length ≤ 4096 := by have := hI.len; have := hI.most; omega
  rcases found_any a x with ⟨i, s, hf⟩ | ⟨k, hf⟩
  · have hbd := hI.bd i s hf.slot
    by_cases hc : s.count = 1
    · have h1' := hI.free_le
      have h3 := sumL_le _ _ _ hf.slot
      have h4 := hI.sum
      have h5 := hI.le
      have h6 := hI.room
      refine (drop_last hB hL (by omega) hf h1 hc (by omega) (by omega) (by omega)).mono ?_
      rintro e w' ⟨rfl, hg⟩
      exact ⟨_, _, rfl, .inl ⟨i, s, hf, .inl ⟨hc, rfl⟩⟩, hI.drop hf.slot hf.held (by omega) (by omega), hg⟩
    · have hh := hf.held
      refine (drop_more hB hL hf h1 (c := s.count - 1) (by omega) (by omega) (by omega)).mono ?_
      rintro e w' ⟨rfl, hg⟩
      exact ⟨_, _, rfl, .inl ⟨i, s, hf, .inr ⟨s.count - 1, by omega, by omega, rfl⟩⟩, hI.held hf.slot hf.held (s.count - 1) (by omega) (by omega) (by omega), hg⟩
  · refine (drop_bad hB hL x k h0 h1 hf).mono ?_
    rintro e w' ⟨v, rfl, _, hk⟩
    exact ⟨v, a, rfl, .inr ⟨⟨k, hf⟩, rfl⟩, hI.mono (by omega), hk.mono (fun _ _ e => e.elim), F, New.same F w, _, _, _, hB.kp hk (fun _ _ e => e)⟩

theorem free_word (h : AIn w hb ab F A) (hF : ¬ F hb) (hq : A.tk q n) :
    Calls Tryz.prog 91 #[.pointer (some ⟨ab, 0, none⟩), .int .i64 (q + 1)] w fun e w' => e = .returned .nilIface ∧ AIn w' hb ab (Ext F w w') (A.freed q (cls n)) ∧ Kp F w w' := by
  refine (free_any h.rep h.inv q n hq).mono ?_
  rintro e w' ⟨rfl, hR, hk⟩
  exact ⟨rfl, ⟨(hk.cell (World.block_lt_of_cell? _ _ h.ptr) hF).trans h.ptr, hR, (h.inv.freed hq).1, h.word⟩, hk⟩

theorem handle_range {x : Int} (h : AIn w hb ab F A) (hq : A.tk q n) (hx : handleOf (blkW A q n) = some x) : 0 ≤ x ∧ x ≤ 2305843009213693951 := by
  have := h.range hq 1
  unfold handleOf at hx
  split at hx
  · injection hx with hx
    omega
  · cases hx

set_option maxRecDepth 100000 in
set_option maxHeartbeats 1000000 in
theorem giveBack_any (h : Hs w0 w col hb ab tb bb sv least sl A names N a) (hN : N ≤ 100000000000000) (hq : A.tk q n) :
    Calls Tryz.prog 53 #[.pointer (some ⟨hb, 0, none⟩), .int .i64 (q + 1)] w fun e w' => e = .returned (.tuple #[]) ∧
      ∃ col' a', Go0 col w col' w' ∧ GiveTo a (handleOf (blkW A q n)) a' ∧ Hs w0 w' col' hb ab tb bb sv least sl (A.freed q (cls n)) names (N + 1) a' := by
  have H := Lib.hid (And.intro h hq)
  cases hx : handleOf (blkW A q n) with
  | none =>
    have Hx := Lib.hid (handle_no h.ar hq hx)
    clear h hq hx
    go_enter Tryz.func53, Tryz.ntmps53
    go_wp2_with fail
    refine Hx.out.mono ?_
    rintro e w1 ⟨rfl, hk1⟩
    have h1 := H.out.1.same hk1
    have c0 := h1.hr.cells.1
    have H1 := Lib.hid (And.intro h1 (Go0.same (col := col) hk1))
    clear h1 hk1
    go_wp2_with fail
    refine (free_word H1.out.1.ar H1.out.1.notA H.out.2).mono ?_
    rintro e w2 ⟨rfl, hA, hk2⟩
    have h2 := H1.out.1.stepA hA hk2
    have H2 := Lib.hid (And.intro h2 (H1.out.2.trans (Go0.of (by omega) hk2)))
    clear hA hk2 h2 c0
    go_wp2_with fail
    refine bodyPost_end (results_none rfl _ _ _) rfl ?_
    exact ⟨rfl, _, a, H2.out.2, rfl, ⟨H2.out.1.hr, H2.out.1.ar, H2.out.1.at', H2.out.1.bn, H2.out.1.bi.mono (by omega), H2.out.1.old, H2.out.1.kp⟩⟩
  | some x =>
    obtain ⟨x0, x1⟩ := handle_range h.ar hq hx
    have Hx := Lib.hid (handle_yes h.ar hq hx)
    clear h hq hx
    go_enter Tryz.func53, Tryz.ntmps53
    go_wp2_with fail
    refine Hx.out.mono ?_
    rintro e w1 ⟨rfl, hk1⟩
    have h1 := H.out.1.same hk1
    obtain ⟨c0, _, c2, _, _, _⟩ := h1.hr.cells
    have H1 := Lib.hid (And.intro h1 (Go0.same (col := col) hk1))
    clear h1 hk1
    go_wp2_with fail
    refine (drop_any H1.out.1.bn H1.out.1.bi hN x (by omega) (by omega)).mono ?_
    rintro e w2 ⟨v, a', rfl, hd, hI, hg⟩
    have h2 := H1.out.1.stepB hg hI
    have d0 := h2.hr.cells.1
    have H2 := Lib.hid (And.intro h2 (And.intro (H1.out.2.trans (Go0.of (by omega) hg.1)) hd))
    clear hd hI hg h2 c0 c2
    go_wp2_with fail
    refine (free_word H2.out.1.ar H2.out.1.notA H.out.2).mono ?_
    rintro e w3 ⟨rfl, hA, hk2⟩
    have h3 := H2.out.1.stepA hA hk2
    have H3 := Lib.hid (And.intro h3 (H2.out.2.1.trans (Go0.of (by omega) hk2)))
    clear hA hk2 h3 d0
    go_wp2_with fail
    refine bodyPost_end (results_none rfl _ _ _) rfl ?_
    exact ⟨rfl, _, a', H3.out.2, H2.out.2.2, H3.out.1⟩
end
end Go.Proofs.YtkcmfldcdokobaaGreatDoor

/- What is reached from words: the words of a block that are looked at. -/
namespace Go.Proofs.YtkcmfldcdokobaaGreatDoor
open Go.RowKit

/-- of how many words a block's mark tells -/
def lookNum (m : Int) : Nat :=
  match markOf m with
  | some (_, n) => n.toNat
  | none => 0
/-- the words of a block that are looked at -/
def lookOf (ws : List Int) : List Int := (ws.drop 1).take (lookNum (ws[0]?.getD 0))
theorem lookOf_len (ws : List Int) : (lookOf ws).length = min (lookNum (ws[0]?.getD 0)) (ws.length - 1) := by simp [lookOf]
theorem lookOf_get (ws : List Int) {k : Nat} (hk : k < (lookOf ws).length) : ∃ x, (lookOf ws)[k]? = some x ∧ ws[k + 1]? = some x := by
  have h : k < lookNum (ws[0]?.getD 0) ∧ k < ws.length - 1 := by rw [lookOf_len] at hk; omega
  refine ⟨ws[k + 1]'(by omega), ?_, List.getElem?_eq_getElem (by omega)⟩
  unfold lookOf
  rw [List.getElem?_take, if_pos h.1, List.getElem?_drop, show 1 + k = k + 1 by omega, List.getElem?_eq_getElem (by omega)]

theorem marked_look (m : Int) (m0 : 0 ≤ m) (m1 : m ≤ 18446744073709551615) : lookNum m ≤ 1048576 ∧ ∃ (kk : Int) (ok : Bool), ∀ w : World,
    Calls Tryz.prog 139 #[.int .u64 m] w fun e w' => e = .returned (.tuple #[.int .i64 kk, .int .i64 (lookNum m), .bool ok]) ∧ w' = w := by
  unfold lookNum
  cases hk : markOf m with
  | none => exact ⟨by simp, 0, false, fun w => marked_bad m w m0 m1 (markOf_none hk)⟩
  | some p =>
    obtain ⟨k, n⟩ := p
    obtain ⟨e, h1, h2, h3, h4⟩ := markOf_some hk m0
    refine ⟨by simp only; omega, k, true, fun w => ?_⟩
    simp only
    rw [show ((n.toNat : Nat) : Int) = n by omega]
    exact marked_ok m k n w e h1 h2 h3 h4

section
variable {F : Nat → Prop} {w w' : World} {hb ab : Nat} {A : Ar} {q n : Nat}

set_option maxRecDepth 100000 in
set_option maxHeartbeats 1000000 in
theorem looked_any (h : AIn w hb ab F A) (hq : A.tk q n) (base : Nat) (v : Value) (xs : List Int) (hown : w.ownsRow base 27 1 v xs.length (words xs)) (hbase : base ≤ w.heap.size) (hX : xs.length ≤ 10000000000000) (hF : ∀ g, v.ownBlock = some g → ¬ F g ∧ g ≠ hb) :
    Calls Tryz.prog 93 #[.pointer (some ⟨hb, 0, none⟩), .int .i64 (q + 1), v] w fun e w' => ∃ v', e = .returned v' ∧ w'.ownsRow base 27 1 v' (xs ++ lookOf (blkW A q n)).length (words (xs ++ lookOf (blkW A q n))) ∧
      Kp (fun q => v.ownBlock = some q) w w' ∧ ∀ g, v'.ownBlock = some g → v.ownBlock = some g ∨ w.heap.size ≤ g := by
  have hr0 := read_any h hq 0 (by omega)
  have hrg := h.range hq 0
  have hlen := h.blkW_len hq
  have hn := (h.blk hq).2.2
  obtain ⟨ls, hls⟩ : ∃ ls, lookOf (blkW A q n) = ls := ⟨_, rfl⟩
  have hll := lookOf_len (blkW A q n)
  have hlg := fun k hk => lookOf_get (blkW A q n) (k := k) hk
  obtain ⟨m, hm⟩ : ∃ m, (blkW A q n)[0]?.getD 0 = m := ⟨_, rfl⟩
  rw [hm] at hr0 hrg hll
  rw [show ((0 : Nat) : Int) = 0 from rfl] at hr0
  rw [hls] at hll hlg
  rw [hlen] at hll
  simp only [hls]
  obtain ⟨hnn, kk, ok, hmk⟩ := marked_look m hrg.1 hrg.2
  obtain ⟨nn, hnn2⟩ : ∃ nn, lookNum m = nn := ⟨_, rfl⟩
  rw [hnn2] at hnn hmk hll
  obtain ⟨L, hLe⟩ : ∃ L, ls.length = L := ⟨_, rfl⟩
  rw [hLe] at hll hlg
  have hLn : L ≤ 1048576 := by omega
  have hlc : (∀ k : Nat, k < L → (k : Int) + 1 ≤ nn ∧ (k : Int) + 1 < n) ∧ (L + 1 ≤ nn → ¬ (L : Int) + 1 < n) := ⟨fun k hk => by omega, fun hk => by omega⟩
  have HL := Lib.hid (And.intro hLe hlc)
  have H := Lib.hid (And.intro h (And.intro hq (And.intro hr0 (And.intro hmk hlg))))
  clear hLe hlc hll
  have HF := Lib.hid hF
  clear h hq hr0 hlen hm hmk hlg hls hrg hnn2 hF
  go_enter Tryz.func93, Tryz.ntmps93
  go_wp2_with fail
  refine H.out.2.2.1.mono ?_
  rintro e w1 ⟨rfl, hk1⟩
  have h1 := H.out.1.same hk1
  have c1 := h1.ptr
  have H1 := Lib.hid (And.intro h1 (And.intro hk1 (hk1.row hown (fun _ _ e => e))))
  clear h1 hk1 hown
  go_wp2_with fail
  refine (H.out.2.2.2.1 _).mono ?_
  rintro e w2 ⟨rfl, rfl⟩
  go_wp2_with fail
  refine (len_ok H1.out.1.rep H1.out.1.lens.1 H1.out.1.lens.2 q n (H1.out.1.blk H.out.2.1).1).mono ?_
  rintro e w3 ⟨rfl, rfl⟩
  go_wp2_with fail
  go_loopg [2, 12] L (fun gk s i wr => ∃ (k : Nat) (v1 : Value), k ≤ L ∧ gk = L - k ∧ i = .int .i64 ((k : Int) + 1) ∧ v1 = s ∧ wr.ownsRow base 27 1 v1 (xs ++ ls.take k).length (words (xs ++ ls.take k)) ∧ Kp (fun q => v.ownBlock = some q) w wr ∧ ∀ g, v1.ownBlock = some g → v.ownBlock = some g ∨ w.heap.size ≤ g)
  case atStart => exact ⟨0, v, by omega, rfl, rfl, rfl, by simpa using H1.out.2.2, H1.out.2.1.mono (fun _ _ e => e.elim), fun g hg => .inl hg⟩
  case round =>
    obtain ⟨k, v1, hk, rfl, rfl, rfl, hown, hkp, hnew⟩ := hrel
    by_cases hlt : k < L
    · obtain ⟨x, hx1, hx2⟩ := H.out.2.2.2.2 k hlt
      obtain ⟨hc1, hc2⟩ := HL.out.2.1 k hlt
      have hA : AIn wr hb ab F A := H.out.1.kp hkp (fun q hF hg => (HF.out q hg).1 hF) (fun hg => (HF.out hb hg).2 rfl)
      have hrd := read_ok hA H.out.2.1 (k + 1) x hx2
      rw [show ((k + 1 : Nat) : Int) = (k : Int) + 1 by omega] at hrd
      have d0 := hA.ptr
      obtain ⟨ys, hys⟩ : ∃ ys, xs ++ ls.take k = ys := ⟨_, rfl⟩
      have hye : xs ++ ls.take (k + 1) = ys ++ [x] := by rw [← hys, List.take_add_one, hx1]; simp
      have hyl : ys.length ≤ 10000002000000 := by rw [← hys]; simp; omega
      rw [hys] at hown
      obtain ⟨i0, hi, hz0, hz1, hz2⟩ := info_parts Tryz.infoU64
      have hoA : ∀ o, (wr.alloc o).ownsRow base 27 1 v1 ys.length (words ys) := fun o => hown.alloc o
      have hnA : ∀ j u, [Value.int .u64 x][j]? = some u → (wr.alloc (.cells #[.int .u64 x] 27)).cell? ((⟨wr.heap.size, 0, none⟩ : Addr).add j) = some u :=
        World.news_of_block (cs := #[Value.int .u64 x]) (heap_alloc_new wr (.cells #[.int .u64 x] 27))
      have hone : ∀ u ∈ [Value.int .u64 x], u.oneCell' = true := by intro u hu; simp at hu; subst hu; rfl
      have hcap1 : ys.length + 1 ≤ maxLen := by unfold maxLen; omega
      have hcap2 : (ys.length + 1) * 8 ≤ 140737488355328 := by omega
      have hsz := hkp.size
      have hbase2 : ∀ o, base ≤ (wr.alloc o).heap.size := fun o => by simp; omega
      have Hc := Lib.hid (And.intro hcap1 (And.intro hcap2 (And.intro hown (And.intro hkp (And.intro hnew (And.intro hye hsz))))))
      have Hr := Lib.hid hrd
      clear hcap1 hcap2 hown hkp hnew hye hrd hx1 hx2 hys hA hsz
      go_wp2_with fail
      refine Hr.out.mono ?_
      rintro e w4 ⟨rfl, rfl⟩
      go_wp2_with (at_builtin; refine wpList_append_lies _ rfl _ _ 34 rfl base 27 i0 (.int .u64 0) 1 8 Tryz.underlying34 hi hz0 hz1 hz2 rfl (by omega) v1 ys.length _ rfl (hoA _) ⟨wr.heap.size, 0, none⟩ 1 1 [.int .u64 x] rfl rfl hnA hone (by omega) Hc.out.1 Hc.out.2.1 (hbase2 _) (wr.heap.size + 1) (by simp) ?_; intro g1 cap1 w5 hown2 hgrow hat hlt2)
      go_roundg (L - (k + 1))
      case measure => omega
      case rel =>
        refine ⟨k + 1, _, by omega, rfl, by go_num, rfl, ?_, ?_, ?_⟩
        · rw [Hc.out.2.2.2.2.2.1]
          simpa [words] using hown2
        · refine (Hc.out.2.2.2.1.alloc _).grown hgrow (fun q hq => ?_)
          exact Hc.out.2.2.2.2.1 q hq
        · intro g hg
          injection hg with hg
          subst hg
          rcases hat with e | e
          · exact Hc.out.2.2.2.2.1 _ e
          · have hz := Hc.out.2.2.2.2.2.2
            exact .inr (show w.heap.size ≤ g1 by omega)
    · obtain rfl : k = L := by omega
      by_cases hc : k + 1 ≤ nn
      · have hc2 := HL.out.2.2 hc
        have hc1 : (k : Int) + 1 ≤ nn := by omega
        have HE := Lib.hid (And.intro hown (And.intro hkp hnew))
        clear hown hkp hnew
        go_wp2_with fail
        go_ret
        have e := HE.out.1
        rw [← HL.out.1, List.take_length] at e
        exact ⟨v1, rfl, by simpa using e, HE.out.2⟩
      · have hc1 : ¬ (k : Int) + 1 ≤ nn := by omega
        have HE := Lib.hid (And.intro hown (And.intro hkp hnew))
        clear hown hkp hnew
        go_wp2_with fail
        go_ret
        have e := HE.out.1
        rw [← HL.out.1, List.take_length] at e
        exact ⟨v1, rfl, by simpa using e, HE.out.2⟩
end
end Go.Proofs.YtkcmfldcdokobaaGreatDoor
