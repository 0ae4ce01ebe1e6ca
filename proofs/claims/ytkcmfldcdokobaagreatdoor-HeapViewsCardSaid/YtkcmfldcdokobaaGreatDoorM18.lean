/- What a heap takes a block for: extent, form, handle. A heap lays a block: a mark, and the words behind it. -/
import Derived.Test.YtkcmfldcdokobaaGreatDoorM17
import Derived.Deep.LoopGhost
import Derived.LoopN
/- What a heap takes a block for: extent, form, handle. -/
namespace Go.Proofs.YtkcmfldcdokobaaGreatDoor
open Go.RowKit

/-- how many words a block with such a mark has -/
def extentOf (k n : Int) : Int := if k = 4 ∧ n = 1 then 4 else if k = 3 ∧ n = 0 then 2 else if k = 2 ∧ n = 2 then 3 else if k = 1 then 1 + n else 0

set_option maxHeartbeats 400000 in
theorem extent_any (k n : Int) (w : World) (h1 : 1 ≤ k) (h2 : k ≤ 4) (h3 : 0 ≤ n) (h4 : n ≤ 1048576) :
    Calls Tryz.prog 142 #[.int .i64 k, .int .i64 n] w fun e w' => e = .returned (.int .i64 (extentOf k n)) ∧ w = w' := by
  have hk : k = 1 ∨ k = 2 ∨ k = 3 ∨ k = 4 := by omega
  rcases hk with rfl | rfl | rfl | rfl
  · rw [show extentOf 1 n = 1 + n by simp [extentOf]]
    go_enter Tryz.func142, Tryz.ntmps142
    go_wp2_with fail
    go_ret
    exact ⟨rfl, rfl⟩
  · by_cases hn : n = 2
    · subst hn
      go_enter Tryz.func142, Tryz.ntmps142
      go_wp2_with fail
      go_ret
      exact ⟨rfl, rfl⟩
    · rw [show extentOf 2 n = 0 by simp [extentOf, hn]]
      have q1 : (n == 2) = false := by simpa using hn
      go_enter Tryz.func142, Tryz.ntmps142
      go_wp2_with fail
      go_ret
      exact ⟨rfl, rfl⟩
  · by_cases hn : n = 0
    · subst hn
      go_enter Tryz.func142, Tryz.ntmps142
      go_wp2_with fail
      go_ret
      exact ⟨rfl, rfl⟩
    · rw [show extentOf 3 n = 0 by simp [extentOf, hn]]
      have q1 : (n == 0) = false := by simpa using hn
      go_enter Tryz.func142, Tryz.ntmps142
      go_wp2_with fail
      go_ret
      exact ⟨rfl, rfl⟩
  · by_cases hn : n = 1
    · subst hn
      go_enter Tryz.func142, Tryz.ntmps142
      go_wp2_with fail
      go_ret
      exact ⟨rfl, rfl⟩
    · rw [show extentOf 4 n = 0 by simp [extentOf, hn]]
      have q1 : (n == 1) = false := by simpa using hn
      go_enter Tryz.func142, Tryz.ntmps142
      go_wp2_with fail
      go_ret
      exact ⟨rfl, rfl⟩

/-- a mark's kind and number, of any word -/
def markOf (m : Int) : Option (Int × Int) := if m % 8 = 7 ∧ 1 ≤ m / 8 % 8 ∧ m / 8 % 8 ≤ 4 ∧ m / 64 ≤ 1048576 then some (m / 8 % 8, m / 64) else none
theorem markOf_some {m k n : Int} (h : markOf m = some (k, n)) (h0 : 0 ≤ m) : m = n * 64 + k * 8 + 7 ∧ 1 ≤ k ∧ k ≤ 4 ∧ 0 ≤ n ∧ n ≤ 1048576 := by
  unfold markOf at h
  split at h
  · injection h with h
    injection h with h1 h2
    subst h1 h2
    omega
  · cases h
theorem markOf_none {m : Int} (h : markOf m = none) : badMarked m := by
  unfold markOf at h
  split at h
  · cases h
  · unfold badMarked
    omega
/-- of which form a block is, by its words -/
def formOf (ws : List Int) : Int :=
  match markOf (ws[0]?.getD 0) with
  | some (k, n) => if (ws.length : Int) = extentOf k n then k else 0
  | none => 0
/-- the handle that a block holds -/
def handleOf (ws : List Int) : Option Int := if formOf ws = 4 ∧ (ws[1]?.getD 0) % 8 = 6 then some ((ws[1]?.getD 0) / 8) else none

section
variable {F : Nat → Prop} {w w' : World} {hb ab : Nat} {A : Ar} {q n : Nat}

/-- read of any place of a block -/
theorem read_any (h : AIn w hb ab F A) (hq : A.tk q n) (i : Nat) (hi : i ≤ 2000000) :
    Calls Tryz.prog 57 #[.pointer (some ⟨hb, 0, none⟩), .int .i64 (q + 1), .int .i64 i] w fun e w' => e = .returned (.int .u64 ((blkW A q n)[i]?.getD 0)) ∧ Kp (fun _ => False) w w' := by
  cases hx : (blkW A q n)[i]? with
  | some x => exact (read_ok h hq i x hx).mono fun e w' ⟨he, hw⟩ => ⟨he, hw ▸ Kp.refl _ _⟩
  | none =>
    have := List.getElem?_eq_none_iff.1 hx
    rw [h.blkW_len hq] at this
    exact read_no h hq i this hi
theorem AIn.range (h : AIn w hb ab F A) (_hq : A.tk q n) (i : Nat) : 0 ≤ (blkW A q n)[i]?.getD 0 ∧ (blkW A q n)[i]?.getD 0 ≤ 18446744073709551615 := by
  cases hx : (blkW A q n)[i]? with
  | some x => exact h.word _ x (blkW_get hx).2
  | none => simp

set_option maxHeartbeats 1000000 in
theorem form_any (h : AIn w hb ab F A) (hq : A.tk q n) :
    Calls Tryz.prog 99 #[.pointer (some ⟨hb, 0, none⟩), .int .i64 (q + 1)] w fun e w' => e = .returned (.int .i64 (formOf (blkW A q n))) ∧ Kp (fun _ => False) w w' := by
  have hr0 := read_any h hq 0 (by omega)
  have hrg := h.range hq 0
  have hlen := h.blkW_len hq
  have hn := (h.blk hq).2.2
  obtain ⟨m, hm⟩ : ∃ m, (blkW A q n)[0]?.getD 0 = m := ⟨_, rfl⟩
  obtain ⟨fo, hfo⟩ : ∃ fo, formOf (blkW A q n) = fo := ⟨_, rfl⟩
  have hfo2 := hfo
  unfold formOf at hfo2
  rw [hm] at hr0 hrg hfo2
  rw [hfo, show ((0 : Nat) : Int) = 0 from rfl] at *
  have H := Lib.hid (And.intro h (And.intro hq (And.intro hr0 hlen)))
  obtain ⟨m0, m1⟩ := hrg
  clear h hq hr0 hlen hm hfo
  cases hk : markOf m with
  | none =>
    rw [hk] at hfo2
    have hbm := markOf_none hk
    simp only at hfo2
    subst hfo2
    have Hb := Lib.hid hbm
    clear hk hbm
    go_enter Tryz.func99, Tryz.ntmps99
    go_wp2_with fail
    refine H.out.2.2.1.mono ?_
    rintro e w1 ⟨rfl, hk1⟩
    have h1 := H.out.1.same hk1
    have c1 := h1.ptr
    have H1 := Lib.hid (And.intro h1 hk1)
    clear h1 hk1
    go_wp2_with fail
    refine (marked_bad m w1 m0 m1 Hb.out).mono ?_
    rintro e w' ⟨rfl, rfl⟩
    go_wp2_with fail
    refine (len_ok H1.out.1.rep H1.out.1.lens.1 H1.out.1.lens.2 q n (H1.out.1.blk H.out.2.1).1).mono ?_
    rintro e w' ⟨rfl, rfl⟩
    go_wp2_with fail
    go_ret
    exact ⟨rfl, H1.out.2⟩
  | some p =>
    obtain ⟨k, nn⟩ := p
    rw [hk] at hfo2
    obtain ⟨hm, k1, k2, n1, n2⟩ := markOf_some hk m0
    have Hm := Lib.hid (And.intro hm (And.intro hfo2 H.out.2.2.2))
    clear hk hm hfo2
    go_enter Tryz.func99, Tryz.ntmps99
    go_wp2_with fail
    refine H.out.2.2.1.mono ?_
    rintro e w1 ⟨rfl, hk1⟩
    have h1 := H.out.1.same hk1
    have c1 := h1.ptr
    have H1 := Lib.hid (And.intro h1 hk1)
    clear h1 hk1
    go_wp2_with fail
    refine (marked_ok m k nn w1 Hm.out.1 k1 k2 n1 n2).mono ?_
    rintro e w' ⟨rfl, rfl⟩
    go_wp2_with fail
    refine (len_ok H1.out.1.rep H1.out.1.lens.1 H1.out.1.lens.2 q n (H1.out.1.blk H.out.2.1).1).mono ?_
    rintro e w' ⟨rfl, rfl⟩
    go_wp2_with fail
    refine (extent_any k nn _ k1 k2 n1 n2).mono ?_
    rintro e w' ⟨rfl, rfl⟩
    obtain ⟨x, hx⟩ : ∃ x, extentOf k nn = x := ⟨_, rfl⟩
    rw [hx]
    have hfo3 := Hm.out.2.1
    simp only [Hm.out.2.2, hx] at hfo3
    by_cases hnx : (n : Int) = x
    · subst hnx
      rw [if_pos rfl] at hfo3
      subst hfo3
      clear hx
      go_wp2_with fail
      go_ret
      exact ⟨rfl, H1.out.2⟩
    · rw [if_neg hnx] at hfo3
      subst hfo3
      have q1 : ((n : Int) != x) = true := by simpa using hnx
      clear hx hnx
      go_wp2_with fail
      go_ret
      exact ⟨rfl, H1.out.2⟩

set_option maxHeartbeats 1000000 in
theorem handle_yes (h : AIn w hb ab F A) (hq : A.tk q n) {x : Int} (hx : handleOf (blkW A q n) = some x) :
    Calls Tryz.prog 58 #[.pointer (some ⟨hb, 0, none⟩), .int .i64 (q + 1)] w fun e w' => e = .returned (.tuple #[.int .i64 x, .bool true]) ∧ Kp (fun _ => False) w w' := by
  have hr1 := read_any h hq 1 (by omega)
  have hrg := h.range hq 1
  unfold handleOf at hx
  split at hx
  · rename_i hc
    injection hx with hx
    obtain ⟨hf4, h6⟩ := hc
    obtain ⟨m, hm⟩ : ∃ m, (blkW A q n)[1]?.getD 0 = m := ⟨_, rfl⟩
    rw [hm] at hr1 hrg hx h6
    obtain ⟨m0, m1⟩ := hrg
    have e1 : bits BinOp.and IntKind.u64 m 7 = 6 := by rw [and_low3 m m0 m1]; exact h6
    have H := Lib.hid (And.intro h (And.intro hq (And.intro hr1 hf4)))
    subst hx
    clear h hq hr1 hf4 hm h6
    go_enter Tryz.func58, Tryz.ntmps58
    go_wp2_with fail
    refine H.out.2.2.1.mono ?_
    rintro e w1 ⟨rfl, hk1⟩
    have h1 := H.out.1.same hk1
    have H1 := Lib.hid (And.intro h1 hk1)
    have hfm := form_any h1 H.out.2.1
    rw [H.out.2.2.2] at hfm
    have Hfm := Lib.hid hfm
    clear h1 hk1 hfm
    go_wp2_with fail
    refine Hfm.out.mono ?_
    rintro e w2 ⟨rfl, hk2⟩
    have H2 := Lib.hid (H1.out.2.trans' hk2)
    clear hk2
    go_wp2_with fail
    go_ret2
    exact ⟨rfl, H2.out⟩
  · cases hx

set_option maxHeartbeats 1000000 in
theorem handle_no (h : AIn w hb ab F A) (hq : A.tk q n) (hx : handleOf (blkW A q n) = none) :
    Calls Tryz.prog 58 #[.pointer (some ⟨hb, 0, none⟩), .int .i64 (q + 1)] w fun e w' => e = .returned (.tuple #[.int .i64 0, .bool false]) ∧ Kp (fun _ => False) w w' := by
  have hr1 := read_any h hq 1 (by omega)
  have hrg := h.range hq 1
  unfold handleOf at hx
  split at hx
  · cases hx
  · rename_i hc
    obtain ⟨m, hm⟩ : ∃ m, (blkW A q n)[1]?.getD 0 = m := ⟨_, rfl⟩
    obtain ⟨fo, hfo⟩ : ∃ fo, formOf (blkW A q n) = fo := ⟨_, rfl⟩
    rw [hm] at hr1 hrg hc
    rw [hfo] at hc
    obtain ⟨m0, m1⟩ := hrg
    obtain ⟨r, e1, er⟩ : ∃ r, bits BinOp.and IntKind.u64 m 7 = r ∧ r = m % 8 := ⟨_, and_low3 m m0 m1, rfl⟩
    have H := Lib.hid (And.intro h (And.intro hq (And.intro hr1 hfo)))
    have hcase : fo ≠ 4 ∨ (fo = 4 ∧ r ≠ 6) := by omega
    clear h hq hr1 hm hfo hc er
    rcases hcase with hne | ⟨rfl, hne⟩
    · have q1 : (fo != 4) = true := by simpa using hne
      clear hne
      go_enter Tryz.func58, Tryz.ntmps58
      go_wp2_with fail
      refine H.out.2.2.1.mono ?_
      rintro e w1 ⟨rfl, hk1⟩
      have h1 := H.out.1.same hk1
      have H1 := Lib.hid (And.intro h1 hk1)
      have hfm := form_any h1 H.out.2.1
      rw [H.out.2.2.2] at hfm
      have Hfm := Lib.hid hfm
      clear h1 hk1 hfm
      go_wp2_with fail
      refine Hfm.out.mono ?_
      rintro e w2 ⟨rfl, hk2⟩
      have H2 := Lib.hid (H1.out.2.trans' hk2)
      clear hk2
      go_wp2_with fail
      go_ret2
      exact ⟨rfl, H2.out⟩
    · have q1 : (r != 6) = true := by simpa using hne
      clear hne
      go_enter Tryz.func58, Tryz.ntmps58
      go_wp2_with fail
      refine H.out.2.2.1.mono ?_
      rintro e w1 ⟨rfl, hk1⟩
      have h1 := H.out.1.same hk1
      have H1 := Lib.hid (And.intro h1 hk1)
      have hfm := form_any h1 H.out.2.1
      rw [H.out.2.2.2] at hfm
      have Hfm := Lib.hid hfm
      clear h1 hk1 hfm
      go_wp2_with fail
      refine Hfm.out.mono ?_
      rintro e w2 ⟨rfl, hk2⟩
      have H2 := Lib.hid (H1.out.2.trans' hk2)
      clear hk2
      go_wp2_with fail
      go_ret2
      exact ⟨rfl, H2.out⟩
end
end Go.Proofs.YtkcmfldcdokobaaGreatDoor

/- A heap lays a block: a mark, and the words behind it. -/
namespace Go.Proofs.YtkcmfldcdokobaaGreatDoor
open Go.RowKit

/-- a slice of words, in blocks of G -/
def WordsAt (G : Nat → Prop) (w : World) (l : List Int) (v : Value) : Prop :=
  ∃ po cap, v = .slice po l.length cap ∧ l.length ≤ cap ∧ ∀ (i : Nat) (x : Int), l[i]? = some x → ∃ b off, po = some ⟨b, off, none⟩ ∧ G b ∧ w.cell? ⟨b, off + i, none⟩ = some (.int .u64 x)
def putAll (A : Ar) : Nat → List Int → Ar
  | _, [] => A
  | j, x :: l => putAll (A.put j x) (j + 1) l
theorem putAll_snoc (x : Int) : ∀ (A : Ar) (j : Nat) (l : List Int), putAll A j (l ++ [x]) = (putAll A j l).put (j + l.length) x
  | _, _, [] => rfl
  | A, j, y :: l => by
    rw [List.cons_append]
    show putAll (A.put j y) (j + 1) (l ++ [x]) = (putAll (A.put j y) (j + 1) l).put (j + (l.length + 1)) x
    rw [putAll_snoc x (A.put j y) (j + 1) l, show j + 1 + l.length = j + (l.length + 1) by omega]
/-- all numbers are words -/
def Wordy (A : Ar) : Prop := ∀ (i : Nat) (x : Int), A.places[i]? = some x → 0 ≤ x ∧ x ≤ 18446744073709551615
theorem Wordy.put {A : Ar} (h : Wordy A) (j : Nat) {x : Int} (h0 : 0 ≤ x) (h1 : x ≤ 18446744073709551615) : Wordy (A.put j x) := fun i y hy => by
  have hy' : (A.places.set j x)[i]? = some y := hy
  rw [List.getElem?_set] at hy'
  split at hy'
  · split at hy'
    · injection hy' with e; omega
    · cases hy'
  · exact h i y hy'
theorem Found.wordy {A A1 : Ar} {c own : Nat} (hf : Found A c own A1) (h : Wordy A) : Wordy A1 := by
  rcases hf with ⟨l, h1, rfl⟩ | ⟨h1, h2, rfl, rfl⟩ | ⟨h1, h2, d, l, h3, h4, h5, h6, rfl⟩
  · exact h
  · intro i x hx
    have hx' : (A.places ++ List.replicate (2 ^ c) 0)[i]? = some x := hx
    rw [List.getElem?_append] at hx'
    split at hx'
    · exact h i x hx'
    · rw [List.getElem?_replicate] at hx'
      split at hx'
      · injection hx' with e; omega
      · cases hx'
  · exact h
theorem took_wordy {A : Ar} {own c n : Nat} (h : Wordy A) (hn : n ≤ 1048576) (hl : own + 1 + n ≤ A.places.length) : Wordy (A.took own c n) := fun i x hx => by
  by_cases hi : i < own ∨ own + 1 + n ≤ i
  · rw [took_far hl hi] at hx
    exact h i x hx
  · by_cases he : i = own
    · subst he
      have hx' : (zeroed (A.places.set i n) (i + 1) n)[i]? = some x := hx
      rw [zeroed_below _ _ _ _ (by simpa using hl) (by omega), List.getElem?_set] at hx'
      simp at hx'
      omega
    · obtain ⟨j, rfl⟩ : ∃ j, i = own + 1 + j := ⟨i - (own + 1), by omega⟩
      rw [took_zero hl (by omega)] at hx
      injection hx with e; omega

section
variable {F G : Nat → Prop} {w w' : World} {hb ab : Nat} {A : Ar} {q n : Nat}
theorem putAll_tk {A : Ar} {q n : Nat} : ∀ (l : List Int) (i : Nat), Inv A [] → A.tk q n → i + l.length ≤ n → Inv (putAll A (q + 1 + i) l) [] ∧ ∀ p m, (putAll A (q + 1 + i) l).tk p m ↔ A.tk p m
  | [], _, h, _, _ => ⟨h, fun _ _ => Iff.rfl⟩
  | x :: l, i, h, hq, hl => by
    simp at hl
    have h1 := h.put hq (i := i) (x := x) (by omega)
    have h2 := fun p m => put_tk h hq (i := i) (x := x) (by omega) p m
    have h3 := putAll_tk l (i + 1) h1 ((h2 q n).2 hq) (by omega)
    exact ⟨h3.1, fun p m => (h3.2 p m).trans (h2 p m)⟩
theorem putAll_len : ∀ (A : Ar) (j : Nat) (l : List Int), (putAll A j l).places.length = A.places.length
  | _, _, [] => rfl
  | A, j, x :: l => by
    show (putAll (A.put j x) (j + 1) l).places.length = _
    rw [putAll_len]
    simp [Ar.put]
theorem putAll_wordy : ∀ (A : Ar) (j : Nat) (l : List Int), Wordy A → (∀ x ∈ l, 0 ≤ x ∧ x ≤ 18446744073709551615) → Wordy (putAll A j l)
  | _, _, [], h, _ => h
  | A, j, x :: l, h, hl => putAll_wordy (A.put j x) (j + 1) l (h.put j (hl x (by simp)).1 (hl x (by simp)).2) (fun y hy => hl y (by simp [hy]))

def allocS : ByteArray := ⟨#[97, 108, 108, 111, 99]⟩
/-- what comes of a block that is laid -/
def Laid (A : Ar) (ws : List Int) (own : Nat) (A' : Ar) : Prop := ∃ A1, Found A (cls ws.length) own A1 ∧ cls ws.length ≤ 20 ∧ A.used + 2 ^ cls ws.length ≤ A.quota ∧ A' = putAll (A1.took own (cls ws.length) ws.length) (own + 1) ws

theorem AIn.more (h : AIn w hb ab F A) (hFG : ∀ k, F k → G k) (hlt : ∀ k, G k → k < w.heap.size) : AIn w hb ab G A := ⟨h.ptr, h.rep.more' hFG hlt, h.inv, h.word⟩
theorem AIn.lt (h : AIn w hb ab F A) : ∀ q, F q → q < w.heap.size := by
  obtain ⟨sl, hR⟩ := h.rep
  exact hR.lt

/-- a word of a block is written -/
theorem set_word (h : AIn w hb ab F A) (hF : ¬ F hb) (hq : A.tk q n) (i : Nat) (hi : i < n) (x : Int) (h0 : 0 ≤ x) (h1 : x ≤ 18446744073709551615) (ii : Int) (hii : ii = i) :
    Calls Tryz.prog 97 #[.pointer (some ⟨ab, 0, none⟩), .int .i64 (q + 1), .int .i64 ii, .int .u64 x] w fun e w' => e = .returned .nilIface ∧ AIn w' hb ab F (A.put (q + 1 + i) x) ∧ Kp F w w' := by
  subst hii
  have hb := h.blk hq
  refine (set_ok h.rep h.lens.1 h.lens.2 q n i x hb.1 hi (by omega)).mono ?_
  rintro e w' ⟨rfl, hR, hk, _⟩
  exact ⟨rfl, ⟨(hk.cell (World.block_lt_of_cell? _ _ h.ptr) hF).trans h.ptr, hR, h.inv.put hq hi, Wordy.put h.word _ h0 h1⟩, hk⟩

/-- a block is taken -/
theorem alloc_word (h : AIn w hb ab F A) (hF : ¬ F hb) (hn : n ≤ 1048576) (nn : Int) (hnn : nn = n) :
    Calls Tryz.prog 96 #[.pointer (some ⟨ab, 0, none⟩), .int .i64 nn] w fun e w' =>
      (∃ own A1, Found A (cls n) own A1 ∧ cls n ≤ 20 ∧ A.used + 2 ^ cls n ≤ A.quota ∧ (A1.took own (cls n) n).tk own n ∧ e = .returned (.tuple #[.int .i64 ((own : Nat) + 1), .nilIface]) ∧ AIn w' hb ab (Ext F w w') (A1.took own (cls n) n) ∧ Kp F w w') ∨
      ((A.quota < A.used + 2 ^ cls n ∨ Nowhere A (cls n)) ∧ EBad w (fun v => .tuple #[.int .i64 0, v]) [Lk.fault allocS nn, Lk.kind 2] e w') := by
  subst hnn
  refine (alloc_any h.rep h.inv n hn).mono ?_
  rintro e w' (⟨own, A1, hq, hc, hf, rfl, hR, hk⟩ | ⟨hno, v, rfl, ⟨g, hg, rfl, hgc⟩, _, _, hk⟩)
  · have hcs := cls_spec n hn
    have hi1 := hf.inv h.inv hcs.1 hc
    have hbd := hi1.bnd own (cls n) (.inr (.inr (by simp)))
    have hsame := hf.same
    refine .inl ⟨own, A1, hf, hc, hq, (took_tk hi1 hn own n).2 (.inl ⟨rfl, rfl⟩), rfl, ⟨(hk.cell (World.block_lt_of_cell? _ _ h.ptr) hF).trans h.ptr, hR, hi1.took hn (by rw [hsame.1, hsame.2.1]; exact hq), took_wordy (hf.wordy h.word) hn (by omega)⟩, hk⟩
  · exact .inr ⟨hno, _, rfl, ChainB.cons allocS n (ChainB.root _ _ (by decide)) hg hgc, hk⟩

set_option maxRecDepth 100000 in
set_option maxHeartbeats 2000000 in
theorem lay_any (h : AIn w hb ab F A) (hF : ¬ F hb) (k m : Int) (hk1 : 1 ≤ k) (hk2 : k ≤ 4) (hm1 : 0 ≤ m) (hm2 : m ≤ 1048576) {l : List Int} {v : Value} (hv : WordsAt G w l v) (hG : ∀ q, G q → ¬ F q) (hl : l.length ≤ 65536) (hw : ∀ x ∈ l, 0 ≤ x ∧ x ≤ 18446744073709551615) :
    Calls Tryz.prog 56 #[.pointer (some ⟨hb, 0, none⟩), .int .i64 k, .int .i64 m, v] w fun e w' =>
      (∃ own A', Laid A ((m * 64 + k * 8 + 7) :: l) own A' ∧ e = .returned (.tuple #[.int .u64 (((own : Nat) + 1 : Int) * 8 + 5), .nilIface]) ∧ AIn w' hb ab (Ext F w w') A' ∧ Kp F w w') ∨
      ((A.quota < A.used + 2 ^ cls (l.length + 1) ∨ Nowhere A (cls (l.length + 1))) ∧ EBad w (fun v => .tuple #[.int .u64 0, v]) [Lk.fault allocS (l.length + 1 : Nat), Lk.kind 2] e w') := by
  obtain ⟨po, cap, rfl, hcap, hel⟩ := hv
  obtain ⟨L, hL, hL2⟩ : ∃ L, l.length = L ∧ L ≤ 65536 := ⟨_, rfl, hl⟩
  have H := Lib.hid (And.intro h (And.intro hF (And.intro hel (And.intro hG (And.intro hL hw)))))
  rw [hL] at hcap ⊢
  clear h hF hel hG hL hw hl
  go_enter Tryz.func56, Tryz.ntmps56
  go_wp2_with fail
  refine (mark_ok k m w hk1 hk2 hm1 hm2).mono ?_
  rintro e w1 ⟨rfl, hw1⟩
  subst hw1
  have c0 := H.out.1.ptr
  go_wp2_with fail
  refine (alloc_word H.out.1 H.out.2.1 (n := L + 1) (by omega) (1 + (L : Int)) (by omega)).mono ?_
  rintro e w2 (⟨own, A1, hf, hc, hq, htk, rfl, hA, hk⟩ | ⟨hno, v, rfl, hch, hk⟩)
  · have hF2 : ¬ Ext F w1 w2 hb := fun e => by
      rcases e with e | e
      · exact H.out.2.1 e
      · have hlt : hb < _ := World.block_lt_of_cell? _ _ H.out.1.ptr
        have := e.1
        omega
    have hown : own + 1 + (L + 1) ≤ 1048576 := by
      have h1 := (hA.blk htk).2.1
      have h2 := hA.lens.2
      omega
    have H2 := Lib.hid (And.intro hA (And.intro hk (And.intro hF2 (And.intro htk (And.intro hf (And.intro hc hq))))))
    have c1 := hA.ptr
    clear hA hk hF2 htk hf hc hq
    go_wp2_with fail
    refine (set_word H2.out.1 H2.out.2.2.1 H2.out.2.2.2.1 0 (by omega) (m * 64 + k * 8 + 7) (by omega) (by omega) 0 rfl).mono ?_
    rintro e w3 ⟨rfl, hA, hk⟩
    have H3 := Lib.hid (And.intro hA hk)
    clear hA hk c0 c1
    go_wp2_with fail
    go_loopg [45] L (fun gk i wr => ∃ j : Nat, j ≤ L ∧ gk = L - j ∧ i = Value.int .i64 j ∧ AIn wr hb ab (Ext F w1 w2) (putAll (A1.took own (cls (L + 1)) (L + 1)) (own + 1) ((m * 64 + k * 8 + 7) :: l.take j)) ∧ Kp (Ext F w1 w2) w2 wr)
    case atStart => exact ⟨0, by omega, rfl, rfl, H3.out.1, H3.out.2⟩
    case round =>
      clear H3
      obtain ⟨j, hj, rfl, rfl, hA, hk⟩ := hrel
      by_cases hlt : j < L
      · obtain ⟨x, hx⟩ : ∃ x, l[j]? = some x := ⟨_, List.getElem?_eq_getElem (by rw [H.out.2.2.2.2.1]; exact hlt)⟩
        obtain ⟨b, off, rfl, hGb, hcell⟩ := H.out.2.2.1 j x hx
        have hbl := World.block_lt_of_cell? _ _ hcell
        have hcell2 := (hk.cell (p := ⟨b, off + j, none⟩) (Nat.lt_of_lt_of_le hbl H2.out.2.1.size) (fun e => by
          rcases e with e | e
          · exact H.out.2.2.2.1 b hGb e
          · have hb2 : b < _ := hbl
            have := e.1
            omega)).trans ((H2.out.2.1.cell (p := ⟨b, off + j, none⟩) hbl (fun e => H.out.2.2.2.1 b hGb e)).trans hcell)
        have hwx := H.out.2.2.2.2.2 x (List.mem_of_getElem? hx)
        have htk2 := (putAll_tk ((m * 64 + k * 8 + 7) :: l.take j) 0 (by have := H2.out.1.inv; exact this) H2.out.2.2.2.1 (by simp; omega)).2 own (L + 1)
        have Hj := Lib.hid (And.intro hA (And.intro hk (And.intro hx (htk2.2 H2.out.2.2.2.1))))
        have c1 := hA.ptr
        have hli : (j : Int) < L := by omega
        clear hA hk hx hcell hbl htk2
        go_wp2_with fail
        refine (set_word Hj.out.1 H2.out.2.2.1 Hj.out.2.2.2 (1 + j) (by omega) x hwx.1 hwx.2 (1 + (j : Int)) (by omega)).mono ?_
        rintro e w4 ⟨rfl, hA, hk⟩
        have hst : putAll (A1.took own (cls (L + 1)) (L + 1)) (own + 1) ((m * 64 + k * 8 + 7) :: l.take (j + 1)) = (putAll (A1.took own (cls (L + 1)) (L + 1)) (own + 1) ((m * 64 + k * 8 + 7) :: l.take j)).put (own + 1 + (1 + j)) x := by
          rw [List.take_add_one, Hj.out.2.2.1]
          show putAll _ _ (((m * 64 + k * 8 + 7) :: l.take j) ++ [x]) = _
          rw [putAll_snoc]
          congr 1
          have := H.out.2.2.2.2.1
          simp
          omega
        have H4 := Lib.hid (And.intro hst (And.intro hA (Hj.out.2.1.trans' hk)))
        clear hA hk hst c1 hcell2
        go_wp2_with fail
        go_roundg (L - (j + 1))
        case measure => omega
        case rel => exact ⟨j + 1, by omega, rfl, by go_num, by rw [H4.out.1]; exact H4.out.2.1, H4.out.2.2⟩
      · obtain rfl : j = L := by omega
        have Hj := Lib.hid (And.intro hA hk)
        clear hA hk
        go_wp2_with fail
        refine (tagged_any ((own : Int) + 1) 5 _ (by omega) (by omega) (by omega) (by omega)).mono ?_
        rintro e w' ⟨rfl, rfl⟩
        go_wp2_with fail
        go_ret2
        have hll := H.out.2.2.2.2.1
        refine .inl ⟨own, _, ⟨A1, by rw [List.length_cons, hll]; exact H2.out.2.2.2.2.1, by rw [List.length_cons, hll]; exact H2.out.2.2.2.2.2.1, by rw [List.length_cons, hll]; exact H2.out.2.2.2.2.2.2, rfl⟩, rfl, ?_, H2.out.2.1.trans Hj.out.2⟩
        rw [List.length_cons, hll]
        have := Hj.out.1
        rw [List.take_of_length_le (by omega)] at this
        refine this.more (fun q hq => ?_) (fun q hq => ?_)
        · rcases hq with hq | hq
          · exact .inl hq
          · have := Hj.out.2.size
            exact .inr ⟨hq.1, by omega⟩
        · rcases hq with hq | hq
          · have := H.out.1.lt q hq
            have h1 := H2.out.2.1.size
            have h2 := Hj.out.2.size
            omega
          · exact hq.2
  · obtain ⟨g, rfl⟩ := Chain.form hch.out
    have H2 := Lib.hid (And.intro hno (And.intro hch hk))
    clear hno hch hk
    go_wp2_with fail
    go_ret2
    refine .inr ⟨H2.out.1, _, rfl, ?_, H2.out.2.2⟩
    have := H2.out.2.1
    rw [show (1 + (L : Int)) = ((L + 1 : Nat) : Int) by omega] at this
    exact this
end
end Go.Proofs.YtkcmfldcdokobaaGreatDoor
