/- Numbers, bytes in groups of seven bits: as plain data. A term in memory, of whatever depth: as a tree. Slices of bytes: what CopyBytes, copied and a conversion to a string make of them. -/
import Derived.Test.YtpdepmkojbpklaaDoorProg
import Derived.Test.YtpdepmkojbpklaaDoorM01
import Derived.WalkKit
import Derived.Lib.Hide
import Derived.Laws.BytesArg
import Derived.OwnWalk
import Derived.Laws.CopyOwn
import Derived.WalkSpells
import Derived.WalkLawsBesides
/- Numbers, bytes in groups of seven bits: as plain data. -/
namespace Go
/-- a number in groups of seven bits, the lowest first -/
def encNat (n : Nat) : List UInt8 := if n < 128 then [UInt8.ofNat n] else UInt8.ofNat (n % 128 + 128) :: encNat (n / 128)
termination_by n
decreasing_by omega

/-- what groups say -/
def lowN : List UInt8 → Nat
  | [] => 0
  | b :: l => b.toNat % 128 + 128 * lowN l

theorem encNat_small {n : Nat} (h : n < 128) : encNat n = [UInt8.ofNat n] := by rw [encNat, if_pos h]
theorem encNat_big {n : Nat} (h : ¬ n < 128) : encNat n = UInt8.ofNat (n % 128 + 128) :: encNat (n / 128) := by rw [encNat, if_neg h]
theorem u8_of {n : Nat} (h : n < 256) : (UInt8.ofNat n).toNat = n := by simp; omega
theorem u8_ext {a b : UInt8} (h : a.toNat = b.toNat) : a = b := UInt8.toNat_inj.1 h

theorem lowN_append (l : List UInt8) (c : UInt8) : lowN (l ++ [c]) = lowN l + c.toNat % 128 * 128 ^ l.length := by
  induction l with
  | nil => simp [lowN]
  | cons b l ih =>
    simp only [List.cons_append, lowN, ih, List.length_cons, Nat.pow_succ]
    rw [Nat.mul_add, Nat.mul_left_comm 128, Nat.mul_comm 128 (128 ^ l.length)]; omega
theorem lowN_lt (l : List UInt8) : lowN l < 128 ^ l.length := by
  induction l with
  | nil => simp [lowN]
  | cons b l ih => simp only [lowN, List.length_cons, Nat.pow_succ]; omega

theorem encNat_low : ∀ {l : List UInt8} {c : UInt8}, (∀ b ∈ l, 128 ≤ b.toNat) → c.toNat < 128 → (l = [] ∨ c.toNat ≠ 0) → encNat (lowN (l ++ [c])) = l ++ [c]
  | [], c, _, h2, _ => by
    have : lowN ([] ++ [c]) = c.toNat := by simp [lowN]; omega
    rw [this, encNat_small h2]
    simp
  | b :: l, c, h1, h2, h3 => by
    have hb := h1 b List.mem_cons_self
    have hb2 := b.toNat_lt
    have hc : c.toNat ≠ 0 := h3.resolve_left (by simp)
    have ih := encNat_low (l := l) (c := c) (fun x hx => h1 x (List.mem_cons_of_mem _ hx)) h2 (.inr hc)
    have hp : 0 < lowN (l ++ [c]) := by
      rw [lowN_append]
      have : 0 < c.toNat % 128 * 128 ^ l.length := Nat.mul_pos (by omega) (Nat.pow_pos (by omega))
      omega
    have e : lowN (b :: l ++ [c]) = b.toNat % 128 + 128 * lowN (l ++ [c]) := rfl
    rw [e, encNat_big (by omega), show (b.toNat % 128 + 128 * lowN (l ++ [c])) / 128 = lowN (l ++ [c]) by omega, ih, show (b.toNat % 128 + 128 * lowN (l ++ [c])) % 128 + 128 = b.toNat by omega]
    simp

/-- the form of a number's groups -/
theorem encNat_form (n : Nat) : ∃ l c, encNat n = l ++ [c] ∧ (∀ b ∈ l, 128 ≤ b.toNat) ∧ c.toNat < 128 ∧ (l = [] ∨ c.toNat ≠ 0) ∧ lowN (l ++ [c]) = n := by
  induction n using Nat.strongRecOn with
  | ind n ih =>
    by_cases h : n < 128
    · exact ⟨[], UInt8.ofNat n, by rw [encNat_small h]; rfl, by simp, by rw [u8_of (by omega)]; exact h, .inl rfl, by simp [lowN]; omega⟩
    · obtain ⟨l, c, e, h1, h2, h3, h4⟩ := ih (n / 128) (by omega)
      refine ⟨UInt8.ofNat (n % 128 + 128) :: l, c, by rw [encNat_big h, e]; rfl, ?_, h2, .inr ?_, ?_⟩
      · intro b hb
        rcases List.mem_cons.1 hb with rfl | hb
        · rw [u8_of (by omega)]; omega
        · exact h1 b hb
      · rcases h3 with rfl | h3
        · intro h0
          simp [lowN, h0] at h4
          omega
        · exact h3
      · show (UInt8.ofNat (n % 128 + 128)).toNat % 128 + 128 * lowN (l ++ [c]) = n
        rw [u8_of (by omega), h4]; omega
theorem encNat_lowN (n : Nat) : lowN (encNat n) = n := by
  obtain ⟨l, c, e, _, _, _, h⟩ := encNat_form n
  rw [e, h]

/-- groups end where their first small byte stands -/
theorem groups_cut : ∀ {l l' : List UInt8} {c c' : UInt8} {x y : List UInt8}, (∀ b ∈ l, 128 ≤ b.toNat) → c.toNat < 128 → (∀ b ∈ l', 128 ≤ b.toNat) → c'.toNat < 128 → l ++ c :: x = l' ++ c' :: y → l = l' ∧ c = c' ∧ x = y
  | [], [], _, _, _, _, _, _, _, _, h => by simp at h; exact ⟨rfl, h⟩
  | [], b :: l', c, _, _, _, _, h2, h3, _, h => by
    simp at h
    have := h3 b List.mem_cons_self
    rw [← h.1] at this; omega
  | b :: l, [], _, _, _, _, h1, _, _, h4, h => by
    simp at h
    have := h1 b List.mem_cons_self
    rw [h.1] at this; omega
  | b :: l, b' :: l', c, c', x, y, h1, h2, h3, h4, h => by
    simp at h
    obtain ⟨e1, e2, e3⟩ := groups_cut (fun x hx => h1 x (List.mem_cons_of_mem _ hx)) h2 (fun x hx => h3 x (List.mem_cons_of_mem _ hx)) h4 h.2
    exact ⟨by rw [h.1, e1], e2, e3⟩
theorem encNat_cut {a b : Nat} {x y : List UInt8} (h : encNat a ++ x = encNat b ++ y) : a = b ∧ x = y := by
  obtain ⟨l, c, e, h1, h2, _, h4⟩ := encNat_form a
  obtain ⟨l', c', e', h1', h2', _, h4'⟩ := encNat_form b
  rw [e, e'] at h
  simp only [List.append_assoc, List.singleton_append] at h
  obtain ⟨rfl, rfl, rfl⟩ := groups_cut h1 h2 h1' h2' h
  exact ⟨h4.symm.trans h4', rfl⟩
theorem encNat_pos (n : Nat) : 1 ≤ (encNat n).length := by
  obtain ⟨l, c, e, _⟩ := encNat_form n
  rw [e]; simp
theorem encNat_len {n k : Nat} (h : n < 128 ^ k) (hk : 0 < k) : (encNat n).length ≤ k := by
  induction k generalizing n with
  | zero => omega
  | succ k ih =>
    by_cases hs : n < 128
    · rw [encNat_small hs]; simp
    · rw [encNat_big hs]
      have hk0 : 0 < k := by
        rcases Nat.eq_zero_or_pos k with rfl | h'
        · simp at h; omega
        · exact h'
      have := ih (n := n / 128) (by rw [Nat.pow_succ] at h; omega) hk0
      simp; omega
/-- a number's groups, of which the first are great -/
theorem encNat_heads {n : Nat} {l y x : List UInt8} (h1 : ∀ b ∈ l, 128 ≤ b.toNat) (h : encNat n ++ y = l ++ x) : ∃ l', encNat n = l ++ l' ∧ l' ≠ [] ∧ x = l' ++ y := by
  obtain ⟨m, c, e, g1, g2, _, _⟩ := encNat_form n
  rw [e] at h ⊢
  have key : ∀ (l m : List UInt8) (x : List UInt8), (∀ b ∈ l, 128 ≤ b.toNat) → m ++ [c] ++ y = l ++ x → ∃ l', m ++ [c] = l ++ l' ∧ l' ≠ [] ∧ x = l' ++ y := by
    intro l
    induction l with
    | nil => intro m x _ h; exact ⟨m ++ [c], rfl, by simp, h.symm⟩
    | cons b l ih =>
      intro m x h1 h
      cases m with
      | nil =>
        simp at h
        have := h1 b List.mem_cons_self
        rw [← h.1] at this; omega
      | cons b' m =>
        simp at h
        obtain ⟨l', q1, q2, q3⟩ := ih m x (fun x hx => h1 x (List.mem_cons_of_mem _ hx)) (by simpa using h.2)
        exact ⟨l', by rw [h.1]; simpa using q1, q2, q3⟩
  exact key l m x h1 h

/-- a signed number as one without a sign -/
def zig (v : Int) : Nat := if v < 0 then (-2 * v - 1).toNat else (2 * v).toNat
def zag (n : Nat) : Int := if n % 2 = 0 then ((n / 2 : Nat) : Int) else -((n / 2 : Nat) : Int) - 1
theorem zag_zig (v : Int) : zag (zig v) = v := by
  unfold zig zag
  split <;> (split <;> omega)
theorem zig_zag (n : Nat) : zig (zag n) = n := by
  unfold zig zag
  split <;> (split <;> omega)
theorem zig_inj {a b : Int} (h : zig a = zig b) : a = b := by rw [← zag_zig a, ← zag_zig b, h]
theorem zig_lt {v : Int} (h1 : -9223372036854775808 ≤ v) (h2 : v ≤ 9223372036854775807) : zig v < 18446744073709551616 := by
  unfold zig; split <;> omega
theorem zig_far {v : Int} (h1 : -549755813888 ≤ v) (h2 : v ≤ 549755813888) : zig v ≤ 1099511627776 := by
  unfold zig; split <;> omega
theorem zag_far {n : Nat} (h : n ≤ 1099511627776) : -549755813888 ≤ zag n ∧ zag n ≤ 549755813888 := by
  unfold zag; split <;> omega

def encB (l : List UInt8) : List UInt8 := encNat l.length ++ l
theorem encB_cut {a b x y : List UInt8} (h : encB a ++ x = encB b ++ y) : a = b ∧ x = y := by
  unfold encB at h
  rw [List.append_assoc, List.append_assoc] at h
  obtain ⟨e, h⟩ := encNat_cut h
  exact List.append_inj h e
end Go

/- A term in memory, of whatever depth: as a tree. -/
namespace Go.Proofs.YtpdepmkojbpklaaDoor
open Go.RowKit

/-- a term as a tree: kind, number, name, items, rest, bytes -/
inductive Tm where
  | mk (k n : Int) (s : ByteArray) (items rest : List Tm) (bytes : List UInt8)

/-- a slice of bytes, in blocks of F -/
def BytesAt (F : Nat → Prop) (w : World) (l : List UInt8) (v : Value) : Prop :=
  ∃ po cap, v = .slice po l.length cap ∧ l.length ≤ cap ∧ l.length ≤ 140737488351232 ∧
    ∀ (i : Nat) (c : UInt8), l[i]? = some c → ∃ b off, po = some ⟨b, off, none⟩ ∧ F b ∧ w.cell? ⟨b, off + i, none⟩ = some (.int .u8 c.toNat)

/-- a slice of terms, each of which is as p says -/
def ListAt (F : Nat → Prop) (w : World) (p : Tm → List Value → Prop) (l : List Tm) (v : Value) : Prop :=
  ∃ po cap, v = .slice po l.length cap ∧ l.length ≤ cap ∧ l.length * 104 ≤ 140737488351232 ∧
    ∀ (i : Nat) (t : Tm), l[i]? = some t → ∃ b off c0 c1 c2 c3 c4 c5, po = some ⟨b, off, none⟩ ∧ F b ∧
      w.cell? ⟨b, off + i * 6, none⟩ = some c0 ∧ w.cell? ⟨b, off + i * 6 + 1, none⟩ = some c1 ∧ w.cell? ⟨b, off + i * 6 + 2, none⟩ = some c2 ∧
      w.cell? ⟨b, off + i * 6 + 3, none⟩ = some c3 ∧ w.cell? ⟨b, off + i * 6 + 4, none⟩ = some c4 ∧ w.cell? ⟨b, off + i * 6 + 5, none⟩ = some c5 ∧
      p t [c0, c1, c2, c3, c4, c5]

/-- a term of a height below h, in six cells, what hangs on it in blocks of F -/
def TermAt (F : Nat → Prop) (w : World) : Nat → Tm → List Value → Prop
  | 0, _, _ => False
  | h + 1, .mk k n s it re bys, cs => ∃ vi vr vb, cs = [.int .i64 k, .int .i64 n, .string s, vi, vr, vb] ∧
      (-9223372036854775808 ≤ k ∧ k ≤ 9223372036854775807 ∧ -9223372036854775808 ≤ n ∧ n ≤ 9223372036854775807 ∧ s.size ≤ maxLen) ∧
      ListAt F w (TermAt F w h) it vi ∧ ListAt F w (TermAt F w h) re vr ∧ BytesAt F w bys vb

theorem ListAt.imp {F G : Nat → Prop} {w w' : World} {p q : Tm → List Value → Prop} {l : List Tm} {v : Value} (h : ListAt F w p l v)
    (hF : ∀ b, F b → G b) (hc : ∀ b j u, F b → w.cell? ⟨b, j, none⟩ = some u → w'.cell? ⟨b, j, none⟩ = some u) (hp : ∀ t cs, p t cs → q t cs) : ListAt G w' q l v := by
  obtain ⟨po, cap, h1, h2, h3, h4⟩ := h
  refine ⟨po, cap, h1, h2, h3, fun i t hi => ?_⟩
  obtain ⟨b, off, c0, c1, c2, c3, c4, c5, e, hb, d0, d1, d2, d3, d4, d5, hpt⟩ := h4 i t hi
  exact ⟨b, off, c0, c1, c2, c3, c4, c5, e, hF b hb, hc _ _ _ hb d0, hc _ _ _ hb d1, hc _ _ _ hb d2, hc _ _ _ hb d3, hc _ _ _ hb d4, hc _ _ _ hb d5, hp _ _ hpt⟩
theorem BytesAt.imp {F G : Nat → Prop} {w w' : World} {l : List UInt8} {v : Value} (h : BytesAt F w l v)
    (hF : ∀ b, F b → G b) (hc : ∀ b j u, F b → w.cell? ⟨b, j, none⟩ = some u → w'.cell? ⟨b, j, none⟩ = some u) : BytesAt G w' l v := by
  obtain ⟨po, cap, h1, h2, h3, h4⟩ := h
  refine ⟨po, cap, h1, h2, h3, fun i t hi => ?_⟩
  obtain ⟨b, off, e, hb, d0⟩ := h4 i t hi
  exact ⟨b, off, e, hF b hb, hc _ _ _ hb d0⟩
theorem TermAt.imp {F G : Nat → Prop} {w w' : World} (hF : ∀ b, F b → G b) (hc : ∀ b j u, F b → w.cell? ⟨b, j, none⟩ = some u → w'.cell? ⟨b, j, none⟩ = some u) :
    ∀ (h : Nat) (t : Tm) (cs : List Value), TermAt F w h t cs → TermAt G w' h t cs
  | 0, _, _, ht => ht
  | h + 1, .mk _ _ _ _ _ _, _, ht => by
    obtain ⟨vi, vr, vb, e, hb, h1, h2, h3⟩ := ht
    exact ⟨vi, vr, vb, e, hb, h1.imp hF hc (TermAt.imp hF hc h), h2.imp hF hc (TermAt.imp hF hc h), h3.imp hF hc⟩
theorem cells_kp {F G : Nat → Prop} {w w' : World} (hk : Kp G w w') (hd : ∀ q, F q → ¬ G q) (b j : Nat) (u : Value) (hb : F b) (hc : w.cell? ⟨b, j, none⟩ = some u) : w'.cell? ⟨b, j, none⟩ = some u :=
  (hk.cell (World.block_lt_of_cell? _ _ hc) (hd b hb)).trans hc
theorem TermAt.kp {F G : Nat → Prop} {w w' : World} {h : Nat} {t : Tm} {cs : List Value} (ht : TermAt F w h t cs) (hk : Kp G w w') (hd : ∀ q, F q → ¬ G q) : TermAt F w' h t cs :=
  TermAt.imp (fun _ e => e) (cells_kp hk hd) h t cs ht
theorem TermAt.up {F : Nat → Prop} {w : World} : ∀ {h : Nat} {t : Tm} {cs : List Value}, TermAt F w h t cs → TermAt F w (h + 1) t cs
  | 0, _, _, ht => ht.elim
  | h + 1, .mk _ _ _ _ _ _, _, ht => by
    obtain ⟨vi, vr, vb, e, hb, h1, h2, h3⟩ := ht
    exact ⟨vi, vr, vb, e, hb, h1.imp (fun _ e => e) (fun _ _ _ _ e => e) (fun _ _ e => TermAt.up e), h2.imp (fun _ e => e) (fun _ _ _ _ e => e) (fun _ _ e => TermAt.up e), h3⟩
theorem ListAt.form {F : Nat → Prop} {w : World} {p : Tm → List Value → Prop} {l : List Tm} {v : Value} (h : ListAt F w p l v) : ∃ po len cap, v = .slice po len cap := by
  obtain ⟨po, cap, e, _⟩ := h
  exact ⟨po, _, cap, e⟩
theorem BytesAt.form {F : Nat → Prop} {w : World} {l : List UInt8} {v : Value} (h : BytesAt F w l v) : ∃ po len cap, v = .slice po len cap := by
  obtain ⟨po, cap, e, _⟩ := h
  exact ⟨po, _, cap, e⟩
theorem TermAt.form {F : Nat → Prop} {w : World} {h : Nat} {t : Tm} {cs : List Value} (ht : TermAt F w h t cs) :
    ∃ k n s a l c a2 l2 d a3 l3 e, cs = [.int .i64 k, .int .i64 n, .string s, .slice a l c, .slice a2 l2 d, .slice a3 l3 e] := by
  cases h with
  | zero => exact ht.elim
  | succ h =>
    obtain ⟨k, n, s, it, re, bys⟩ := t
    obtain ⟨vi, vr, vb, rfl, _, ⟨po, cap, rfl, _⟩, ⟨po2, cap2, rfl, _⟩, ⟨po3, cap3, rfl, _⟩⟩ := ht
    exact ⟨_, _, _, _, _, _, _, _, _, _, _, _, rfl⟩
theorem form_one {k n : Int} {s : ByteArray} {a a2 a3 : Option Addr} {l c l2 d l3 e : Nat} : ∀ u ∈ [Value.int .i64 k, .int .i64 n, .string s, .slice a l c, .slice a2 l2 d, .slice a3 l3 e], u.oneCell' = true := by
  intro u hu
  simp at hu
  rcases hu with rfl | rfl | rfl | rfl | rfl | rfl <;> rfl
/-- its blocks are there -/
theorem TermAt.low {F : Nat → Prop} {w : World} : ∀ {h : Nat} {t : Tm} {cs : List Value}, TermAt F w h t cs → TermAt (fun q => F q ∧ q < w.heap.size) w h t cs
  | 0, _, _, ht => ht
  | h + 1, .mk _ _ _ _ _ _, _, ht => by
    obtain ⟨vi, vr, vb, e, hb, ⟨po, cap, e1, a1, a2, a3⟩, ⟨po2, cap2, e2, b1, b2, b3⟩, ⟨po3, cap3, e3, c1, c2, c3⟩⟩ := ht
    refine ⟨vi, vr, vb, e, hb, ⟨po, cap, e1, a1, a2, fun i t hi => ?_⟩, ⟨po2, cap2, e2, b1, b2, fun i t hi => ?_⟩, ⟨po3, cap3, e3, c1, c2, fun i t hi => ?_⟩⟩
    · obtain ⟨b, off, q0, q1, q2, q3, q4, q5, e4, hF, d0, d1, d2, d3, d4, d5, hp⟩ := a3 i t hi
      exact ⟨b, off, q0, q1, q2, q3, q4, q5, e4, ⟨hF, World.block_lt_of_cell? _ _ d0⟩, d0, d1, d2, d3, d4, d5, TermAt.low hp⟩
    · obtain ⟨b, off, q0, q1, q2, q3, q4, q5, e4, hF, d0, d1, d2, d3, d4, d5, hp⟩ := b3 i t hi
      exact ⟨b, off, q0, q1, q2, q3, q4, q5, e4, ⟨hF, World.block_lt_of_cell? _ _ d0⟩, d0, d1, d2, d3, d4, d5, TermAt.low hp⟩
    · obtain ⟨b, off, e4, hF, d0⟩ := c3 i t hi
      exact ⟨b, off, e4, ⟨hF, World.block_lt_of_cell? _ _ d0⟩, d0⟩
end Go.Proofs.YtpdepmkojbpklaaDoor

/- Slices of bytes: what CopyBytes, copied and a conversion to a string make of them. -/
namespace Go.Proofs.YtpdepmkojbpklaaDoor
open Go.RowKit

def Own (B : Nat) (w : World) : Nat → Prop := fun q => B ≤ q ∧ q < w.heap.size
/-- blocks of F that hold bytes -/
def Byt (F : Nat → Prop) (w : World) : Nat → Prop := fun q => F q ∧ ∃ cs, w.heap[q]? = some (.cells cs 5 (0, 0))

theorem Tryd.infoByte : (Tryd.prog.info? 5).map (fun i => (i.zero, i.size, i.bytes)) = some (some (.int .u8 0), 1, 1) := by kernel_rfl

theorem byt_kp {F G : Nat → Prop} {w w' : World} {l : List UInt8} {v : Value} (h : BytesAt (Byt F w) w l v) (hk : Kp G w w') (hG : ∀ q, F q → G q → ∀ cs, w.heap[q]? ≠ some (.cells cs 5 (0, 0))) :
    BytesAt (Byt F w') w' l v :=
  h.imp (fun q hq => ⟨hq.1, by obtain ⟨cs, e⟩ := hq.2; exact ⟨cs, (hk.block q (Array.getElem?_eq_some_iff.1 e).1 (fun hg => hG q hq.1 hg cs e)).trans e⟩⟩)
    (fun b j u hb hc => (hk.cell (World.block_lt_of_cell? _ _ hc) (fun hg => by obtain ⟨cs, e⟩ := hb.2; exact hG b hb.1 hg cs e)).trans hc)
theorem byt_more {F G : Nat → Prop} {w : World} {l : List UInt8} {v : Value} (h : BytesAt (Byt F w) w l v) (hF : ∀ q, F q → G q) : BytesAt (Byt G w) w l v :=
  h.imp (fun q hq => ⟨hF q hq.1, hq.2⟩) (fun _ _ _ _ e => e)
theorem bytes_any {F : Nat → Prop} {w : World} {l : List UInt8} {v : Value} (h : BytesAt F w l v) : BytesAt (fun q => q < w.heap.size) w l v := by
  obtain ⟨po, cap, h1, h2, h3, h4⟩ := h
  exact ⟨po, cap, h1, h2, h3, fun i c hi => by obtain ⟨b, off, e, _, hc⟩ := h4 i c hi; exact ⟨b, off, e, World.block_lt_of_cell? _ _ hc, hc⟩⟩
theorem bytes_kp {F G : Nat → Prop} {w w' : World} {l : List UInt8} {v : Value} (h : BytesAt F w l v) (hk : Kp G w w') (hG : ∀ q, F q → ¬ G q) : BytesAt F w' l v :=
  h.imp (fun _ e => e) (cells_kp hk hG)

theorem run_append_empty (t ty e : TypeId) (i : TypeInfo) (ht : Tryd.prog.underlying t = some (.slice e)) (hi : Tryd.prog.info? e = some i) (po : Option Addr) (cap : Nat) (w : World) :
    (Builtin.append_ #[t, t] ty #[.slice none 0 0, .slice po 0 cap]).run Tryd.prog w = .ok (.slice none 0 0) w := by
  cases po <;> simp [Builtin.append_, run_underlying ht, sizeOf, typeInfo, hi, Builtin.lenOf, Builtin.firstCells, loadCells, loadCellsFrom]

/-- the cells of bytes -/
def bcells (l : List UInt8) : List Value := l.map fun c => Value.int .u8 c.toNat
theorem bcells_len (l : List UInt8) : (bcells l).length = l.length := by simp [bcells]
theorem bcells_get {l : List UInt8} {i : Nat} {c : UInt8} (h : l[i]? = some c) : (bcells l)[i]? = some (.int .u8 c.toNat) := by simp [bcells, h]
theorem bcells_one (l : List UInt8) : ∀ u ∈ bcells l, u.oneCell' = true := by
  intro u hu
  obtain ⟨c, _, rfl⟩ := List.mem_map.1 hu
  rfl

set_option maxRecDepth 100000 in
set_option maxHeartbeats 400000 in
theorem copyBytes_any {F : Nat → Prop} {w : World} {l : List UInt8} {v : Value} (h : BytesAt F w l v) :
    Calls Tryd.prog 53 #[v] w fun e w' => ∃ v', e = .returned v' ∧ BytesAt (Byt (Own w.heap.size w') w') w' l v' ∧ Kp (fun _ => False) w w' := by
  obtain ⟨po, cap, rfl, h2, h3, h4⟩ := h
  obtain ⟨i0, hi, hz0, hz1, hz2⟩ := info_parts Tryd.infoByte
  by_cases hl : l = []
  · subst hl
    have hr := run_append_empty 33 33 5 i0 Tryd.underlying33 hi po cap w
    clear h4
    go_enter Tryd.func53, Tryd.ntmps53
    go_wp2_with (at_builtin; refine wpList_run rfl _ _ 33 rfl (.slice none 0 0) (.slice po 0 cap) rfl rfl _ w hr ?_)
    go_ret
    exact ⟨_, rfl, ⟨none, 0, rfl, by simp, by simp, fun i c hi => by simp at hi⟩, Kp.refl _ w⟩
  · have hpos : 0 < l.length := List.length_pos_iff.2 hl
    obtain ⟨b, off, rfl, hF, hc0⟩ := h4 0 l[0] (List.getElem?_eq_getElem hpos)
    have hnA : ∀ i u, (bcells l)[i]? = some u → w.cell? ((⟨b, off, none⟩ : Addr).add i) = some u := by
      intro i u hu
      rw [bcells, List.getElem?_map] at hu
      obtain ⟨c, hc, rfl⟩ := Option.map_eq_some_iff.1 hu
      obtain ⟨b2, off2, e2, _, hcell⟩ := h4 i c hc
      injection e2 with e2
      rw [e2, Go.WideShapes.add_plain]
      exact hcell
    have hone := bcells_one l
    have hll := bcells_len l
    have hc1 : 0 + l.length ≤ maxLen := by unfold maxLen; omega
    have hc2 : (0 + l.length) * 1 ≤ 140737488355328 := by omega
    have Hc := Lib.hid (And.intro hc1 (And.intro hc2 hll))
    clear hc1 hc2 hll h4 hc0
    go_enter Tryd.func53, Tryd.ntmps53
    go_wp2_with (at_builtin; refine wpList_append_lies _ rfl _ _ 33 rfl w.heap.size 5 i0 (.int .u8 0) 1 1 Tryd.underlying33 hi hz0 hz1 hz2 rfl (by omega) (.slice none 0 0) 0 [] rfl (World.ownsRow_nil _ _ _ _) ⟨b, off, none⟩ l.length cap (bcells l) rfl (by rw [Hc.out.2.2]; omega) hnA hone hpos Hc.out.1 Hc.out.2.1 (Nat.le_refl _) w.heap.size rfl ?_; intro g1 cap1 w3 hown hgrow hat hlt3; refine Hid.out ?_)
    rw [Nat.zero_add] at hown
    have hfin : BytesAt (Byt (Own w.heap.size w3) w3) w3 l (.slice (some ⟨g1, 0, none⟩) l.length cap1) ∧ Kp (fun _ => False) w w3 := by
      refine ⟨⟨_, cap1, rfl, ?_, h3, fun i c hic => ⟨g1, 0, rfl, ⟨⟨?_, hlt3⟩, ?_⟩, ?_⟩⟩, (Kp.refl _ w).grown hgrow (fun k hk => by simp [Value.ownBlock] at hk)⟩
      · rcases hown.2 with ⟨e, _⟩ | ⟨g, cp, cur, e, _, _, h5, _⟩
        · cases e
        · injection e with _ _ e
          omega
      · rcases hat with e | e
        · simp [Value.ownBlock] at e
        · omega
      · rcases hown.2 with ⟨e, _⟩ | ⟨g, cp, cur, e, _, hg, h5, _⟩
        · cases e
        · injection e with e
          injection e with e
          injection e with e
          exact ⟨cur, by rw [e]; exact hg⟩
      · have hil := (List.getElem?_eq_some_iff.1 hic).1
        rw [Nat.zero_add, hown.cellAt i (by omega), List.nil_append, bcells_get hic]
    have Hf := Lib.hid hfin
    clear hfin hown hgrow hat hlt3 hnA hone
    refine Lib.hid ?_
    go_wp2_with fail
    go_ret
    exact ⟨_, rfl, Hf.out⟩

/-- the string of bytes -/
def strB (l : List UInt8) : ByteArray := ⟨l.toArray⟩

theorem conv_any {F : Nat → Prop} {w : World} {l : List UInt8} {v : Value} (h : BytesAt F w l v) : (convert 33 9 v).run Tryd.prog w = .ok (.string (strB l)) w := by
  obtain ⟨po, cap, rfl, h2, h3, h4⟩ := h
  by_cases hl : l = []
  · subst hl
    rw [run_convert_bytes_string w 33 9 5 po _ cap Tryd.underlying33 Tryd.underlying5 Tryd.underlying9]
    cases po with
    | none => simp [Conv.bytesToString, strB]; rfl
    | some a =>
      rw [List.length_nil, run_bytesToString w a 0 cap [] (by simp [loadCells, loadCellsFrom])]
      rfl
  · have hpos : 0 < l.length := List.length_pos_iff.2 hl
    obtain ⟨b, off, rfl, hF, hc0⟩ := h4 0 l[0] (List.getElem?_eq_getElem hpos)
    rw [run_convert_bytes_arg w 33 5 Tryd.underlying33 Tryd.underlying5 b off l.length cap (l.map fun c => (c.toNat : Int)) (by simp) ?_ 9 Tryd.underlying9]
    · congr 2
      apply ByteArray.ext
      simp [strOfNums, strB, Function.comp_def]
    · intro i hi
      obtain ⟨b2, off2, e2, _, hcell⟩ := h4 i l[i] (List.getElem?_eq_getElem hi)
      injection e2 with e2
      rw [Addr.mk.injEq] at e2
      obtain ⟨rfl, rfl, _⟩ := e2
      rw [hcell]
      simp [List.getD_eq_getElem?_getD, hi]

theorem below_kp {w w' : World} (h : Below w.heap.size w w') : Kp (fun _ => False) w w' := ⟨h.os, h.tape, h.output, h.size, fun k hk _ => h.block k hk⟩
end Go.Proofs.YtpdepmkojbpklaaDoor
