/- binary: Put in the two ways; the statements' common example. -/
import Derived.Test.YtlnckpjpoaokjaaInv5
namespace Go.Proofs.Ytlnckpjpoaokjaa
open Go.RowKit

def pushIn (a : Bn) (l : List UInt8) : Bn := { a with used := a.used + l.length, slots := a.slots ++ [(⟨l, 1, 0⟩ : Sl)] }
def backIn (a : Bn) (rest : List Nat) (i g : Nat) (l : List UInt8) : Bn := { a with used := a.used + l.length, slots := a.slots.set i ⟨l, 1, g⟩, free := rest }
def freeIn (a : Bn) (i : Nat) (s : Sl) : Bn := { a with used := a.used - s.bs.length, slots := a.slots.set i ⟨[], 0, s.gen + 1⟩, free := a.free ++ [i] }

section
variable {F : Nat → Prop} {w w3 : World} {b : Nat} {a : Bn} {ss fs : Value} {ps : List (Value × Value × Value)} {N : Nat}

theorem bytes_lit {w : World} {g cap : Nat} {l : List UInt8} (h : w.heap[g]? = some (.cells (bcells l).toArray 5 (0, 0))) (hl : l.length ≤ 1048576) (hc : l.length ≤ cap) : BytesAt (fun q => q = g) w l (.slice (some ⟨g, 0, none⟩) l.length cap) :=
  ⟨_, cap, rfl, hc, by omega, fun i c hi => ⟨g, 0, rfl, rfl, by rw [cell_of h, Nat.zero_add]; simpa using bcells_get hi⟩⟩

theorem taken_new (hf : a.free = []) (hL : a.slots.length < a.most) (hM : a.most ≤ 4096) : Taken a a.slots.length ⟨[], 0, 0⟩ { a with slots := a.slots ++ [(⟨[], 0, 0⟩ : Sl)] } :=
  ⟨by simp, rfl, rfl, rfl, by simp; omega, by simp, .inl ⟨hf, hL, rfl, rfl, rfl⟩⟩
theorem putIn_new (a : Bn) (l : List UInt8) : putIn { a with slots := a.slots ++ [(⟨[], 0, 0⟩ : Sl)] } a.slots.length ⟨[], 0, 0⟩ l = pushIn a l := by
  have he : (a.slots ++ [(⟨[], 0, 0⟩ : Sl)]).set a.slots.length ⟨l, 1, 0⟩ = a.slots ++ [(⟨l, 1, 0⟩ : Sl)] := by simp
  unfold putIn pushIn
  simp only [he]

theorem put_first (h : BRep F w b a ss fs ps) (hI : BInv N a) (hN : N ≤ 1000000000000000) {G : Nat → Prop} {l : List UInt8} {v : Value} (hv : BytesAt G w l v) (hG : ∀ q, G q → ¬ F q)
    (hf : a.free = []) (hL : a.slots.length < a.most) (hl : a.used + l.length ≤ a.room) :
    Calls Try.prog 11 #[.pointer (some ⟨b, 0, none⟩), v] w fun e w' => e = .returned (.tuple #[.int .i64 a.slots.length, .nilIface]) ∧ BGo F w b (pushIn a l) w' := by
  obtain ⟨i, s, a1, hT, hc⟩ := put_ok h hI hN hv hG (.inl hL) hl
  rcases hT.how with ⟨_, _, rfl, hg, rfl⟩ | ⟨rest, hf2, _⟩
  · have hs0 : s = ⟨[], 0, 0⟩ := by
      have := hT.slot
      simp at this
      exact this.symm
    subst hs0
    rw [putIn_new] at hc
    refine hc.mono ?_
    rintro e w' ⟨rfl, h2⟩
    exact ⟨by simp, h2⟩
  · rw [hf] at hf2
    simp at hf2
theorem inv_push (hI : BInv N a) (hN : 1 ≤ N) {l : List UInt8} (hf : a.free = []) (hL : a.slots.length < a.most) (hl : a.used + l.length ≤ a.room) : BInv N (pushIn a l) := by
  rw [← putIn_new]
  exact hI.put (taken_new hf hL hI.most.2) hl hN

theorem put_again (h : BRep F w b a ss fs ps) (hI : BInv N a) (hN : N ≤ 1000000000000000) {G : Nat → Prop} {l : List UInt8} {v : Value} (hv : BytesAt G w l v) (hG : ∀ q, G q → ¬ F q)
    {rest : List Nat} {i : Nat} {s : Sl} (hf : a.free = rest ++ [i]) (hs : a.slots[i]? = some s) (hl : a.used + l.length ≤ a.room) :
    Calls Try.prog 11 #[.pointer (some ⟨b, 0, none⟩), v] w fun e w' => e = .returned (.tuple #[.int .i64 (i + 4096 * s.gen), .nilIface]) ∧ BGo F w b (backIn a rest i s.gen l) w' := by
  obtain ⟨i', s', a1, hT, hc⟩ := put_ok h hI hN hv hG (.inr (by rw [hf]; simp)) hl
  rcases hT.how with ⟨hf2, _⟩ | ⟨rest', hf2, hs2, rfl⟩
  · rw [hf] at hf2
    simp at hf2
  · rw [hf] at hf2
    obtain ⟨rfl, hi⟩ := List.append_inj' hf2 rfl
    injection hi with hi
    subst hi
    rw [hs] at hs2
    injection hs2 with hs2
    subst hs2
    exact hc
theorem inv_back (hI : BInv N a) (hN : 1 ≤ N) (hNM : N ≤ 1000000000000000) {l : List UInt8} {rest : List Nat} {i : Nat} {s : Sl} (hf : a.free = rest ++ [i]) (hs : a.slots[i]? = some s) (hl : a.used + l.length ≤ a.room) : BInv N (backIn a rest i s.gen l) := by
  have h3 := hI.len
  have h1 := hI.most
  have hc : s.count = 0 := by
    obtain ⟨t, h4, h5⟩ := (hI.fr i).1 (by rw [hf]; simp)
    rw [hs] at h4; injection h4 with h4; subst h4; exact h5
  exact hI.put (a1 := { a with free := rest }) ⟨hs, hI.em i s hs hc, hc, rfl, by show a.slots.length ≤ 4096; omega, by have := (hI.bd i s hs).2; omega, .inr ⟨rest, hf, hs, rfl⟩⟩ hl hN
end

/-- what the example of the chapter comes to -/
def a1W : Bn := ⟨2, 10, 3, [⟨[1, 2, 3], 1, 0⟩], []⟩
def a2W : Bn := ⟨2, 10, 0, [⟨[], 0, 1⟩], [0]⟩

set_option maxRecDepth 100000 in
set_option maxHeartbeats 1000000 in
theorem awake_any (w : World) : Calls Try.prog 9 #[] w fun e w' => e = .returned (.bool true) ∧ Kp (fun _ => False) w w' := by
  go_enter Try.func9, Try.ntmps9
  go_wp2_with fail
  refine (new_ok 2 10 (by omega) (by omega) (by omega) w).mono ?_
  rintro e w1 ⟨rfl, hk1, hA1⟩
  have hS1 : Solo w w1 w.heap.size 1 (aNew 2 10) (fun q => q = w.heap.size) := ⟨hA1, inv_new 2 10 (by omega) (by omega) (by omega) 1, fun q e => by omega, hk1⟩
  have hSa := Lib.hid (And.intro (hS1.same ((Kp.refl _ w1).alloc (.cells #[.int .u8 1, .int .u8 2, .int .u8 3] 5))) (fun q (e : q = w1.heap.size) (e' : q = w.heap.size) => (by have := hS1.at'.lt _ rfl; omega : False)))
  clear hk1 hA1 hS1
  go_wp2_with fail
  obtain ⟨ss, fs, ps, hB⟩ := hSa.out.1.at'
  refine (put_first (l := [1, 2, 3]) hB hSa.out.1.inv (by omega) (bytes_lit (g := w1.heap.size) (heap_alloc_new w1 _) (by simp) (by simp)) hSa.out.2 rfl (by simp [aNew]) (by simp [aNew])).mono ?_
  rintro e w2 ⟨he, hgo⟩
  obtain rfl : e = .returned (.tuple #[.int .i64 0, .nilIface]) := he
  clear hB
  obtain ⟨F2, hS2⟩ := hSa.out.1.step hgo (inv_push (l := [1, 2, 3]) hSa.out.1.inv (by omega) rfl (by simp [aNew]) (by simp [aNew]))
  have H2 : Hid (Solo w w2 w.heap.size 1 a1W F2) := Lib.hid hS2
  clear hgo hS2 hSa
  obtain ⟨i0, hi, hz0, hz1, hz2⟩ := info_parts Try.infoByte
  have hb1 : i0.bytes * 8 ≤ 281474976710656 := by rw [hz2]; omega
  have hb2 : 8 ≤ maxLen := by unfold maxLen; omega
  have Hb := Lib.hid (And.intro hb1 hb2)
  clear hb1 hb2
  go_wp2_with (at_make; refine wpList_make_full _ rfl _ _ 35 rfl w2.heap.size 5 i0 (.int .u8 0) 1 Try.underlying35 hi hz0 hz1 .i64 .i64 _ _ 8 rfl rfl rfl rfl Hb.out.1 Hb.out.2 (Nat.le_refl _) ?_; intro w3 hown hgrow; have H3 := Lib.hid (H2.out.same ((Kp.refl (fun _ => False) w2).grown hgrow (fun k e => by cases e))); clear hown hgrow)
  clear H2
  obtain ⟨ss, fs, ps, hB⟩ := H3.out.at'
  refine (put_full hB H3.out.inv _ 8 8 (by omega) (.inr (by decide))).mono ?_
  rintro e w4 ⟨v, rfl, hch, hk4⟩
  obtain ⟨gv, rfl⟩ := hch.out.form
  have H4 := Lib.hid (H3.out.same hk4)
  clear hB hch hk4 H3
  go_wp2_with fail
  obtain ⟨ss, fs, ps, hB⟩ := H4.out.at'
  refine (drop_last hB (by decide) (by decide) (n := 0) (i := 0) (s := ⟨[1, 2, 3], 1, 0⟩) ⟨by omega, by decide, rfl, by decide, by decide⟩ (by omega) rfl (by decide) (by decide) (by decide)).mono ?_
  rintro e w5 ⟨rfl, hgo⟩
  obtain ⟨F5, hS5⟩ := H4.out.step (M := 1) hgo (H4.out.inv.drop (i := 0) (s := ⟨[1, 2, 3], 1, 0⟩) rfl (by decide) (by decide) (by decide))
  have hS5' : Solo w w5 w.heap.size 1 a2W F5 := hS5
  have H5 := Lib.hid (And.intro (hS5'.same ((Kp.refl _ w5).alloc (.cells #[.int .u8 1] 5))) (fun q (e : q = w5.heap.size) (e' : F5 q) => (by have := hS5'.at'.lt _ e'; omega : False)))
  clear hgo hS5 hS5' hB H4
  go_wp2_with fail
  obtain ⟨ss, fs, ps, hB⟩ := H5.out.1.at'
  refine (put_again (l := [1]) (rest := []) (i := 0) (s := ⟨[], 0, 1⟩) hB H5.out.1.inv (by omega) (bytes_lit (g := w5.heap.size) (heap_alloc_new w5 _) (by simp) (by simp)) H5.out.2 rfl rfl (by decide)).mono ?_
  rintro e w6 ⟨he, hgo⟩
  obtain rfl : e = .returned (.tuple #[.int .i64 4096, .nilIface]) := he
  have H6 := Lib.hid (H5.out.1.step hgo (inv_back (l := [1]) H5.out.1.inv (by omega) (by omega) (rest := []) (i := 0) (s := ⟨[], 0, 1⟩) rfl rfl (by decide)))
  clear hgo hB H5
  go_wp2_with fail
  go_ret
  obtain ⟨F6, hS6⟩ := H6.out
  exact ⟨rfl, hS6.kp⟩
end Go.Proofs.Ytlnckpjpoaokjaa
