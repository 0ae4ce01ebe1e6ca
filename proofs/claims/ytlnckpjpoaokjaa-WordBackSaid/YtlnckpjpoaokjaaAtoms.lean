/- A table of atoms in memory: the map of its numbers, the slice of its names. -/
import Derived.Test.YtlnckpjpoaokjaaTable
import Derived.Test.YtlnckpjpoaokjaaShelf
import Derived.Test.YtlnckpjpoaokjaaMark
import Derived.Test.YtlnckpjpoaokjaaBytes
import Derived.Maps.OwnOps
import Derived.Maps.OwnSet
import Derived.Deep.AppendLies
namespace Go.Proofs.Ytlnckpjpoaokjaa
open Go.RowKit Go.Maps

/-- the map says of each name its number, and of no other name one -/
def TabD (D : DataW Unit) (names : List ByteArray) : Prop :=
  ∀ s : ByteArray, (Maps.has D (.string s.data.toList) = true ↔ s ∈ names) ∧ ∀ i, names[i]? = some s → ∀ z, D.atKey (.string s.data.toList) z = .lit (.int .i64 (i : Nat))

theorem lit_ne {s t : ByteArray} (h : s ≠ t) : (Lit.string s.data.toList) ≠ .string t.data.toList := by
  intro e
  injection e with e
  apply h
  apply ByteArray.ext
  apply Array.ext'
  exact e

theorem TabD.empty : TabD (.map []) [] := fun s => ⟨⟨fun h => (by cases h), fun h => (by cases h)⟩, fun i h => (by simp at h)⟩
theorem TabD.put {D : DataW Unit} {names : List ByteArray} (h : TabD D names) (hm : Maps.IsMap D) (s : ByteArray) (hs : s ∉ names) : TabD (D.put (.string s.data.toList) (.lit (.int .i64 names.length))) (names ++ [s]) := by
  intro t
  by_cases e : t = s
  · subst e
    refine ⟨?_, fun i hi z => ?_⟩
    · rw [Maps.has_put_same hm (show WideAt.IsKeyLit (.string _) from trivial)]; simp
    · rw [Maps.atKey_put_same hm (show WideAt.IsKeyLit (.string _) from trivial)]
      have : i = names.length := by
        by_cases hl : i < names.length
        · rw [List.getElem?_append_left hl] at hi
          exact (hs (List.mem_of_getElem? hi)).elim
        · have := (List.getElem?_eq_some_iff.1 hi).1
          simp at this
          omega
      rw [this]
  · obtain ⟨h1, h2⟩ := h t
    refine ⟨?_, fun i hi z => ?_⟩
    · rw [Maps.has_put_other (lit_ne e), h1]
      simp [e]
    · rw [Maps.atKey_put_other (lit_ne e)]
      refine h2 i ?_ z
      by_cases hl : i < names.length
      · rw [List.getElem?_append_left hl] at hi; exact hi
      · have := (List.getElem?_eq_some_iff.1 hi).1
        simp at this
        rw [List.getElem?_append_right (by omega), show i - names.length = 0 by omega] at hi
        simp at hi
        exact (e hi.symm).elim

theorem Try.law : Keyed Try.prog 9 := string_keyed Try.underlying9
theorem Try.zeroE (w : World) : (zeroValue 3).run Try.prog w = .ok (.int .i64 0) w := by kernel_rfl
theorem Try.infoStr : (Try.prog.info? 9).map (fun i => (i.zero, i.size, i.bytes)) = some (some (.string ByteArray.empty), 1, 16) := by kernel_rfl

/-- the table at b, its map made: block mb. F: its blocks -/
structure AtDone (w : World) (F : Nat → Prop) (b mb : Nat) (D : DataW Unit) (v : Value) (names : List ByteArray) : Prop where
  fb : F b
  fm : F mb
  ne : mb ≠ b
  lt : ∀ k, F k → k < w.heap.size
  main : w.heap[b]? = some (.cells (atCells 1 (.map (some mb)) v) 124 (0, 0))
  own : w.ownsMap Try.prog 9 (plainElem Try.prog 3) mb names.length D
  isM : Maps.IsMap D
  tab : TabD D names
  row : w.ownsRow 0 9 1 v names.length (names.map Value.string)
  inn : ∀ g, v.ownBlock = some g → F g ∧ g ≠ b
  nd : names.Nodup
  many : names.length ≤ 1024
  len : ∀ s ∈ names, s.size ≤ 255

/-- the table at b -/
def AtRep (w : World) (F : Nat → Prop) (b : Nat) (names : List ByteArray) : Prop :=
  (F b ∧ (∀ k, F k → k < w.heap.size) ∧ names = [] ∧ w.heap[b]? = some (.cells (atCells 0 (.map none) (.slice none 0 0)) 124 (0, 0))) ∨
  ∃ mb D v, AtDone w F b mb D v names

theorem AtDone.kp {w w' : World} {F G : Nat → Prop} {b mb : Nat} {D : DataW Unit} {v : Value} {names : List ByteArray} (h : AtDone w F b mb D v names) (hk : Kp G w w') (hd : ∀ k, F k → ¬ G k) : AtDone w' F b mb D v names := by
  refine ⟨h.fb, h.fm, h.ne, fun k e => Nat.lt_of_lt_of_le (h.lt k e) hk.size, (hk.block b (h.lt b h.fb) (hd b h.fb)).trans h.main, ?_, h.isM, h.tab, hk.row h.row (fun g hg => hd g (h.inn g hg).1), h.inn, h.nd, h.many, h.len⟩
  obtain ⟨es, clock, hb, F', hs, hD⟩ := h.own
  exact ⟨es, clock, (hk.block mb (h.lt mb h.fm) (hd mb h.fm)).trans hb, F', hs, hD⟩
theorem AtRep.kp {w w' : World} {F G : Nat → Prop} {b : Nat} {names : List ByteArray} (h : AtRep w F b names) (hk : Kp G w w') (hd : ∀ k, F k → ¬ G k) : AtRep w' F b names := by
  rcases h with ⟨h1, h2, h3, h4⟩ | ⟨mb, D, v, h⟩
  · exact .inl ⟨h1, fun k e => Nat.lt_of_lt_of_le (h2 k e) hk.size, h3, (hk.block b (h2 b h1) (hd b h1)).trans h4⟩
  · exact .inr ⟨mb, D, v, h.kp hk hd⟩
theorem AtDone.more {w : World} {F G : Nat → Prop} {b mb : Nat} {D : DataW Unit} {v : Value} {names : List ByteArray} (h : AtDone w F b mb D v names) (hFG : ∀ k, F k → G k) (hlt : ∀ k, G k → k < w.heap.size) : AtDone w G b mb D v names :=
  ⟨hFG b h.fb, hFG mb h.fm, h.ne, hlt, h.main, h.own, h.isM, h.tab, h.row, fun g hg => ⟨hFG g (h.inn g hg).1, (h.inn g hg).2⟩, h.nd, h.many, h.len⟩

theorem owns_new {w : World} {mb : Nat} (h : w.heap[mb]? = some (.map #[] 0)) : w.ownsMap (H := Unit) Try.prog 9 (plainElem Try.prog 3) mb 0 (.map []) := by
  obtain ⟨es, clock, hb, F, hs, hD⟩ := World.ownsMap_made (H := Unit) w Try.prog 9 (plainElem Try.prog 3)
  rw [heap_alloc_new w _] at hb
  injection hb with hb
  injection hb with h1 h2
  subst h1
  subst h2
  exact ⟨#[], 0, h, F, hs, hD⟩

set_option maxRecDepth 100000 in
set_option maxHeartbeats 1600000 in
theorem do_first (b : Nat) (pl : Addr) (hpb : ¬ b = pl.block) (v : Value) (w : World) (hp : w.cell? pl = some (.pointer (some ⟨b, 0, none⟩)))
    (h : w.heap[b]? = some (.cells (atCells 0 (.map none) v) 124 (0, 0))) :
    Calls Try.prog 96 #[.pointer (some ⟨b, 0, none⟩), .func (.func 97) #[] #[.pointer (some pl)]] w fun e w' => e = .returned (.tuple #[]) ∧
      w'.heap[b]? = some (.cells (atCells 1 (.map (some w.heap.size)) v) 124 (0, 0)) ∧ w'.heap[w.heap.size]? = some (.map #[] 0) ∧ Kp (fun q => q = b) w w' := by
  have h0 : w.cell? ⟨b, 0, none⟩ = some (.int .u32 0) := by rw [cell_of_row w b 0 _ _ _ h]; rfl
  have hl := run_call_load (P := Try.prog) Try.func107 (by kernel_rfl) (by kernel_rfl) (by kernel_rfl) .u32 (by kernel_rfl) h0
  have hnot : ∀ (x : Bool) (w : World), (Op.unary .not (.bool x)).run Try.prog w = .ok (.bool (!x)) w := fun _ _ => rfl
  have H := Lib.hid h
  clear h
  go_enter Try.func96, Try.ntmps96
  go_wp2_with (first | (go_at_call 104; refine (slow_any b pl hpb v _ hp H.out).mono ?_; rintro e w' ⟨rfl, hq⟩; have Hq := Lib.hid hq; clear hq) | (go_at_call 103; go_in))
  go_end0
  exact ⟨rfl, Hq.out⟩

theorem do_done (a : Addr) (fv : Value) (w : World) (h0 : w.cell? a = some (.int .u32 1)) :
    Calls Try.prog 96 #[.pointer (some a), fv] w fun e w' => e = .returned (.tuple #[]) ∧ w' = w := by
  have hl := run_call_load (P := Try.prog) Try.func107 (by kernel_rfl) (by kernel_rfl) (by kernel_rfl) .u32 (by kernel_rfl) h0
  have hnot : ∀ (x : Bool) (w : World), (Op.unary .not (.bool x)).run Try.prog w = .ok (.bool (!x)) w := fun _ _ => rfl
  go_enter Try.func96, Try.ntmps96
  go_wp2
  go_end0
  exact ⟨rfl, rfl⟩

set_option maxRecDepth 100000 in
set_option maxHeartbeats 1600000 in
/-- the map: it is made if it was not there -/
theorem table_any {w : World} {F : Nat → Prop} {b : Nat} {names : List ByteArray} (h : AtRep w F b names) :
    Calls Try.prog 82 #[.pointer (some ⟨b, 0, none⟩)] w fun e w' => ∃ mb D v, e = .returned (.map (some mb)) ∧ AtDone w' (Ext F w w') b mb D v names ∧ Kp F w w' := by
  have hmf : ∀ (fn : Fn) (first cap : Array Value) (w : World), (Instr.makeFunc fn first cap).run Try.prog w = .ok (.func fn first cap) w := fun _ _ _ _ => rfl
  obtain ⟨w1, hw1⟩ : ∃ w1, w.alloc (.cells #[.pointer (some ⟨b, 0, none⟩)] 61) = w1 := ⟨_, rfl⟩
  have hk1 : Kp (fun _ => False) w w1 := by rw [← hw1]; exact (Kp.refl _ w).alloc _
  have hz1 : w1.heap.size = w.heap.size + 1 := by rw [← hw1]; simp
  have hp : w1.cell? ⟨w.heap.size, 0, none⟩ = some (.pointer (some ⟨b, 0, none⟩)) := by rw [← hw1]; simp
  have Hw := Lib.hid (And.intro hw1 hz1)
  clear hw1 hz1
  rcases h with ⟨fb, lt, rfl, h4⟩ | ⟨mb, D, v, h⟩
  · have hbl := lt b fb
    have hm := (hk1.block b hbl (fun e => e)).trans h4
    go_enter Try.func82, Try.ntmps82
    go_wp2_with fail
    rw [Hw.out.1]
    refine (do_first b ⟨w.heap.size, 0, none⟩ (by show ¬ b = w.heap.size; omega) _ w1 hp hm).mono ?_
    rintro e w2 ⟨rfl, hr, hmp, hk2⟩
    have hne : w.heap.size ≠ b := by omega
    have hp2 : w2.cell? ⟨w.heap.size, 0, none⟩ = some (.pointer (some ⟨b, 0, none⟩)) := (hk2.cell (by have := Hw.out.2; show w.heap.size < _; omega) hne).trans hp
    have c3 : w2.cell? ⟨b, 3, none⟩ = some (.map (some w1.heap.size)) := by rw [cell_of_row w2 b 3 _ _ _ hr]; rfl
    have Hh := Lib.hid (And.intro hr (And.intro hmp hk2))
    clear hr hmp hk2
    go_wp2_with fail
    go_ret
    have h2z := (Array.getElem?_eq_some_iff.1 Hh.out.2.1).1
    have h1z := Hw.out.2
    have hkw : Kp F w w2 := (hk1.mono fun _ _ e => e.elim).trans' (Hh.out.2.2.mono fun q _ e => by rw [e]; exact fb)
    refine ⟨_, _, _, rfl, ⟨.inl fb, .inr ⟨by omega, h2z⟩, by omega, ?_, Hh.out.1, owns_new Hh.out.2.1, ⟨_, rfl⟩, TabD.empty, World.ownsRow_nil _ _ _ _, fun g hg => by simp [Value.ownBlock] at hg, by simp, by simp, fun s hs => by simp at hs⟩, hkw⟩
    intro q hq
    rcases hq with hq | hq
    · have := lt q hq
      have := hkw.size
      omega
    · exact hq.2
  · have hbl := h.lt b h.fb
    have h1 := h.kp hk1 (fun _ _ e => e)
    have c0 : w1.cell? ⟨b, 0, none⟩ = some (.int .u32 1) := by rw [cell_of_row w1 b 0 _ _ _ h1.main]; rfl
    have c3 : w1.cell? ⟨b, 3, none⟩ = some (.map (some mb)) := by rw [cell_of_row w1 b 3 _ _ _ h1.main]; rfl
    have H1 := Lib.hid h1
    have Hh := Lib.hid h
    clear h h1
    go_enter Try.func82, Try.ntmps82
    go_wp2_with fail
    rw [Hw.out.1]
    refine (do_done ⟨b, 0, none⟩ _ w1 c0).mono ?_
    rintro e w2 ⟨rfl, rfl⟩
    go_wp2_with fail
    go_ret
    refine ⟨_, _, _, rfl, H1.out.more (fun q hq => .inl hq) ?_, hk1.mono fun _ _ e => e.elim⟩
    intro q hq
    rcases hq with hq | hq
    · exact H1.out.lt q hq
    · exact hq.2

set_option maxRecDepth 100000 in
set_option maxHeartbeats 1600000 in
/-- the map, where it is there already -/
theorem table_done {w : World} {F : Nat → Prop} {b mb : Nat} {D : DataW Unit} {v : Value} {names : List ByteArray} (h : AtDone w F b mb D v names) :
    Calls Try.prog 82 #[.pointer (some ⟨b, 0, none⟩)] w fun e w' => e = .returned (.map (some mb)) ∧ AtDone w' (Ext F w w') b mb D v names ∧ Kp (fun _ => False) w w' := by
  have hmf : ∀ (fn : Fn) (first cap : Array Value) (w : World), (Instr.makeFunc fn first cap).run Try.prog w = .ok (.func fn first cap) w := fun _ _ _ _ => rfl
  obtain ⟨w1, hw1⟩ : ∃ w1, w.alloc (.cells #[.pointer (some ⟨b, 0, none⟩)] 61) = w1 := ⟨_, rfl⟩
  have hk1 : Kp (fun _ => False) w w1 := by rw [← hw1]; exact (Kp.refl _ w).alloc _
  have hp : w1.cell? ⟨w.heap.size, 0, none⟩ = some (.pointer (some ⟨b, 0, none⟩)) := by rw [← hw1]; simp
  have Hw := Lib.hid hw1
  clear hw1
  have h1 := h.kp hk1 (fun _ _ e => e)
  have c0 : w1.cell? ⟨b, 0, none⟩ = some (.int .u32 1) := by rw [cell_of_row w1 b 0 _ _ _ h1.main]; rfl
  have c3 : w1.cell? ⟨b, 3, none⟩ = some (.map (some mb)) := by rw [cell_of_row w1 b 3 _ _ _ h1.main]; rfl
  have H1 := Lib.hid h1
  have Hh := Lib.hid h
  clear h h1
  go_enter Try.func82, Try.ntmps82
  go_wp2_with fail
  rw [Hw.out]
  refine (do_done ⟨b, 0, none⟩ _ w1 c0).mono ?_
  rintro e w2 ⟨rfl, rfl⟩
  go_wp2_with fail
  go_ret
  refine ⟨rfl, H1.out.more (fun q hq => .inl hq) ?_, hk1⟩
  intro q hq
  rcases hq with hq | hq
  · exact H1.out.lt q hq
  · exact hq.2

/-- a table with names has its map -/
theorem AtRep.done {w : World} {F : Nat → Prop} {b : Nat} {names : List ByteArray} (h : AtRep w F b names) (hn : 0 < names.length) : ∃ mb D v, AtDone w F b mb D v names := by
  rcases h with ⟨_, _, rfl, _⟩ | h
  · exact absurd hn (by simp)
  · exact h
end Go.Proofs.Ytlnckpjpoaokjaa
