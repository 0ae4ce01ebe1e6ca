/- A table of atoms in memory: the map of its numbers, the slice of its names. What the table's methods Number, Name, Len do. -/
import Derived.Test.YtkcmfldcdokobaaGreatDoorM01
import Derived.Test.YtkcmfldcdokobaaGreatDoorM11
import Derived.Maps.OwnOps
import Derived.Maps.OwnSet
import Derived.Deep.AppendLies
/- A table of atoms in memory: the map of its numbers, the slice of its names. -/
namespace Go.Proofs.YtkcmfldcdokobaaGreatDoor
open Go.RowKit Go.Maps

/-- the map says of each name its number, and of no other name one -/
def TabD (D : DataW Unit) (names : List ByteArray) : Prop :=
  ∀ s : ByteArray, (Maps.has D (.string s.data.toList) = true ↔ s ∈ names) ∧ ∀ i, names[i]? = some s → ∀ z, D.atKey (.string s.data.toList) z = .lit (.int .i64 (i : Nat))

theorem lit_ne {s t : ByteArray} (h : s ≠ t) : (Lit.string s.data.toList) ≠ .string t.data.toList := by
  intro e
  injection e with e
  apply h
  apply ByteArray.ext
  apply Array.ext'
  exact e

theorem TabD.empty : TabD (.map []) [] := fun s => ⟨⟨fun h => (by cases h), fun h => (by cases h)⟩, fun i h => (by simp at h)⟩
theorem TabD.put {D : DataW Unit} {names : List ByteArray} (h : TabD D names) (hm : Maps.IsMap D) (s : ByteArray) (hs : s ∉ names) : TabD (D.put (.string s.data.toList) (.lit (.int .i64 names.length))) (names ++ [s]) := by
  intro t
  by_cases e : t = s
  · subst e
    refine ⟨?_, fun i hi z => ?_⟩
    · rw [Maps.has_put_same hm (show WideAt.IsKeyLit (.string _) from trivial)]; simp
    · rw [Maps.atKey_put_same hm (show WideAt.IsKeyLit (.string _) from trivial)]
      have : i = names.length := by
        by_cases hl : i < names.length
        · rw [List.getElem?_append_left hl] at hi
          exact (hs (List.mem_of_getElem? hi)).elim
        · have := (List.getElem?_eq_some_iff.1 hi).1
          simp at this
          omega
      rw [this]
  · obtain ⟨h1, h2⟩ := h t
    refine ⟨?_, fun i hi z => ?_⟩
    · rw [Maps.has_put_other (lit_ne e), h1]
      simp [e]
    · rw [Maps.atKey_put_other (lit_ne e)]
      refine h2 i ?_ z
      by_cases hl : i < names.length
      · rw [List.getElem?_append_left hl] at hi; exact hi
      · have := (List.getElem?_eq_some_iff.1 hi).1
        simp at this
        rw [List.getElem?_append_right (by omega), show i - names.length = 0 by omega] at hi
        simp at hi
        exact (e hi.symm).elim

theorem Tryz.law : Keyed Tryz.prog 9 := string_keyed Tryz.underlying9
theorem Tryz.zeroE (w : World) : (zeroValue 3).run Tryz.prog w = .ok (.int .i64 0) w := by kernel_rfl
theorem Tryz.infoStr : (Tryz.prog.info? 9).map (fun i => (i.zero, i.size, i.bytes)) = some (some (.string ByteArray.empty), 1, 16) := by kernel_rfl

/-- the table at b, its map made: block mb. F: its blocks -/
structure AtDone (w : World) (F : Nat → Prop) (b mb : Nat) (D : DataW Unit) (v : Value) (names : List ByteArray) : Prop where
  fb : F b
  fm : F mb
  ne : mb ≠ b
  lt : ∀ k, F k → k < w.heap.size
  main : w.heap[b]? = some (.cells (atCells 1 (.map (some mb)) v) 214 (0, 0))
  own : w.ownsMap Tryz.prog 9 (plainElem Tryz.prog 3) mb names.length D
  isM : Maps.IsMap D
  tab : TabD D names
  row : w.ownsRow 0 9 1 v names.length (names.map Value.string)
  inn : ∀ g, v.ownBlock = some g → F g ∧ g ≠ b
  nd : names.Nodup
  many : names.length ≤ 1024
  len : ∀ s ∈ names, s.size ≤ 255

/-- the table at b -/
def AtRep (w : World) (F : Nat → Prop) (b : Nat) (names : List ByteArray) : Prop :=
  (F b ∧ (∀ k, F k → k < w.heap.size) ∧ names = [] ∧ w.heap[b]? = some (.cells (atCells 0 (.map none) (.slice none 0 0)) 214 (0, 0))) ∨
  ∃ mb D v, AtDone w F b mb D v names

theorem AtDone.kp {w w' : World} {F G : Nat → Prop} {b mb : Nat} {D : DataW Unit} {v : Value} {names : List ByteArray} (h : AtDone w F b mb D v names) (hk : Kp G w w') (hd : ∀ k, F k → ¬ G k) : AtDone w' F b mb D v names := by
  refine ⟨h.fb, h.fm, h.ne, fun k e => Nat.lt_of_lt_of_le (h.lt k e) hk.size, (hk.block b (h.lt b h.fb) (hd b h.fb)).trans h.main, ?_, h.isM, h.tab, hk.row h.row (fun g hg => hd g (h.inn g hg).1), h.inn, h.nd, h.many, h.len⟩
  obtain ⟨es, clock, hb, F', hs, hD⟩ := h.own
  exact ⟨es, clock, (hk.block mb (h.lt mb h.fm) (hd mb h.fm)).trans hb, F', hs, hD⟩
theorem AtRep.kp {w w' : World} {F G : Nat → Prop} {b : Nat} {names : List ByteArray} (h : AtRep w F b names) (hk : Kp G w w') (hd : ∀ k, F k → ¬ G k) : AtRep w' F b names := by
  rcases h with ⟨h1, h2, h3, h4⟩ | ⟨mb, D, v, h⟩
  · exact .inl ⟨h1, fun k e => Nat.lt_of_lt_of_le (h2 k e) hk.size, h3, (hk.block b (h2 b h1) (hd b h1)).trans h4⟩
  · exact .inr ⟨mb, D, v, h.kp hk hd⟩
theorem AtDone.more {w : World} {F G : Nat → Prop} {b mb : Nat} {D : DataW Unit} {v : Value} {names : List ByteArray} (h : AtDone w F b mb D v names) (hFG : ∀ k, F k → G k) (hlt : ∀ k, G k → k < w.heap.size) : AtDone w G b mb D v names :=
  ⟨hFG b h.fb, hFG mb h.fm, h.ne, hlt, h.main, h.own, h.isM, h.tab, h.row, fun g hg => ⟨hFG g (h.inn g hg).1, (h.inn g hg).2⟩, h.nd, h.many, h.len⟩

theorem owns_new {w : World} {mb : Nat} (h : w.heap[mb]? = some (.map #[] 0)) : w.ownsMap (H := Unit) Tryz.prog 9 (plainElem Tryz.prog 3) mb 0 (.map []) := by
  obtain ⟨es, clock, hb, F, hs, hD⟩ := World.ownsMap_made (H := Unit) w Tryz.prog 9 (plainElem Tryz.prog 3)
  rw [heap_alloc_new w _] at hb
  injection hb with hb
  injection hb with h1 h2
  subst h1
  subst h2
  exact ⟨#[], 0, h, F, hs, hD⟩

set_option maxRecDepth 100000 in
set_option maxHeartbeats 1600000 in
theorem do_first (b : Nat) (pl : Addr) (hpb : ¬ b = pl.block) (v : Value) (w : World) (hp : w.cell? pl = some (.pointer (some ⟨b, 0, none⟩)))
    (h : w.heap[b]? = some (.cells (atCells 0 (.map none) v) 214 (0, 0))) :
    Calls Tryz.prog 154 #[.pointer (some ⟨b, 0, none⟩), .func (.func 155) #[] #[.pointer (some pl)]] w fun e w' => e = .returned (.tuple #[]) ∧
      w'.heap[b]? = some (.cells (atCells 1 (.map (some w.heap.size)) v) 214 (0, 0)) ∧ w'.heap[w.heap.size]? = some (.map #[] 0) ∧ Kp (fun q => q = b) w w' := by
  have h0 : w.cell? ⟨b, 0, none⟩ = some (.int .u32 0) := by rw [cell_of_row w b 0 _ _ _ h]; rfl
  have hl := run_call_load (P := Tryz.prog) Tryz.func170 (by kernel_rfl) (by kernel_rfl) (by kernel_rfl) .u32 (by kernel_rfl) h0
  have hnot : ∀ (x : Bool) (w : World), (Op.unary .not (.bool x)).run Tryz.prog w = .ok (.bool (!x)) w := fun _ _ => rfl
  have H := Lib.hid h
  clear h
  go_enter Tryz.func154, Tryz.ntmps154
  go_wp2_with (first | (go_at_call 169; refine (slow_any b pl hpb v _ hp H.out).mono ?_; rintro e w' ⟨rfl, hq⟩; have Hq := Lib.hid hq; clear hq) | (go_at_call 168; go_in))
  go_end0
  exact ⟨rfl, Hq.out⟩

theorem do_done (a : Addr) (fv : Value) (w : World) (h0 : w.cell? a = some (.int .u32 1)) :
    Calls Tryz.prog 154 #[.pointer (some a), fv] w fun e w' => e = .returned (.tuple #[]) ∧ w' = w := by
  have hl := run_call_load (P := Tryz.prog) Tryz.func170 (by kernel_rfl) (by kernel_rfl) (by kernel_rfl) .u32 (by kernel_rfl) h0
  have hnot : ∀ (x : Bool) (w : World), (Op.unary .not (.bool x)).run Tryz.prog w = .ok (.bool (!x)) w := fun _ _ => rfl
  go_enter Tryz.func154, Tryz.ntmps154
  go_wp2
  go_end0
  exact ⟨rfl, rfl⟩

set_option maxRecDepth 100000 in
set_option maxHeartbeats 1600000 in
/-- the map: it is made if it was not there -/
theorem table_any {w : World} {F : Nat → Prop} {b : Nat} {names : List ByteArray} (h : AtRep w F b names) :
    Calls Tryz.prog 137 #[.pointer (some ⟨b, 0, none⟩)] w fun e w' => ∃ mb D v, e = .returned (.map (some mb)) ∧ AtDone w' (Ext F w w') b mb D v names ∧ Kp F w w' := by
  have hmf : ∀ (fn : Fn) (first cap : Array Value) (w : World), (Instr.makeFunc fn first cap).run Tryz.prog w = .ok (.func fn first cap) w := fun _ _ _ _ => rfl
  obtain ⟨w1, hw1⟩ : ∃ w1, w.alloc (.cells #[.pointer (some ⟨b, 0, none⟩)] 49) = w1 := ⟨_, rfl⟩
  have hk1 : Kp (fun _ => False) w w1 := by rw [← hw1]; exact (Kp.refl _ w).alloc _
  have hz1 : w1.heap.size = w.heap.size + 1 := by rw [← hw1]; simp
  have hp : w1.cell? ⟨w.heap.size, 0, none⟩ = some (.pointer (some ⟨b, 0, none⟩)) := by rw [← hw1]; simp
  have Hw := Lib.hid (And.intro hw1 hz1)
  clear hw1 hz1
  rcases h with ⟨fb, lt, rfl, h4⟩ | ⟨mb, D, v, h⟩
  · have hbl := lt b fb
    have hm := (hk1.block b hbl (fun e => e)).trans h4
    go_enter Tryz.func137, Tryz.ntmps137
    go_wp2_with fail
    rw [Hw.out.1]
    refine (do_first b ⟨w.heap.size, 0, none⟩ (by show ¬ b = w.heap.size; omega) _ w1 hp hm).mono ?_
    rintro e w2 ⟨rfl, hr, hmp, hk2⟩
    have hne : w.heap.size ≠ b := by omega
    have hp2 : w2.cell? ⟨w.heap.size, 0, none⟩ = some (.pointer (some ⟨b, 0, none⟩)) := (hk2.cell (by have := Hw.out.2; show w.heap.size < _; omega) hne).trans hp
    have c3 : w2.cell? ⟨b, 3, none⟩ = some (.map (some w1.heap.size)) := by rw [cell_of_row w2 b 3 _ _ _ hr]; rfl
    have Hh := Lib.hid (And.intro hr (And.intro hmp hk2))
    clear hr hmp hk2
    go_wp2_with fail
    go_ret
    have h2z := (Array.getElem?_eq_some_iff.1 Hh.out.2.1).1
    have h1z := Hw.out.2
    have hkw : Kp F w w2 := (hk1.mono fun _ _ e => e.elim).trans' (Hh.out.2.2.mono fun q _ e => by rw [e]; exact fb)
    refine ⟨_, _, _, rfl, ⟨.inl fb, .inr ⟨by omega, h2z⟩, by omega, ?_, Hh.out.1, owns_new Hh.out.2.1, ⟨_, rfl⟩, TabD.empty, World.ownsRow_nil _ _ _ _, fun g hg => by simp [Value.ownBlock] at hg, by simp, by simp, fun s hs => by simp at hs⟩, hkw⟩
    intro q hq
    rcases hq with hq | hq
    · have := lt q hq
      have := hkw.size
      omega
    · exact hq.2
  · have hbl := h.lt b h.fb
    have h1 := h.kp hk1 (fun _ _ e => e)
    have c0 : w1.cell? ⟨b, 0, none⟩ = some (.int .u32 1) := by rw [cell_of_row w1 b 0 _ _ _ h1.main]; rfl
    have c3 : w1.cell? ⟨b, 3, none⟩ = some (.map (some mb)) := by rw [cell_of_row w1 b 3 _ _ _ h1.main]; rfl
    have H1 := Lib.hid h1
    have Hh := Lib.hid h
    clear h h1
    go_enter Tryz.func137, Tryz.ntmps137
    go_wp2_with fail
    rw [Hw.out.1]
    refine (do_done ⟨b, 0, none⟩ _ w1 c0).mono ?_
    rintro e w2 ⟨rfl, rfl⟩
    go_wp2_with fail
    go_ret
    refine ⟨_, _, _, rfl, H1.out.more (fun q hq => .inl hq) ?_, hk1.mono fun _ _ e => e.elim⟩
    intro q hq
    rcases hq with hq | hq
    · exact H1.out.lt q hq
    · exact hq.2

set_option maxRecDepth 100000 in
set_option maxHeartbeats 1600000 in
/-- the map, where it is there already -/
theorem table_done {w : World} {F : Nat → Prop} {b mb : Nat} {D : DataW Unit} {v : Value} {names : List ByteArray} (h : AtDone w F b mb D v names) :
    Calls Tryz.prog 137 #[.pointer (some ⟨b, 0, none⟩)] w fun e w' => e = .returned (.map (some mb)) ∧ AtDone w' (Ext F w w') b mb D v names ∧ Kp (fun _ => False) w w' := by
  have hmf : ∀ (fn : Fn) (first cap : Array Value) (w : World), (Instr.makeFunc fn first cap).run Tryz.prog w = .ok (.func fn first cap) w := fun _ _ _ _ => rfl
  obtain ⟨w1, hw1⟩ : ∃ w1, w.alloc (.cells #[.pointer (some ⟨b, 0, none⟩)] 49) = w1 := ⟨_, rfl⟩
  have hk1 : Kp (fun _ => False) w w1 := by rw [← hw1]; exact (Kp.refl _ w).alloc _
  have hp : w1.cell? ⟨w.heap.size, 0, none⟩ = some (.pointer (some ⟨b, 0, none⟩)) := by rw [← hw1]; simp
  have Hw := Lib.hid hw1
  clear hw1
  have h1 := h.kp hk1 (fun _ _ e => e)
  have c0 : w1.cell? ⟨b, 0, none⟩ = some (.int .u32 1) := by rw [cell_of_row w1 b 0 _ _ _ h1.main]; rfl
  have c3 : w1.cell? ⟨b, 3, none⟩ = some (.map (some mb)) := by rw [cell_of_row w1 b 3 _ _ _ h1.main]; rfl
  have H1 := Lib.hid h1
  have Hh := Lib.hid h
  clear h h1
  go_enter Tryz.func137, Tryz.ntmps137
  go_wp2_with fail
  rw [Hw.out]
  refine (do_done ⟨b, 0, none⟩ _ w1 c0).mono ?_
  rintro e w2 ⟨rfl, rfl⟩
  go_wp2_with fail
  go_ret
  refine ⟨rfl, H1.out.more (fun q hq => .inl hq) ?_, hk1⟩
  intro q hq
  rcases hq with hq | hq
  · exact H1.out.lt q hq
  · exact hq.2

/-- a table with names has its map -/
theorem AtRep.done {w : World} {F : Nat → Prop} {b : Nat} {names : List ByteArray} (h : AtRep w F b names) (hn : 0 < names.length) : ∃ mb D v, AtDone w F b mb D v names := by
  rcases h with ⟨_, _, rfl, _⟩ | h
  · exact absurd hn (by simp)
  · exact h
end Go.Proofs.YtkcmfldcdokobaaGreatDoor

/- What the table's methods Number, Name, Len do. -/
namespace Go.Proofs.YtkcmfldcdokobaaGreatDoor
open Go.RowKit Go.Maps

def atomS : ByteArray := ⟨#[97, 116, 111, 109]⟩

set_option maxHeartbeats 400000 in
theorem number_bad (a : Value) (s : ByteArray) (w : World) (hs : s.size ≤ maxLen) (h : s.size = 0 ∨ 255 < s.size) :
    Calls Tryz.prog 92 #[a, .string s] w (EBad w (fun v => .tuple #[.int .i64 (-1), v]) [Lk.fault atomS s.size, Lk.kind 1]) := by
  unfold maxLen at hs
  by_cases h0 : s.size = 0
  · have e1 : ((s.size : Int) == 0) = true := by simp [h0]
    have Hs := Lib.hid h0
    clear h h0
    go_enter Tryz.func92, Tryz.ntmps92
    go_wp2_with (go_at_call 49; refine (at_any _ _ _ _ _).mono ?_; rintro e w' ⟨rfl, rfl⟩)
    go_ret2
    exact ebad1 w _ _ _ _ (by decide) 0
  · have e1 : ((s.size : Int) == 0) = false := by simp [h0]
    have e2 : (255 : Int) < s.size := by omega
    clear h h0
    go_enter Tryz.func92, Tryz.ntmps92
    go_wp2_with (go_at_call 49; refine (at_any _ _ _ _ _).mono ?_; rintro e w' ⟨rfl, rfl⟩)
    go_ret2
    exact ebad1 w _ _ _ _ (by decide) 0

theorem key_of (s : ByteArray) (hs : s.size ≤ 255) : keyOf Tryz.prog 9 (.string s) = some (.string s.data.toList) :=
  WideMaps.keyOf_string_mk Tryz.underlying9 (by unfold maxLen; omega)

set_option maxHeartbeats 400000 in
/-- a name that is there -/
theorem number_old {w : World} {F : Nat → Prop} {b : Nat} {names : List ByteArray} (h : AtRep w F b names) (s : ByteArray) (hs : 1 ≤ s.size) (hs2 : s.size ≤ 255) (i : Nat) (hi : names[i]? = some s) :
    Calls Tryz.prog 92 #[.pointer (some ⟨b, 0, none⟩), .string s] w fun e w' => e = .returned (.tuple #[.int .i64 i, .nilIface]) ∧ AtRep w' (Ext F w w') b names ∧ Kp (fun _ => False) w w' := by
  have e1 : ((s.size : Int) == 0) = false := by rw [beq_eq_false_iff_ne]; omega
  have e2 : ¬ (255 : Int) < s.size := by omega
  have hkey := key_of s hs2
  obtain ⟨mb, D, v, hdone⟩ := h.done (by have := (List.getElem?_eq_some_iff.1 hi).1; omega)
  have H := Lib.hid (And.intro hdone (And.intro hi hkey))
  clear h hi hkey hdone
  go_enter Tryz.func92, Tryz.ntmps92
  go_wp2_with fail
  refine (table_done H.out.1).mono ?_
  rintro e w1 ⟨rfl, hd, hk⟩
  have hown := hd.own
  have hT := hd.tab s
  have Hd := Lib.hid (And.intro hd hk)
  have hhas := hT.1.2 (List.mem_of_getElem? H.out.2.1)
  have hat := hT.2 i H.out.2.1
  clear hd hk hT
  have Hh := Lib.hid (And.intro hhas hat)
  clear hhas hat
  go_wp2_with (at_lookup; refine wpList_lookup_own_ok_int _ rfl _ _ 91 rfl 9 3 .i64 Tryz.law Tryz.underlying91 Tryz.underlying3 (Tryz.zeroE _) mb _ D rfl hown _ _ rfl H.out.2.2 ?_; intro c hc hwc; rw [Hh.out.1])
  go_ret2
  have hci : c = (i : Int) := by
    have := (Hh.out.2 _).symm.trans hc
    injection this with this
    injection this with _ this
    exact this.symm
  exact ⟨ret2 hci, .inr ⟨mb, D, v, Hd.out.1⟩, Hd.out.2⟩

set_option maxHeartbeats 400000 in
/-- a new name, and the table is full -/
theorem number_full {w : World} {F : Nat → Prop} {b : Nat} {names : List ByteArray} (h : AtRep w F b names) (s : ByteArray) (hs : 1 ≤ s.size) (hs2 : s.size ≤ 255) (hn : s ∉ names) (hl : names.length = 1024) :
    Calls Tryz.prog 92 #[.pointer (some ⟨b, 0, none⟩), .string s] w fun e w' => (∃ v, e = .returned (.tuple #[.int .i64 (-1), v]) ∧ ChainB w.heap.size w' v [Lk.fault atomS s.size, Lk.kind 2]) ∧ AtRep w' (Ext F w w') b names ∧ Kp (fun _ => False) w w' := by
  have e1 : ((s.size : Int) == 0) = false := by rw [beq_eq_false_iff_ne]; omega
  have e2 : ¬ (255 : Int) < s.size := by omega
  have hkey := key_of s hs2
  obtain ⟨mb, D, v, hdone⟩ := h.done (by omega)
  have H := Lib.hid (And.intro hdone hkey)
  clear h hkey hdone
  go_enter Tryz.func92, Tryz.ntmps92
  go_wp2_with fail
  refine (table_done H.out.1).mono ?_
  rintro e w1 ⟨rfl, hd, hk⟩
  have hown := hd.own
  have hhas : has D (.string s.data.toList) = false := by
    rw [Bool.eq_false_iff]
    exact fun e => hn ((hd.tab s).1.1 e)
  obtain ⟨po, cap, hv⟩ : ∃ po cap, v = .slice po 1024 cap := by
    rcases hd.row.2 with ⟨e, h0⟩ | ⟨g, cap, _, e, _⟩
    · omega
    · exact ⟨_, _, by rw [← hl]; exact e⟩
  have c4 : w1.cell? ⟨b, 4, none⟩ = some (.slice po 1024 cap) := by rw [cell_of_row w1 b 4 _ _ _ hd.main, ← hv]; rfl
  have Hd := Lib.hid (And.intro hd hk)
  have Hh := Lib.hid (And.intro hhas hl)
  clear hd hk hhas hl hv hn
  go_wp2_with (first | (at_lookup; refine wpList_lookup_own_ok_int _ rfl _ _ 91 rfl 9 3 .i64 Tryz.law Tryz.underlying91 Tryz.underlying3 (Tryz.zeroE _) mb _ D rfl hown _ _ rfl H.out.2 ?_; intro c hc hwc; rw [Hh.out.1]; clear hc hwc) | (go_at_call 49; refine (at_any _ _ _ _ _).mono ?_; rintro e w' ⟨rfl, rfl⟩))
  go_ret2
  obtain ⟨v2, hv2, hch, hkp⟩ := ebad1 w1 id atomS s.size 2 (by decide) 0
  refine ⟨⟨_, rfl, ?_⟩, .inr ⟨mb, D, v, ?_⟩, Hd.out.2.trans' hkp⟩
  · injection hv2 with hv2
    have e : v2 = _ := hv2.symm
    rw [e] at hch
    exact hch.le Hd.out.2.size
  · refine (Hd.out.1.kp hkp fun _ _ e => e).more (fun q hq => ?_) (fun q hq => ?_)
    · rcases hq with hq | hq
      · exact .inl hq
      · exact .inr ⟨hq.1, Nat.lt_of_lt_of_le hq.2 hkp.size⟩
    · rcases hq with hq | hq
      · exact Nat.lt_of_lt_of_le (Hd.out.1.lt q (.inl hq)) hkp.size
      · exact hq.2

theorem ownsRow_set {w : World} {base : Nat} {e : TypeId} {size : Nat} {v : Value} {n : Nat} {xs : List Value} (ho : w.ownsRow base e size v n xs) (b j : Nat) (u : Value) (hne : v.ownBlock ≠ some b) :
    (w.setCell ⟨b, j, none⟩ u).ownsRow base e size v n xs :=
  ((Kp.refl (fun q => q = b) w).setCell ⟨b, j, none⟩ u (.inl rfl)).row ho (fun g hg e => hne (by rw [hg, e]))
theorem ownsMap_kp {H : Type} {w w' : World} {P : Program} {k : TypeId} {R : Value → Option (DataW H × List MemPlace)} {mb n : Nat} {D : DataW H} {G : Nat → Prop} (ho : w.ownsMap P k R mb n D) (hk : Kp G w w') (hG : ¬ G mb) : w'.ownsMap P k R mb n D := by
  have hl := ho.lt
  obtain ⟨es, clock, hb, F', hs, hD⟩ := ho
  exact ⟨es, clock, (hk.block mb hl hG).trans hb, F', hs, hD⟩

theorem clone_any (s : ByteArray) (w : World) (hs : s.size ≤ 255) :
    Calls Tryz.prog 138 #[.string s] w fun e w' => e = .returned (.string s) ∧ Kp (fun _ => False) w w' := by
  go_enter Tryz.func138, Tryz.ntmps138
  go_wp2_with (go_at_call 156; refine (Tryz.stringslite_Clone s _ (by omega)).mono ?_; rintro e w' ⟨rfl, hb⟩)
  go_ret
  exact ⟨rfl, below_kp hb⟩

set_option maxHeartbeats 1000000 in
/-- a new name -/
theorem number_new {w : World} {F : Nat → Prop} {b : Nat} {names : List ByteArray} (h : AtRep w F b names) (s : ByteArray) (hs : 1 ≤ s.size) (hs2 : s.size ≤ 255) (hn : s ∉ names) (hl : names.length < 1024) :
    Calls Tryz.prog 92 #[.pointer (some ⟨b, 0, none⟩), .string s] w fun e w' => e = .returned (.tuple #[.int .i64 names.length, .nilIface]) ∧ AtRep w' (Ext F w w') b (names ++ [s]) ∧ Kp F w w' := by
  have e1 : ((s.size : Int) == 0) = false := by rw [beq_eq_false_iff_ne]; omega
  have e2 : ¬ (255 : Int) < s.size := by omega
  have e3 : ((names.length : Int) == 1024) = false := by rw [beq_eq_false_iff_ne]; omega
  have hkey := key_of s hs2
  have H := Lib.hid (And.intro h hkey)
  clear h hkey
  go_enter Tryz.func92, Tryz.ntmps92
  go_wp2_with fail
  refine (table_any H.out.1).mono ?_
  rintro e w1 ⟨mb, D, v, rfl, hd, hk⟩
  have hown := hd.own
  have hhas : has D (.string s.data.toList) = false := by
    rw [Bool.eq_false_iff]
    exact fun e => hn ((hd.tab s).1.1 e)
  obtain ⟨po, cap, hv⟩ : ∃ po cap, v = .slice po names.length cap := by
    rcases hd.row.2 with ⟨e, h0⟩ | ⟨g, cap, _, e, _⟩
    · rw [h0]; exact ⟨_, _, e⟩
    · exact ⟨_, _, e⟩
  have c4 : w1.cell? ⟨b, 4, none⟩ = some (.slice po names.length cap) := by rw [cell_of_row w1 b 4 _ _ _ hd.main, ← hv]; rfl
  have Hd := Lib.hid (And.intro hd hk)
  have Hh := Lib.hid (And.intro hhas (And.intro hv hn))
  clear hd hk hhas hv hn
  go_wp2_with (at_lookup; refine wpList_lookup_own_ok_int _ rfl _ _ 91 rfl 9 3 .i64 Tryz.law Tryz.underlying91 Tryz.underlying3 (Tryz.zeroE _) mb _ D rfl hown _ _ rfl H.out.2 ?_; intro c hc hwc; rw [Hh.out.1]; clear hc hwc)
  refine (clone_any s w1 hs2).mono ?_
  rintro e w2 ⟨rfl, hk2⟩
  have hd2 := Hd.out.1.kp hk2 (fun _ _ e => e)
  have hown2 := hd2.own
  have hwf : (Lit.int .i64 (names.length : Int)).wf = true := WalkArith.wf_i64 (by omega)
  have hbl := hd2.lt b hd2.fb
  have hne : some b ≠ some mb := fun e => hd2.ne (by injection e with e; exact e.symm)
  have c4' : w2.cell? ⟨b, 4, none⟩ = some (.slice po names.length cap) := by rw [cell_of_row w2 b 4 _ _ _ hd2.main, ← Hh.out.2.1]; rfl
  have Hd2 := Lib.hid (And.intro hd2 hk2)
  clear hd2 hk2 c4 hown
  go_wp2_with (at_mapUpdate; refine wpList_mapUpdate_own _ rfl _ _ _ 91 rfl 9 3 Tryz.law Tryz.underlying91 _ mb _ D rfl hown2 (by unfold maxLen; omega) _ _ _ rfl rfl H.out.2 _ [] (plainElem_int Tryz.underlying3 hwf) ?_; intro w3 hown3 hgrow3; have c43 : w3.cell? ⟨b, 4, none⟩ = some (.slice po names.length cap) := (hgrow3.cell_far ⟨b, 4, none⟩ hbl hne).trans c4'; clear c4'; refine Hid.out ?_)
  have hz2 := hgrow3.size
  have hvmb : (Value.slice po names.length cap).ownBlock ≠ some mb := by
    rw [← Hh.out.2.1]
    intro e
    rcases Hd2.out.1.row.2 with ⟨e2, _⟩ | ⟨g, cap', cur, e2, _, e3, _⟩
    · rw [e2] at e; cases e
    · rw [e2] at e
      injection e with e
      subst e
      obtain ⟨es, clock, hb, _⟩ := Hd2.out.1.own
      rw [hb] at e3
      cases e3
  have hrow3 : w3.ownsRow 0 9 1 (.slice po names.length cap) names.length (names.map Value.string) := by
    have := Hd2.out.1.row
    rw [Hh.out.2.1] at this
    exact this.kept hgrow3 (.inr hvmb)
  have hoA : ∀ o, (w3.alloc o).ownsRow 0 9 1 (.slice po names.length cap) names.length (names.map Value.string) := fun o => hrow3.alloc o
  have hnA : ∀ i u, [Value.string s][i]? = some u → (w3.alloc (.cells #[Value.string s] 9)).cell? ((⟨w3.heap.size, 0, none⟩ : Addr).add i) = some u :=
    World.news_of_block (cs := #[Value.string s]) (heap_alloc_new w3 _)
  have hone : ∀ u ∈ [Value.string s], u.oneCell' = true := by intro u hu; simp at hu; subst hu; rfl
  have hc1 : names.length + 1 ≤ maxLen := by unfold maxLen; omega
  have hc2 : (names.length + 1) * 16 ≤ 140737488355328 := by omega
  obtain ⟨i0, hi, hz0, hz1, hz2'⟩ := info_parts Tryz.infoStr
  have hm3 := (hgrow3.block b hbl hne).trans Hd2.out.1.main
  have hb3 := (Array.getElem?_eq_some_iff.1 hm3).1
  have Hc := Lib.hid (And.intro hc1 (And.intro hc2 (And.intro hgrow3 (And.intro hown3 (And.intro hrow3 hm3)))))
  clear hc1 hc2 hgrow3 hown3 hrow3 hown2 hm3
  refine Lib.hid ?_
  go_wp2_with (at_builtin; refine wpList_append_lies _ rfl _ _ 92 rfl 0 9 i0 (.string ByteArray.empty) 1 16 Tryz.underlying92 hi hz0 hz1 hz2' rfl (by omega) (.slice po names.length cap) names.length _ rfl (hoA _) ⟨w3.heap.size, 0, none⟩ 1 1 [.string s] rfl rfl hnA hone (by omega) Hc.out.1 Hc.out.2.1 (Nat.zero_le _) (w3.heap.size + 1) (by simp) ?_; intro g1 cap1 w4 hown4 hgrow4 hat4 hlt4; refine Hid.out ?_)
  have hvb : (Value.slice po names.length cap).ownBlock ≠ some b := by
    rw [← Hh.out.2.1]
    exact fun e => (Hd2.out.1.inn b e).2 rfl
  have hm4 : w4.heap[b]? = some (.cells (atCells 1 (.map (some mb)) v) 214 (0, 0)) := by
    rw [hgrow4.block b (by simp; omega) (fun e => hvb e.symm), Below.heap_alloc _ _ _ hb3]
    exact Hc.out.2.2.2.2.2
  have c44 : w4.cell? ⟨b, 4, none⟩ = some v := by rw [cell_of_row w4 b 4 _ _ _ hm4]; rfl
  have f44 : w4.frozen? ⟨b, 4, none⟩ = false := by simp [World.frozen?, hm4]
  have Hm := Lib.hid (And.intro hm4 (And.intro hown4 (And.intro hgrow4 (And.intro hat4 (And.intro hvb hvmb)))))
  clear hm4 hown4 hgrow4 hat4 hvb hvmb hoA hnA hone
  refine Lib.hid ?_
  go_wp2_with fail
  go_ret2
  refine ⟨rfl, ?_⟩
  obtain ⟨hm4, hown4, hgrow4, hat4, hvb, hvmb⟩ := Hm.out
  obtain ⟨_, _, hgrow3, hown3, hrow3, hm3⟩ := Hc.out
  obtain ⟨hd2, hk2⟩ := Hd2.out
  obtain ⟨hd1, hk1⟩ := Hd.out
  obtain ⟨_, hv, hn⟩ := Hh.out
  obtain ⟨hkey1, hkey2⟩ := H.out
  have hz1 := hk1.size
  have hz2 := hk2.size
  have hz3 := hgrow3.size
  have hz4 : w3.heap.size + 1 ≤ w4.heap.size := by have := hgrow4.size; simpa using this
  have hmbF : F mb ∨ w.heap.size ≤ mb := by
    rcases hd1.fm with h | h
    · exact .inl h
    · exact .inr h.1
  have hmbl : mb < w2.heap.size := hown3.lt |> fun _ => hd2.own.lt
  have hsl : ∀ k, (Value.slice po names.length cap).ownBlock = some k → (F k ∨ w.heap.size ≤ k) ∧ k < w2.heap.size := by
    intro k hk
    rw [← hv] at hk
    refine ⟨?_, hd2.lt k (hd2.inn k hk).1⟩
    rcases (hd1.inn k hk).1 with h | h
    · exact .inl h
    · exact .inr h.1
  have hbF : F b ∨ w.heap.size ≤ b := by
    rcases hd1.fb with h | h
    · exact .inl h
    · exact .inr h.1
  have hk12 : Kp F w w2 := hk1.trans' (hk2.mono fun _ _ e => e.elim)
  have hk3 : Kp F w w3 := hk12.grown hgrow3 (fun k hk => by injection hk with hk; rw [← hk]; exact hmbF)
  have hk4 : Kp F w w4 := (hk3.alloc _).grown hgrow4 (fun k hk => (hsl k hk).1)
  have hk5 : Kp F w (w4.setCell ⟨b, 4, none⟩ (.slice (some ⟨g1, 0, none⟩) (names.length + 1) cap1)) := hk4.setCell _ _ hbF
  have hs5 : (w4.setCell ⟨b, 4, none⟩ (.slice (some ⟨g1, 0, none⟩) (names.length + 1) cap1)).heap.size = w4.heap.size := by simp [World.setCell]
  have hg1 : (F g1 ∨ w.heap.size ≤ g1) ∧ g1 ≠ b := by
    rcases hat4 with e | e
    · exact ⟨(hsl g1 e).1, fun e2 => hvb (by rw [e, e2])⟩
    · exact ⟨.inr (by omega), by omega⟩
  have hg1l : g1 < w4.heap.size := hlt4
  have hgm : some mb ≠ (Value.slice po names.length cap).ownBlock := fun e => hvmb e.symm
  have hown5 : (w4.setCell ⟨b, 4, none⟩ (.slice (some ⟨g1, 0, none⟩) (names.length + 1) cap1)).ownsMap Tryz.prog 9 (plainElem Tryz.prog 3) mb (names.length + 1) (D.put (.string s.data.toList) (.lit (.int .i64 names.length))) :=
    ownsMap_kp ((hown3.alloc _).kept hgrow4 hgm) ((Kp.refl (fun q => q = b) w4).setCell _ _ (.inl rfl)) hd1.ne
  have hxl : ∀ q, (F q ∨ w.heap.size ≤ q) → q < w4.heap.size → Ext F w (w4.setCell ⟨b, 4, none⟩ (.slice (some ⟨g1, 0, none⟩) (names.length + 1) cap1)) q := by
    intro q hq hl
    rcases hq with hq | hq
    · exact .inl hq
    · exact .inr ⟨hq, by rw [hs5]; exact hl⟩
  have hrow5 : (w4.setCell ⟨b, 4, none⟩ (.slice (some ⟨g1, 0, none⟩) (names.length + 1) cap1)).ownsRow 0 9 1 (.slice (some ⟨g1, 0, none⟩) (names.length + 1) cap1) (names ++ [s]).length ((names ++ [s]).map Value.string) := by
    have := ownsRow_set hown4 b 4 (.slice (some ⟨g1, 0, none⟩) (names.length + 1) cap1) (by simp [Value.ownBlock]; exact hg1.2)
    simpa using this
  refine ⟨.inr ⟨mb, D.put (.string s.data.toList) (.lit (.int .i64 names.length)), .slice (some ⟨g1, 0, none⟩) (names.length + 1) cap1, ?_⟩, hk5⟩
  refine ⟨hxl b hbF (by omega), hxl mb hmbF (by omega), hd1.ne, ?_, heap_set_same hm4 _, by simpa using hown5, ?_, hd1.tab.put hd1.isM s hn, hrow5, ?_, ?_, by simp; omega, ?_⟩
  · intro q hq
    rcases hq with hq | hq
    · have := hd1.lt q (.inl hq)
      rw [hs5]; omega
    · exact hq.2
  · obtain ⟨es, rfl⟩ := hd1.isM
    exact ⟨_, rfl⟩
  · intro g hg
    simp [Value.ownBlock] at hg
    subst hg
    exact ⟨hxl g1 hg1.1 hg1l, hg1.2⟩
  · rw [List.nodup_append]
    refine ⟨hd1.nd, by simp, ?_⟩
    intro x hx y hy e
    simp at hy
    subst hy
    subst e
    exact hn hx
  · intro x hx
    rcases List.mem_append.1 hx with hx | hx
    · exact hd1.len x hx
    · simp at hx; subst hx; exact hs2
end Go.Proofs.YtkcmfldcdokobaaGreatDoor
