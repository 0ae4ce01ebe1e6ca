/- Slices of bytes: what CopyBytes, copied and a conversion to a string make of them. -/
import Derived.Test.YtlnckpjpoaokjaaTerm
import Derived.Test.YtlnckpjpoaokjaaRun
import Derived.Laws.BytesArg
import Derived.OwnWalk
import Derived.Laws.CopyOwn
import Derived.WalkSpells
import Derived.WalkLawsBesides
namespace Go.Proofs.Ytlnckpjpoaokjaa
open Go.RowKit

def Own (B : Nat) (w : World) : Nat → Prop := fun q => B ≤ q ∧ q < w.heap.size
/-- blocks of F that hold bytes -/
def Byt (F : Nat → Prop) (w : World) : Nat → Prop := fun q => F q ∧ ∃ cs, w.heap[q]? = some (.cells cs 5 (0, 0))

theorem Try.infoByte : (Try.prog.info? 5).map (fun i => (i.zero, i.size, i.bytes)) = some (some (.int .u8 0), 1, 1) := by kernel_rfl

theorem byt_kp {F G : Nat → Prop} {w w' : World} {l : List UInt8} {v : Value} (h : BytesAt (Byt F w) w l v) (hk : Kp G w w') (hG : ∀ q, F q → G q → ∀ cs, w.heap[q]? ≠ some (.cells cs 5 (0, 0))) :
    BytesAt (Byt F w') w' l v :=
  h.imp (fun q hq => ⟨hq.1, by obtain ⟨cs, e⟩ := hq.2; exact ⟨cs, (hk.block q (Array.getElem?_eq_some_iff.1 e).1 (fun hg => hG q hq.1 hg cs e)).trans e⟩⟩)
    (fun b j u hb hc => (hk.cell (World.block_lt_of_cell? _ _ hc) (fun hg => by obtain ⟨cs, e⟩ := hb.2; exact hG b hb.1 hg cs e)).trans hc)
theorem byt_more {F G : Nat → Prop} {w : World} {l : List UInt8} {v : Value} (h : BytesAt (Byt F w) w l v) (hF : ∀ q, F q → G q) : BytesAt (Byt G w) w l v :=
  h.imp (fun q hq => ⟨hF q hq.1, hq.2⟩) (fun _ _ _ _ e => e)
theorem bytes_any {F : Nat → Prop} {w : World} {l : List UInt8} {v : Value} (h : BytesAt F w l v) : BytesAt (fun q => q < w.heap.size) w l v := by
  obtain ⟨po, cap, h1, h2, h3, h4⟩ := h
  exact ⟨po, cap, h1, h2, h3, fun i c hi => by obtain ⟨b, off, e, _, hc⟩ := h4 i c hi; exact ⟨b, off, e, World.block_lt_of_cell? _ _ hc, hc⟩⟩
theorem bytes_kp {F G : Nat → Prop} {w w' : World} {l : List UInt8} {v : Value} (h : BytesAt F w l v) (hk : Kp G w w') (hG : ∀ q, F q → ¬ G q) : BytesAt F w' l v :=
  h.imp (fun _ e => e) (cells_kp hk hG)

theorem run_append_empty (t ty e : TypeId) (i : TypeInfo) (ht : Try.prog.underlying t = some (.slice e)) (hi : Try.prog.info? e = some i) (po : Option Addr) (cap : Nat) (w : World) :
    (Builtin.append_ #[t, t] ty #[.slice none 0 0, .slice po 0 cap]).run Try.prog w = .ok (.slice none 0 0) w := by
  cases po <;> simp [Builtin.append_, run_underlying ht, sizeOf, typeInfo, hi, Builtin.lenOf, Builtin.firstCells, loadCells, loadCellsFrom]

/-- the cells of bytes -/
def bcells (l : List UInt8) : List Value := l.map fun c => Value.int .u8 c.toNat
theorem bcells_len (l : List UInt8) : (bcells l).length = l.length := by simp [bcells]
theorem bcells_get {l : List UInt8} {i : Nat} {c : UInt8} (h : l[i]? = some c) : (bcells l)[i]? = some (.int .u8 c.toNat) := by simp [bcells, h]
theorem bcells_one (l : List UInt8) : ∀ u ∈ bcells l, u.oneCell' = true := by
  intro u hu
  obtain ⟨c, _, rfl⟩ := List.mem_map.1 hu
  rfl

set_option maxRecDepth 100000 in
set_option maxHeartbeats 400000 in
theorem copyBytes_any {F : Nat → Prop} {w : World} {l : List UInt8} {v : Value} (h : BytesAt F w l v) :
    Calls Try.prog 12 #[v] w fun e w' => ∃ v', e = .returned v' ∧ BytesAt (Byt (Own w.heap.size w') w') w' l v' ∧ Kp (fun _ => False) w w' := by
  obtain ⟨po, cap, rfl, h2, h3, h4⟩ := h
  obtain ⟨i0, hi, hz0, hz1, hz2⟩ := info_parts Try.infoByte
  by_cases hl : l = []
  · subst hl
    have hr := run_append_empty 35 35 5 i0 Try.underlying35 hi po cap w
    clear h4
    go_enter Try.func12, Try.ntmps12
    go_wp2_with (at_builtin; refine wpList_run rfl _ _ 35 rfl (.slice none 0 0) (.slice po 0 cap) rfl rfl _ w hr ?_)
    go_ret
    exact ⟨_, rfl, ⟨none, 0, rfl, by simp, by simp, fun i c hi => by simp at hi⟩, Kp.refl _ w⟩
  · have hpos : 0 < l.length := List.length_pos_iff.2 hl
    obtain ⟨b, off, rfl, hF, hc0⟩ := h4 0 l[0] (List.getElem?_eq_getElem hpos)
    have hnA : ∀ i u, (bcells l)[i]? = some u → w.cell? ((⟨b, off, none⟩ : Addr).add i) = some u := by
      intro i u hu
      rw [bcells, List.getElem?_map] at hu
      obtain ⟨c, hc, rfl⟩ := Option.map_eq_some_iff.1 hu
      obtain ⟨b2, off2, e2, _, hcell⟩ := h4 i c hc
      injection e2 with e2
      rw [e2, Go.WideShapes.add_plain]
      exact hcell
    have hone := bcells_one l
    have hll := bcells_len l
    have hc1 : 0 + l.length ≤ maxLen := by unfold maxLen; omega
    have hc2 : (0 + l.length) * 1 ≤ 140737488355328 := by omega
    have Hc := Lib.hid (And.intro hc1 (And.intro hc2 hll))
    clear hc1 hc2 hll h4 hc0
    go_enter Try.func12, Try.ntmps12
    go_wp2_with (at_builtin; refine wpList_append_lies _ rfl _ _ 35 rfl w.heap.size 5 i0 (.int .u8 0) 1 1 Try.underlying35 hi hz0 hz1 hz2 rfl (by omega) (.slice none 0 0) 0 [] rfl (World.ownsRow_nil _ _ _ _) ⟨b, off, none⟩ l.length cap (bcells l) rfl (by rw [Hc.out.2.2]; omega) hnA hone hpos Hc.out.1 Hc.out.2.1 (Nat.le_refl _) w.heap.size rfl ?_; intro g1 cap1 w3 hown hgrow hat hlt3; refine Hid.out ?_)
    rw [Nat.zero_add] at hown
    have hfin : BytesAt (Byt (Own w.heap.size w3) w3) w3 l (.slice (some ⟨g1, 0, none⟩) l.length cap1) ∧ Kp (fun _ => False) w w3 := by
      refine ⟨⟨_, cap1, rfl, ?_, h3, fun i c hic => ⟨g1, 0, rfl, ⟨⟨?_, hlt3⟩, ?_⟩, ?_⟩⟩, (Kp.refl _ w).grown hgrow (fun k hk => by simp [Value.ownBlock] at hk)⟩
      · rcases hown.2 with ⟨e, _⟩ | ⟨g, cp, cur, e, _, _, h5, _⟩
        · cases e
        · injection e with _ _ e
          omega
      · rcases hat with e | e
        · simp [Value.ownBlock] at e
        · omega
      · rcases hown.2 with ⟨e, _⟩ | ⟨g, cp, cur, e, _, hg, h5, _⟩
        · cases e
        · injection e with e
          injection e with e
          injection e with e
          exact ⟨cur, by rw [e]; exact hg⟩
      · have hil := (List.getElem?_eq_some_iff.1 hic).1
        rw [Nat.zero_add, hown.cellAt i (by omega), List.nil_append, bcells_get hic]
    have Hf := Lib.hid hfin
    clear hfin hown hgrow hat hlt3 hnA hone
    refine Lib.hid ?_
    go_wp2_with fail
    go_ret
    exact ⟨_, rfl, Hf.out⟩

/-- the string of bytes -/
def strB (l : List UInt8) : ByteArray := ⟨l.toArray⟩

theorem conv_any {F : Nat → Prop} {w : World} {l : List UInt8} {v : Value} (h : BytesAt F w l v) : (convert 35 9 v).run Try.prog w = .ok (.string (strB l)) w := by
  obtain ⟨po, cap, rfl, h2, h3, h4⟩ := h
  by_cases hl : l = []
  · subst hl
    rw [run_convert_bytes_string w 35 9 5 po _ cap Try.underlying35 Try.underlying5 Try.underlying9]
    cases po with
    | none => simp [Conv.bytesToString, strB]; rfl
    | some a =>
      rw [List.length_nil, run_bytesToString w a 0 cap [] (by simp [loadCells, loadCellsFrom])]
      rfl
  · have hpos : 0 < l.length := List.length_pos_iff.2 hl
    obtain ⟨b, off, rfl, hF, hc0⟩ := h4 0 l[0] (List.getElem?_eq_getElem hpos)
    rw [run_convert_bytes_arg w 35 5 Try.underlying35 Try.underlying5 b off l.length cap (l.map fun c => (c.toNat : Int)) (by simp) ?_ 9 Try.underlying9]
    · congr 2
      apply ByteArray.ext
      simp [strOfNums, strB, Function.comp_def]
    · intro i hi
      obtain ⟨b2, off2, e2, _, hcell⟩ := h4 i l[i] (List.getElem?_eq_getElem hi)
      injection e2 with e2
      rw [Addr.mk.injEq] at e2
      obtain ⟨rfl, rfl, _⟩ := e2
      rw [hcell]
      simp [List.getD_eq_getElem?_getD, hi]

theorem below_kp {w w' : World} (h : Below w.heap.size w w') : Kp (fun _ => False) w w' := ⟨h.os, h.tape, h.output, h.size, fun k hk _ => h.block k hk⟩
end Go.Proofs.Ytlnckpjpoaokjaa
