/- A table's names, in order. -/
import Derived.Test.YtdcmdidikengbaaTbMap
import Derived.Test.YtdcmdidikengbaaIter
import Derived.Test.YtdcmdidikengbaaWhRow
import Derived.CallsIn
namespace Go.Proofs.Ytdcmdidikengbaa
open Go.RowKit Go.Maps Go.Sort Go.Shelf

theorem Try.itsorts (m : Nat) : AnyZ.SortsIn Try.prog Try.itsorted_ren Fence.wide m :=
  ⟨fun blk off cap ss W hH hblk hsz => callsIn_wide.2 (AnyM.slices_Sort_string Try.itsort blk off cap ss W hH hblk hsz),
   fun p cap W => callsIn_wide.2 (AnyM.slices_Sort_string_none Try.itsort p cap W)⟩
theorem Try.itmapsKeys (mb : Option Nat) (W : World) : CallsIn Fence.wide 5 Try.prog 54 #[.map mb] W fun e w' =>
    e = .returned (.func (.func 59) #[] #[.pointer (some ⟨W.heap.size, 0, none⟩)]) ∧ w' = W.alloc (.cells #[.map mb] 76) :=
  AnyZ.keys_in Try.itkeys Fence.wide 5 trivial rfl mb W
set_option maxHeartbeats 1000000 in
theorem Try.itsortedKeys {H : Type} (b nn : Nat) (D0 : DataW H) (R : Value → Option (DataW H × List MemPlace)) (w : World) (hown : w.ownsMap Try.prog 9 R b nn D0) (hmax : Maps.size D0 ≤ maxLen) (hbytes : Maps.size D0 * 16 ≤ 140737488355328) :
    CallsIn Fence.wide 5 Try.prog 53 #[.func (.func 59) #[] #[.pointer (some ⟨w.heap.size, 0, none⟩)]] (w.alloc (.cells #[.map (some b)] 76)) fun e w' =>
      ∃ (v : Value) (ss : List (List UInt8)), e = .returned v ∧ ss.Perm (strKeys D0) ∧
      w'.ownsRow (w.alloc (.cells #[.map (some b)] 76)).heap.size 9 1 v ss.length ((ss.mergeSort (fun x y => decide (x ≤ y))).map encStr) ∧ (v = .slice none 0 0 ↔ ss = []) ∧
        Below (w.alloc (.cells #[.map (some b)] 76)).heap.size (w.alloc (.cells #[.map (some b)] 76)) w' := by
  have hbl := hown.lt
  have hseq : SeqGives Fence.wide 2 Try.prog 59 #[.pointer (some ⟨w.heap.size, 0, none⟩)] encStr (fun ss => ss.Perm (strKeys D0)) (Maps.size D0) (w.alloc (.cells #[.map (some b)] 76)) :=
    AnyZ.keys_gives (ρ := Try.itkeys_ren) { Try.itkeys with } Fence.wide _ trivial rfl (by omega) w.heap.size b nn D0 _ (by simp) (by simp) (by
      obtain ⟨es, clock, hb, Ft, hs, hD⟩ := hown
      exact ⟨es, clock, (Below.heap_alloc _ _ b hbl).trans hb, Ft, hs, hD⟩)
  exact AnyZ.sorted_in Try.itsorted Fence.wide 5 trivial trivial trivial trivial rfl (by omega) (Try.itsorts _) (enters_of Try.func58 (by kernel_rfl) rfl) 59 #[.pointer (some ⟨w.heap.size, 0, none⟩)] trivial
    (enters_of Try.func59 (by kernel_rfl) rfl) _ _ hmax hbytes _ hseq

/-- the texts of names -/
def txts (ns : List Nm) : List ByteArray := ns.map Nm.txt
/-- texts in a row of one's own -/
def Sw (w : World) (v : Value) (l : List ByteArray) : Prop := w.ownsW 0 9 v l.length (l.map Value.string)
def SortedTo (ns : List Nm) (w : World) (e : Ending) (w' : World) : Prop :=
  ∃ v, e = .returned v ∧ Sw w' v (txts ns) ∧ (∀ g, v.ownBlock = some g → w.heap.size ≤ g) ∧ Kp (fun _ => False) w w'
theorem sw_of_row {w : World} {base : Nat} {v : Value} {l : List ByteArray} (h : w.ownsRow base 9 1 v l.length (l.map Value.string)) : Sw w v l ∧ ∀ g, v.ownBlock = some g → base ≤ g := by
  have h1 := h.1
  rcases h.2 with ⟨e, h0⟩ | ⟨g, cap, cur, e, hb, hg, h2, h3, h4, h5⟩
  · exact ⟨⟨by simp, .inl ⟨e, h0⟩⟩, fun g hg => by rw [e] at hg; cases hg⟩
  · refine ⟨⟨by simp, .inr ⟨g, cap, cur, e, Nat.zero_le _, hg, h2, by omega, h3, by simpa using h5⟩⟩, fun k hk => ?_⟩
    rw [e] at hk
    have : g = k := by injection hk
    omega
theorem encStr_txt (s : ByteArray) : encStr s.data.toList = .string s := by simp [encStr]
set_option maxHeartbeats 2000000 in
/-- names.sorted -/
theorem sorted_any {w : World} {mb : Nat} {ns : List Nm} (h : Mn w mb ns) (hm : ns.length ≤ 4096) :
    Calls Try.prog 45 #[.map (some mb)] w (SortedTo ns w) := by
  obtain ⟨D, h1, h2, ho, h3, h4⟩ := h
  have hmax : Maps.size D ≤ maxLen := by rw [h2]; unfold maxLen; omega
  have hbytes : Maps.size D * 16 ≤ 140737488355328 := by rw [h2]; omega
  refine (callsIn_wide (n := 6)).1 ?_
  have hfK : Fence.wide.fn 54 := trivial
  have hfS : Fence.wide.fn 53 := trivial
  refine callsIn_of_wp Try.func45 rfl trivial ?_ rfl
  simp only [Try.ntmps45, List.size_toArray, List.length_cons, List.length_nil, Nat.reduceAdd, Nat.reduceSub, Array.replicate_succ, Array.replicate_zero, List.push_toArray, List.append_toArray, List.nil_append, List.cons_append]
  gi_wp2_with (first
    | (gi_at_call 54; refine (Try.itmapsKeys _ _).mono ?_; rintro e w' ⟨rfl, rfl⟩)
    | (gi_at_call 53; refine (Try.itsortedKeys mb ns.length D longElem w h1 hmax hbytes).mono ?_; rintro e w' ⟨v, ss, rfl, hS, hrow, hnil, hb⟩))
  go_ret
  have hsort : (ss.mergeSort (fun x y => decide (x ≤ y))).map encStr = (txts ns).map Value.string := by
    rw [mn_sorted h1 ho h3 hS]
    simp only [txts, List.map_map]
    exact List.map_congr_left (fun n _ => encStr_txt n.txt)
  have hlen : ss.length = (txts ns).length := by
    have := congrArg List.length (mn_sorted h1 ho h3 hS)
    simpa [txts] using this
  rw [hsort, hlen] at hrow
  obtain ⟨h5, h6⟩ := sw_of_row hrow
  have hz : (w.alloc (.cells #[.map (some mb)] 76)).heap.size = w.heap.size + 1 := by simp
  refine ⟨v, rfl, h5, fun g hg => by have := h6 g hg; omega, ?_⟩
  refine ((Kp.refl _ w).alloc (.cells #[.map (some mb)] 76)).trans' ?_
  exact ⟨hb.os, hb.tape, hb.output, hb.size, fun k hk _ => hb.block k hk⟩
end Go.Proofs.Ytdcmdidikengbaa
