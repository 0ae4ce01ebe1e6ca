/- The table's map is made when it is first asked for. -/
import Derived.Test.YtlnckpjpoaokjaaOnce
namespace Go.Proofs.Ytlnckpjpoaokjaa
open Go.RowKit

/-- the cells of a table -/
def atCells (d : Int) (m v : Value) : Array Value := #[.int .u32 d, .int .i32 0, .int .u32 0, m, v]

set_option maxRecDepth 100000 in
set_option maxHeartbeats 1600000 in
theorem slow_any (b : Nat) (pl : Addr) (hpb : ¬ b = pl.block) (v : Value) (w : World) (hp : w.cell? pl = some (.pointer (some ⟨b, 0, none⟩)))
    (h : w.heap[b]? = some (.cells (atCells 0 (.map none) v) 124 (0, 0))) :
    Calls Try.prog 104 #[.pointer (some ⟨b, 0, none⟩), .func (.func 97) #[] #[.pointer (some pl)]] w fun e w' => e = .returned (.tuple #[]) ∧
      w'.heap[b]? = some (.cells (atCells 1 (.map (some w.heap.size)) v) 124 (0, 0)) ∧ w'.heap[w.heap.size]? = some (.map #[] 0) ∧ Kp (fun q => q = b) w w' := by
  have Hrow := Lib.hid h
  unfold atCells at h
  have h0 : w.cell? ⟨b, 0, none⟩ = some (.int .u32 0) := by rw [cell_of_row w b 0 _ _ _ h]; rfl
  have h1 : w.cell? ⟨b, 1, none⟩ = some (.int .i32 0) := by rw [cell_of_row w b 1 _ _ _ h]; rfl
  have h3 : w.cell? ⟨b, 3, none⟩ = some (.map none) := by rw [cell_of_row w b 3 _ _ _ h]; rfl
  have f0 : ∀ j, w.frozen? ⟨b, j, none⟩ = false := fun j => by simp [World.frozen?, h]
  have hb := (Array.getElem?_eq_some_iff.1 h).1
  clear h
  have hl := run_call_load (P := Try.prog) Try.func107 (by kernel_rfl) (by kernel_rfl) (by kernel_rfl) .u32 (by kernel_rfl) (w := w.setCell ⟨b, 1, none⟩ (.int .i32 1)) (a := ⟨b, 0, none⟩) (x := 0) ((World.cell?_setCell_other _ ⟨b, 1, none⟩ ⟨b, 0, none⟩ _ (by simp)).trans h0)
  have hp1 : (w.setCell ⟨b, 1, none⟩ (.int .i32 1)).cell? pl = some (.pointer (some ⟨b, 0, none⟩)) := (World.cell?_setCell_other _ ⟨b, 1, none⟩ pl _ (fun h => hpb (by rw [← h]))).trans hp
  have h31 : (w.setCell ⟨b, 1, none⟩ (.int .i32 1)).cell? ⟨b, 3, none⟩ = some (.map none) := (World.cell?_setCell_other _ ⟨b, 1, none⟩ ⟨b, 3, none⟩ _ (by simp)).trans h3
  have hbl : b < (w.setCell ⟨b, 1, none⟩ (.int .i32 1)).heap.size := by simp [World.setCell]; exact hb
  have h32 : ((w.setCell ⟨b, 1, none⟩ (.int .i32 1)).alloc (.map #[] 0)).cell? ⟨b, 3, none⟩ = some (.map none) := by rw [World.cell?_alloc_past _ _ _ hbl]; exact h31
  have f32 : ((w.setCell ⟨b, 1, none⟩ (.int .i32 1)).alloc (.map #[] 0)).frozen? ⟨b, 3, none⟩ = false := by rw [World.frozen?_alloc_past _ _ _ hbl, World.frozen?_setCell]; exact f0 3
  have hnot : ∀ (x : Bool) (w : World), (Op.unary .not (.bool x)).run Try.prog w = .ok (.bool (!x)) w := fun _ _ => rfl
  have hmm := @run_makeMap Try.prog
  go_enter_defers Try.func104, Try.ntmps104
  go_wp2_with (go_at_call 108; refine (lock_free ⟨b, 1, none⟩ _ (by go_simp) (by go_simp)).mono ?_; rintro e w' ⟨rfl, rfl⟩)
  go_wp2
  go_end0
  go_wp2
  obtain ⟨wd, hwd⟩ : ∃ wd, ((w.setCell ⟨b, 1, none⟩ (.int .i32 1)).setCell ⟨b, 3, none⟩ (.map (some w.heap.size))).alloc (.map #[] 0) = wd := ⟨_, rfl⟩
  rw [hwd]
  have hsz : ((w.setCell ⟨b, 1, none⟩ (.int .i32 1)).setCell ⟨b, 3, none⟩ (.map (some w.heap.size))).heap.size = w.heap.size := by simp [World.setCell]
  have hk : Kp (fun q => q = b) w wd := by rw [← hwd]; exact (((Kp.refl (fun q => q = b) w).setCell _ _ (.inl rfl)).setCell _ _ (.inl rfl)).alloc _
  have hm : wd.heap[w.heap.size]? = some (.map #[] 0) := by
    have := heap_alloc_new ((w.setCell ⟨b, 1, none⟩ (.int .i32 1)).setCell ⟨b, 3, none⟩ (.map (some w.heap.size))) (.map #[] 0)
    rw [hsz] at this
    rw [← hwd]
    exact this
  have hr : wd.heap[b]? = some (.cells #[.int .u32 0, .int .i32 1, .int .u32 0, .map (some w.heap.size), v] 124 (0, 0)) := by
    rw [← hwd, Below.heap_alloc _ _ _ (by rw [hsz]; exact hb)]
    exact heap_set_same (heap_set_same Hrow.out _) _
  have hne : w.heap.size ≠ b := by omega
  clear hwd hsz h0 h1 h3 f0 hl hp1 h31 hbl h32 f32 hnot hmm hp
  -- two deferred calls, the last one first
  refine leaves_cons (f := 110) (args := #[.pointer (some ⟨b, 0, none⟩), .bool true]) (by simp) (by simp [go_sem]) ?_
  refine (store_deferred ⟨b, 0, none⟩ (.int .u32 0) .returning wd ?_ ?_).mono ?_
  · rw [cell_of_row wd b 0 _ _ _ hr]; rfl
  · simp [World.frozen?, hr]
  rintro e u' w'' ⟨rfl, rfl, rfl⟩
  have hr2 := heap_set_same (w := wd.drew) (i := 0) hr (.int .u32 1)
  refine leaves_cons (f := 109) (args := #[.pointer (some ⟨b, 1, none⟩)]) (by simp [settle]) (by simp [go_sem]) ?_
  refine (unlock_deferred ⟨b, 1, none⟩ _ _ ?_ ?_).mono ?_
  · rw [cell_of_row _ b 1 _ _ _ hr2]; rfl
  · simp only [World.frozen?, hr2]; rfl
  rintro e u' w'' ⟨rfl, rfl, rfl⟩
  have hr3 := heap_set_same (i := 1) hr2 (.int .i32 0)
  have hfin : ((wd.drew.setCell ⟨b, 0, none⟩ (.int .u32 1)).setCell ⟨b, 1, none⟩ (.int .i32 0)).heap[b]? = some (.cells (atCells 1 (.map (some w.heap.size)) v) 124 (0, 0)) ∧
      ((wd.drew.setCell ⟨b, 0, none⟩ (.int .u32 1)).setCell ⟨b, 1, none⟩ (.int .i32 0)).heap[w.heap.size]? = some (.map #[] 0) ∧ Kp (fun q => q = b) w ((wd.drew.setCell ⟨b, 0, none⟩ (.int .u32 1)).setCell ⟨b, 1, none⟩ (.int .i32 0)) := by
    refine ⟨hr3, ?_, (hk.drew.setCell _ _ (.inl rfl)).setCell _ _ (.inl rfl)⟩
    rw [Below.heap_setCell _ _ _ _ hne, Below.heap_setCell _ _ _ _ hne]
    exact hm
  have Hf := Lib.hid hfin
  clear hfin hr3 hr2 hr hm hk
  exact ⟨_, results_none rfl _ _ _, rfl, Hf.out⟩
end Go.Proofs.Ytlnckpjpoaokjaa
