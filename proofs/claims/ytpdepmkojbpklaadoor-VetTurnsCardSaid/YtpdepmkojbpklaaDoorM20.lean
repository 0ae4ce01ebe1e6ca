/- Module, by what whole tells. What whole and Module tell, as posts. The reader as it is built: its cells. -/
import Derived.Test.YtpdepmkojbpklaaDoorM17
import Derived.Test.YtpdepmkojbpklaaDoorM18
import Derived.Test.YtpdepmkojbpklaaDoorM19
/- Module, by what whole tells. -/
namespace Go.Proofs.YtpdepmkojbpklaaDoor
open Go.RowKit

theorem at_nil (op : ByteArray) (n : Int) (w : World) : Calls Tryd.prog 21 #[.string op, .int .i64 n, .nilIface] w fun e w' => e = .returned .nilIface ∧ w' = w := by
  go_enter Tryd.func21, Tryd.ntmps21
  go_wp2
  go_ret
  exact ⟨rfl, rfl⟩
/-- fault.At around a chain -/
theorem at_chain (op : ByteArray) (n : Int) {B : Nat} {w : World} {v : Value} {a : Lk} {l : List Lk} (h : ChainB B w v (a :: l)) (hB : B ≤ w.heap.size) :
    Calls Tryd.prog 21 #[.string op, .int .i64 n, v] w fun e w' => ∃ v', e = .returned v' ∧ ChainB B w' v' (Lk.fault op n :: a :: l) ∧ Kp (fun _ => False) w w' := by
  obtain ⟨t, x, rfl⟩ : ∃ t x, v = .iface t x := by
    rcases id h with h | ⟨h0, g, inner, hg, h1, h2, h3⟩
    · exact ⟨_, _, h.2.1⟩
    · exact ⟨_, _, h1⟩
  refine (at_any op n t x w).mono ?_
  rintro e w' ⟨rfl, rfl⟩
  have hk : Kp (fun _ => False) w (w.alloc (.cells #[.string op, .int .i64 n, .iface t x] 66)) := (Kp.refl _ w).alloc _
  exact ⟨_, rfl, ChainB.cons op n (h.kp hk (fun _ e => e.elim)) hB (heap_alloc_new w _), hk⟩
set_option maxRecDepth 100000 in
set_option maxHeartbeats 4000000 in
theorem module_ok {c0 c1 c2 : Value} {w : World} (h : ∀ w1, Kp (fun _ => False) w w1 → Calls Tryd.prog 22 #[.agg #[c0, c1, c2]] w1 fun e w' => e = .returned .nilIface ∧ Kp (fun _ => False) w1 w') :
    Calls Tryd.prog 11 #[.agg #[c0, c1, c2]] w fun e w' => e = .returned .nilIface ∧ Kp (fun _ => False) w w' := by
  obtain ⟨w1, hw1⟩ : ∃ w1, w.alloc (.cells #[c0, c1, c2] 26) = w1 := ⟨_, rfl⟩
  have hk1 : Kp (fun _ => False) w w1 := by rw [← hw1]; exact (Kp.refl _ w).alloc _
  have hb : w1.heap[w.heap.size]? = some (.cells #[c0, c1, c2] 26 (0, 0)) := by rw [← hw1]; exact heap_alloc_new w _
  have y0 : w1.cell? ⟨w.heap.size, 0, none⟩ = some c0 := by rw [cell_of_row w1 _ 0 _ _ _ hb]; rfl
  have y1 : w1.cell? ⟨w.heap.size, 1, none⟩ = some c1 := by rw [cell_of_row w1 _ 1 _ _ _ hb]; rfl
  have y2 : w1.cell? ⟨w.heap.size, 2, none⟩ = some c2 := by rw [cell_of_row w1 _ 2 _ _ _ hb]; rfl
  have H := Lib.hid (And.intro (h w1 hk1) hk1)
  clear hb hk1 h
  go_enter Tryd.func11, Tryd.ntmps11
  go_wp2_with fail
  refine H.out.1.mono ?_
  rintro e w2 ⟨rfl, hk2⟩
  have H2 := Lib.hid (H.out.2.trans' hk2)
  clear hk2
  go_wp2_with fail
  refine (at_nil _ _ _).mono ?_
  rintro e w3 ⟨rfl, rfl⟩
  go_wp2_with fail
  go_ret
  exact ⟨rfl, H2.out⟩
set_option maxRecDepth 100000 in
set_option maxHeartbeats 4000000 in
theorem module_bad {c0 c1 c2 : Value} {w : World} {a : Lk} {l : List Lk} (h : ∀ w1, Kp (fun _ => False) w w1 → Calls Tryd.prog 22 #[.agg #[c0, c1, c2]] w1 (EBad w1 id (a :: l))) :
    Calls Tryd.prog 11 #[.agg #[c0, c1, c2]] w (EBad w id (Lk.fault ⟨#[109, 111, 100, 117, 108, 101]⟩ 0 :: a :: l)) := by
  obtain ⟨w1, hw1⟩ : ∃ w1, w.alloc (.cells #[c0, c1, c2] 26) = w1 := ⟨_, rfl⟩
  have hk1 : Kp (fun _ => False) w w1 := by rw [← hw1]; exact (Kp.refl _ w).alloc _
  have hb : w1.heap[w.heap.size]? = some (.cells #[c0, c1, c2] 26 (0, 0)) := by rw [← hw1]; exact heap_alloc_new w _
  have y0 : w1.cell? ⟨w.heap.size, 0, none⟩ = some c0 := by rw [cell_of_row w1 _ 0 _ _ _ hb]; rfl
  have y1 : w1.cell? ⟨w.heap.size, 1, none⟩ = some c1 := by rw [cell_of_row w1 _ 1 _ _ _ hb]; rfl
  have y2 : w1.cell? ⟨w.heap.size, 2, none⟩ = some c2 := by rw [cell_of_row w1 _ 2 _ _ _ hb]; rfl
  have H := Lib.hid (And.intro (h w1 hk1) hk1)
  clear hb hk1 h
  go_enter Tryd.func11, Tryd.ntmps11
  go_wp2_with fail
  refine H.out.1.mono ?_
  rintro e w2 ⟨v, rfl, hch, hk2⟩
  have H2 := Lib.hid (And.intro hch (And.intro (H.out.2.trans' hk2) (Nat.le_trans H.out.2.size (Nat.le_refl _))))
  have hz : w1.heap.size ≤ w2.heap.size := hk2.size
  clear hch hk2
  go_wp2_with fail
  refine (at_chain _ _ H2.out.1 hz).mono ?_
  rintro e w3 ⟨v', rfl, hch, hk3⟩
  have H3 := Lib.hid (And.intro hch hk3)
  clear hch hk3
  go_wp2_with fail
  go_ret
  exact ⟨_, rfl, H3.out.1.le H.out.2.size, H2.out.2.1.trans' H3.out.2⟩
end Go.Proofs.YtpdepmkojbpklaaDoor

/- What whole and Module tell, as posts. -/
namespace Go.Proofs.YtpdepmkojbpklaaDoor
open Go.RowKit

def fnS : ByteArray := ⟨#[102, 117, 110, 99, 116, 105, 111, 110]⟩
def atS : ByteArray := ⟨#[97, 116]⟩
def modS : ByteArray := ⟨#[109, 111, 100, 117, 108, 101]⟩
/-- a function that is wrong, and what is told of it -/
def FunWrong (nl : Nat) (fns : List Fn4) (i : Nat) (f : Fn4) (ls : List Lk) : Prop :=
  (vhead fns i f = false ∧ ls = [Lk.kind 11]) ∨ ∃ (p : Nat) (k : Int), FunSlip nl fns i f p k ∧ ls = [Lk.fault atS p, Lk.kind k]
/-- what function tells -/
def FunPost (nl : Nat) (fns : List Fn4) (i : Nat) (f : Fn4) (w : World) (e : Ending) (w' : World) : Prop :=
  ((e = .returned .nilIface ∧ FunGood nl fns i f) ∨ (e = .returned (.iface 42 (.int .i64 11)) ∧ vhead fns i f = false) ∨
    ∃ (p : Nat) (k : Int), e = .returned (.iface 92 (.agg #[.int .i64 p, .iface 42 (.int .i64 k)])) ∧ k ≠ 0 ∧ FunSlip nl fns i f p k) ∧ Kp (fun _ => False) w w'
/-- what whole tells: nothing, and all functions are right; or the first one that is wrong -/
def WholePost (nl : Nat) (fns : List Fn4) (w : World) (e : Ending) (w' : World) : Prop :=
  (e = .returned .nilIface ∧ Kp (fun _ => False) w w' ∧ ∀ (i : Nat) (f : Fn4), fns[i]? = some f → FunGood nl fns i f) ∨
  ∃ (i : Nat) (f : Fn4) (ls : List Lk), fns[i]? = some f ∧ (∀ (j : Nat) (g : Fn4), j < i → fns[j]? = some g → FunGood nl fns j g) ∧ FunWrong nl fns i f ls ∧ EBad w id (Lk.fault fnS i :: ls) e w'
theorem whole_nil {nl : Nat} {fns : List Fn4} {w : World} {e : Ending} {w' : World} (h : WholePost nl fns w e w') (hg : ∀ (i : Nat) (f : Fn4) (ls : List Lk), fns[i]? = some f → FunWrong nl fns i f ls → False) :
    e = .returned .nilIface ∧ Kp (fun _ => False) w w' := by
  rcases h with ⟨h1, h2, -⟩ | ⟨i, f, ls, h1, -, h2, -⟩
  · exact ⟨h1, h2⟩
  · exact (hg i f ls h1 h2).elim
theorem whole_wrong {nl : Nat} {fns : List Fn4} {w : World} {e : Ending} {w' : World} {L : List Lk} (h : WholePost nl fns w e w') (hb : (∀ (i : Nat) (f : Fn4), fns[i]? = some f → FunGood nl fns i f) → False)
    (hl : ∀ (i : Nat) (f : Fn4) (ls : List Lk), fns[i]? = some f → (∀ (j : Nat) (g : Fn4), j < i → fns[j]? = some g → FunGood nl fns j g) → FunWrong nl fns i f ls → Lk.fault fnS i :: ls = L) : EBad w id L e w' := by
  rcases h with ⟨-, -, h⟩ | ⟨i, f, ls, h1, h2, h3, h4⟩
  · exact (hb h).elim
  · rw [← hl i f ls h1 h2 h3]; exact h4
theorem vrng_nz {n lo hi k c : Int} (hk : k ≠ 0) (h : vrng n lo hi k = some c) : c ≠ 0 := by
  unfold vrng at h
  split at h <;> cases h
  exact hk
theorem vop_nz {nl nf nc : Nat} {sl what n k : Int} (h : vop nl nf nc sl what n = some k) : k ≠ 0 := by
  unfold vop at h
  repeat' split at h
  all_goals exact vrng_nz (by decide) h
theorem vins_nz {nl nf nc : Nat} {sl : Int} {x : In4} {ar k : Int} (h : vins nl nf nc sl x ar = some k) : k ≠ 0 := by
  unfold vins at h
  repeat' split at h
  · cases h; decide
  · rename_i e; cases h; exact vop_nz e
  · rename_i e; cases h; exact vop_nz e
  · rename_i e; cases h; exact vop_nz e
  · cases h; decide
  · cases h
theorem stepBad_nz {code : List In4} {p : Nat} {t k : Int} (h : StepBad code p t k) : k ≠ 0 := by
  obtain ⟨x, -, ⟨rfl, -⟩ | ⟨s, q, u, -, -, ⟨-, rfl⟩ | ⟨-, rfl, -⟩⟩⟩ := h <;> decide
/-- Module of a module that is right -/
theorem module_nil {nl : Nat} {fns : List Fn4} {c0 c1 c2 : Value} {w : World} (h : ∀ w1, Kp (fun _ => False) w w1 → Calls Tryd.prog 22 #[.agg #[c0, c1, c2]] w1 (WholePost nl fns w1))
    (hg : ∀ (i : Nat) (f : Fn4) (ls : List Lk), fns[i]? = some f → FunWrong nl fns i f ls → False) :
    Calls Tryd.prog 11 #[.agg #[c0, c1, c2]] w fun e w' => e = .returned .nilIface ∧ Kp (fun _ => False) w w' :=
  module_ok fun w1 hk => (h w1 hk).mono fun _ _ hp => whole_nil hp hg
/-- Module of one that is wrong -/
theorem module_wrong {nl : Nat} {fns : List Fn4} {c0 c1 c2 : Value} {w : World} {L : List Lk} {a : Lk} (h : ∀ w1, Kp (fun _ => False) w w1 → Calls Tryd.prog 22 #[.agg #[c0, c1, c2]] w1 (WholePost nl fns w1))
    (hb : (∀ (i : Nat) (f : Fn4), fns[i]? = some f → FunGood nl fns i f) → False)
    (hl : ∀ (i : Nat) (f : Fn4) (ls : List Lk), fns[i]? = some f → (∀ (j : Nat) (g : Fn4), j < i → fns[j]? = some g → FunGood nl fns j g) → FunWrong nl fns i f ls → Lk.fault fnS i :: ls = a :: L) :
    Calls Tryd.prog 11 #[.agg #[c0, c1, c2]] w (EBad w id (Lk.fault modS 0 :: a :: L)) :=
  module_bad fun w1 hk => (h w1 hk).mono fun _ _ hp => whole_wrong hp hb hl

/- a module of one function -/
theorem one_at {F f : Fn4} {i : Nat} (h : [F][i]? = some f) : i = 0 ∧ f = F := by
  match i, h with
  | 0, h => exact ⟨rfl, (Option.some.inj h).symm⟩
  | n + 1, h => cases h
theorem one_right {nl : Nat} {F : Fn4} (hh : vhead [F] 0 F = true) (hs : ∀ (p : Nat) (k : Int), FunSlip nl [F] 0 F p k → False) (i : Nat) (f : Fn4) (ls : List Lk) (hi : [F][i]? = some f) (hw : FunWrong nl [F] i f ls) : False := by
  obtain ⟨rfl, rfl⟩ := one_at hi
  rcases hw with ⟨h, -⟩ | ⟨p, k, h, -⟩
  · rw [hh] at h; cases h
  · exact hs p k h
theorem one_wrong {nl : Nat} {F : Fn4} {P : Nat} {K : Int} (hh : vhead [F] 0 F = true) (hs : ∀ (p : Nat) (k : Int), FunSlip nl [F] 0 F p k → p = P ∧ k = K) (i : Nat) (f : Fn4) (ls : List Lk) (hi : [F][i]? = some f)
    (_ : ∀ (j : Nat) (g : Fn4), j < i → [F][j]? = some g → FunGood nl [F] j g) (hw : FunWrong nl [F] i f ls) : Lk.fault fnS i :: ls = Lk.fault fnS 0 :: [Lk.fault atS P, Lk.kind K] := by
  obtain ⟨rfl, rfl⟩ := one_at hi
  rcases hw with ⟨h, -⟩ | ⟨p, k, h, rfl⟩
  · rw [hh] at h; cases h
  · obtain ⟨rfl, rfl⟩ := hs p k h
    rfl
/- a module of two -/
theorem two_at {F G f : Fn4} {i : Nat} (h : [F, G][i]? = some f) : (i = 0 ∧ f = F) ∨ (i = 1 ∧ f = G) := by
  match i, h with
  | 0, h => exact .inl ⟨rfl, (Option.some.inj h).symm⟩
  | 1, h => exact .inr ⟨rfl, (Option.some.inj h).symm⟩
  | n + 2, h => cases h
theorem two_right {nl : Nat} {F G : Fn4} (hh : vhead [F, G] 0 F = true) (hh2 : vhead [F, G] 1 G = true) (hs : ∀ (p : Nat) (k : Int), FunSlip nl [F, G] 0 F p k → False) (hs2 : ∀ (p : Nat) (k : Int), FunSlip nl [F, G] 1 G p k → False)
    (i : Nat) (f : Fn4) (ls : List Lk) (hi : [F, G][i]? = some f) (hw : FunWrong nl [F, G] i f ls) : False := by
  rcases two_at hi with ⟨rfl, rfl⟩ | ⟨rfl, rfl⟩
  · rcases hw with ⟨h, -⟩ | ⟨p, k, h, -⟩
    · rw [hh] at h; cases h
    · exact hs p k h
  · rcases hw with ⟨h, -⟩ | ⟨p, k, h, -⟩
    · rw [hh2] at h; cases h
    · exact hs2 p k h
theorem two_wrong {nl : Nat} {F G : Fn4} {P : Nat} {K : Int} (hh : vhead [F, G] 0 F = true) (hb : FunGood nl [F, G] 0 F → False) (hs : ∀ (p : Nat) (k : Int), FunSlip nl [F, G] 0 F p k → p = P ∧ k = K) (i : Nat) (f : Fn4) (ls : List Lk) (hi : [F, G][i]? = some f)
    (hg : ∀ (j : Nat) (g : Fn4), j < i → [F, G][j]? = some g → FunGood nl [F, G] j g) (hw : FunWrong nl [F, G] i f ls) : Lk.fault fnS i :: ls = Lk.fault fnS 0 :: [Lk.fault atS P, Lk.kind K] := by
  rcases two_at hi with ⟨rfl, rfl⟩ | ⟨rfl, rfl⟩
  · rcases hw with ⟨h, -⟩ | ⟨p, k, h, rfl⟩
    · rw [hh] at h; cases h
    · obtain ⟨rfl, rfl⟩ := hs p k h
      rfl
  · exact (hb (hg 0 _ (by decide) rfl)).elim
end Go.Proofs.YtpdepmkojbpklaaDoor

/- The reader as it is built: its cells. -/
namespace Go.Proofs.YtpdepmkojbpklaaDoor
open Go.RowKit

/-- a reader's cells: the module, the function, the shapes -/
def rdCells (m0 m1 m2 f0 f1 f2 f3 : Value) : Array Value := (m0 :: m1 :: m2 :: f0 :: f1 :: f2 :: f3 :: shTab).toArray
theorem rd_built (m0 m1 m2 f0 f1 f2 f3 : Value) (w : World) : (Instr.build 117 #[(0, .agg #[m0, m1, m2]), (1, .agg #[f0, f1, f2, f3]), (2, .agg shArr)]).run Tryd.prog w = .ok (.agg (rdCells m0 m1 m2 f0 f1 f2 f3)) w :=
  run_build w 117 _ _ (by kernel_rfl)
theorem rd_size (m0 m1 m2 f0 f1 f2 f3 : Value) : (rdCells m0 m1 m2 f0 f1 f2 f3).size = 133 := by kernel_rfl
theorem rd_shape (m0 m1 m2 f0 f1 f2 f3 : Value) (o i : Nat) (ho : o < 42) (hi : i < 3) : (rdCells m0 m1 m2 f0 f1 f2 f3)[7 + o * 3 + i]? = some (.int .i64 (vsh o i)) := by
  unfold rdCells
  rw [List.getElem?_toArray, show 7 + o * 3 + i = (o * 3 + i) + 1 + 1 + 1 + 1 + 1 + 1 + 1 from by omega]
  simp only [List.getElem?_cons_succ]
  exact shTab_at o i ho hi
theorem rd_all (m0 m1 m2 f0 f1 f2 f3 : Value) (h : [m0, m1, m2, f0, f1, f2, f3].all (·.oneCell') = true) : (rdCells m0 m1 m2 f0 f1 f2 f3).all (·.oneCell') = true := by
  have hs : shTab.all (·.oneCell') = true := by kernel_rfl
  unfold rdCells
  rw [List.all_toArray]
  simp only [List.all_cons, List.all_nil, Bool.and_true, Bool.and_eq_true] at h ⊢
  exact ⟨h.1, h.2.1, h.2.2.1, h.2.2.2.1, h.2.2.2.2.1, h.2.2.2.2.2.1, h.2.2.2.2.2.2, hs⟩
theorem rd_store (m0 m1 m2 f0 f1 f2 f3 : Value) (h : [m0, m1, m2, f0, f1, f2, f3].all (·.oneCell') = true) (w : World) (g : Nat) (old : Array Value) (ho : old.size = 133) (hg : w.heap[g]? = some (.cells old 117 (0, 0))) :
    (storeVar 117 ⟨g, 0, none⟩ (.agg (rdCells m0 m1 m2 f0 f1 f2 f3))).run Tryd.prog w = .ok () (w.setRow g (rdCells m0 m1 m2 f0 f1 f2 f3)) := by
  exact run_storeVar_row w g 117 117 old (rdCells m0 m1 m2 f0 f1 f2 f3) hg (by rw [rd_size]; kernel_rfl) (by rw [rd_size, ho]) (rd_all m0 m1 m2 f0 f1 f2 f3 h)
end Go.Proofs.YtpdepmkojbpklaaDoor
