/- What the statements' own codes lead to: a move, labels, rows of registers, tries in one another. (Plain data.) -/
import Derived.Test.YtpdepmkojbpklaaDoorM18
/- What the statements' own codes lead to: a move, labels, rows of registers, tries in one another. (Plain data.) -/
namespace Go.Proofs.YtpdepmkojbpklaaDoor
open Go.RowKit

/-- the Args of the function that an instruction names -/
def arOf (fns : List Fn4) (x : In4) : Int := ((fns[x.b.toNat]?).map (·.args)).getD 0
/-- what is wrong with an instruction of a function -/
def vcode (nl : Nat) (fns : List Fn4) (f : Fn4) (x : In4) : Option Int := vins nl fns.length f.code.length f.slots x (arOf fns x)
/-- a function that is right -/
structure FunGood (nl : Nat) (fns : List Fn4) (i : Nat) (f : Fn4) : Prop where
  head : vhead fns i f = true
  ins : ∀ (p : Nat) (x : In4), f.code[p]? = some x → vcode nl fns f x = none
  walk : ∃ ts, Walked f.code ts
/-- an instruction that is wrong, and how -/
def FunSlip (nl : Nat) (fns : List Fn4) (i : Nat) (f : Fn4) (p : Nat) (k : Int) : Prop :=
  vhead fns i f = true ∧ ((∃ x, f.code[p]? = some x ∧ (∀ (j : Nat) (y : In4), j < p → f.code[j]? = some y → vcode nl fns f y = none) ∧ vcode nl fns f x = some k) ∨
    ((∀ (q : Nat) (x : In4), f.code[q]? = some x → vcode nl fns f x = none) ∧ ∃ t, Reach f.code p t ∧ StepBad f.code p t k))

/-- without tries no place has any -/
theorem reach_zero {code : List In4} (h : ∀ (i : Nat) (x : In4), code[i]? = some x → x.op ≠ 24 ∧ x.op ≠ 25) {p : Nat} {t : Int} (hr : Reach code p t) : t = 0 := by
  induction hr with
  | zero => rfl
  | @step p q t u x s _ hx hs hm ih =>
    subst ih
    obtain ⟨h1, h2⟩ := h p x hx
    unfold vsteps at hs
    repeat' split at hs
    all_goals (cases hs <;> simp at hm <;> omega)
/-- a slip by going through, where no step is wrong -/
theorem slip_first {nl : Nat} {fns : List Fn4} {i : Nat} {f : Fn4} {p : Nat} {k : Int} (h : FunSlip nl fns i f p k) {q : Nat} {x : In4} {c : Int} (hx : f.code[q]? = some x) (hc : vcode nl fns f x = some c)
    (h0 : ∀ (j : Nat) (y : In4), j < q → f.code[j]? = some y → vcode nl fns f y = none) : p = q ∧ k = c := by
  obtain ⟨-, ⟨y, e1, e2, e3⟩ | ⟨e1, -⟩⟩ := h
  · by_cases hq : p < q
    · rw [h0 p y hq e1] at e3; cases e3
    · by_cases hq2 : q < p
      · rw [e2 q x hq2 hx] at hc; cases hc
      · obtain rfl : p = q := by omega
        rw [hx] at e1
        obtain rfl := Option.some.inj e1
        rw [hc] at e3
        exact ⟨rfl, (Option.some.inj e3).symm⟩
  · rw [e1 q x hx] at hc; cases hc
theorem slip_walk {nl : Nat} {fns : List Fn4} {i : Nat} {f : Fn4} {p : Nat} {k : Int} (h : FunSlip nl fns i f p k) (h0 : ∀ (j : Nat) (y : In4), f.code[j]? = some y → vcode nl fns f y = none) : ∃ t, Reach f.code p t ∧ StepBad f.code p t k := by
  obtain ⟨-, ⟨y, e1, e2, e3⟩ | ⟨-, e1⟩⟩ := h
  · rw [h0 p y e1] at e3; cases e3
  · exact e1
theorem good_not {nl : Nat} {fns : List Fn4} {i : Nat} {f : Fn4} (h : FunGood nl fns i f) {q : Nat} {x : In4} {c : Int} (hx : f.code[q]? = some x) (hc : vcode nl fns f x = some c) : False := by
  rw [h.ins q x hx] at hc; cases hc

/-- a code of steps without tries: what may be wrong -/
theorem stepBad_flat {code : List In4} (hn : ∀ (i : Nat) (x : In4), code[i]? = some x → x.op ≠ 24 ∧ x.op ≠ 25) {p : Nat} {t k : Int} (hr : Reach code p t) (hb : StepBad code p t k) :
    k = 13 ∧ ∃ x s u, code[p]? = some x ∧ vsteps x p 0 = some s ∧ ((code.length : Int), u) ∈ s := by
  obtain rfl := reach_zero hn hr
  obtain ⟨x, hx, ⟨-, h⟩ | ⟨s, q, u, hs, hm, ⟨rfl, hk⟩ | ⟨hq, hk, hu⟩⟩⟩ := hb
  · obtain ⟨h1, h2⟩ := hn p x hx
    unfold vsteps at h
    repeat' split at h
    all_goals (first | omega | cases h)
  · exact ⟨hk, x, s, u, hx, hs, hm⟩
  · exfalso
    obtain ⟨h1, h2⟩ := hn p x hx
    have hu0 : u = 0 := by
      unfold vsteps at hs
      repeat' split at hs
      all_goals (cases hs <;> simp at hm <;> omega)
    subst hu0
    rcases hu with h | ⟨u', q', -, h3, -, h5⟩
    · omega
    · exact h3 (reach_zero hn h5)

/- A MOVE -/
def fOf (s args : Int) (code : List In4) : Fn4 := ⟨⟨#[102]⟩, args, s, code⟩
theorem head_f (s args : Int) (code : List In4) (rest : List Fn4) (hs : 0 ≤ s ∧ s ≤ 32) (ha : 0 ≤ args ∧ args ≤ 8) (hc : 1 ≤ code.length ∧ code.length ≤ 16384) : vhead (fOf s args code :: rest) 0 (fOf s args code) = true := by
  have h1 : wi (code.length : Int) 1 16384 = true := wi_true.2 (by omega)
  have h2 : wi s 0 32 = true := wi_true.2 hs
  have h3 : wi args 0 8 = true := wi_true.2 ha
  simp only [vhead, fOf, h1, h2, h3, List.take_zero]
  rfl
def opCode (a b : Int) : List In4 := [⟨1, a, b, 0⟩, ⟨15, 0, 0, 0⟩]
def placeOk (a s : Int) : Prop := 0 ≤ a ∧ a < 16 ∨ 16 ≤ a ∧ a < 16 + s
def sourceOk (b s n : Int) : Prop := 0 ≤ b ∧ b < 16 ∨ 16 ≤ b ∧ b < 16 + s ∨ 64 ≤ b ∧ b < 64 + n
theorem vop_place {nl nf nc : Nat} {s a : Int} (hs : 0 ≤ s ∧ s ≤ 32) : (placeOk a s → vop nl nf nc s 1 a = none) ∧ (¬ placeOk a s → vop nl nf nc s 1 a = some 12) := by
  unfold placeOk vop vrng
  refine ⟨fun h => ?_, fun h => ?_⟩ <;> simp <;> repeat' split <;> (first | omega | rfl | skip)
  all_goals (try simp <;> omega)
theorem vop_source {nl nf nc : Nat} {s b : Int} (hs : 0 ≤ s ∧ s ≤ 32) : (sourceOk b s nl → vop nl nf nc s 2 b = none) ∧ (¬ sourceOk b s nl → vop nl nf nc s 2 b = some 12) := by
  unfold sourceOk vop vrng
  refine ⟨fun h => ?_, fun h => ?_⟩ <;> simp <;> repeat' split <;> (first | omega | rfl | skip)
  all_goals (try simp <;> omega)
theorem vop_zero {nl nf nc : Nat} {s : Int} : vop nl nf nc s 0 0 = none := by simp [vop, vrng]
theorem opCode_flat (a b : Int) : ∀ (i : Nat) (x : In4), (opCode a b)[i]? = some x → x.op ≠ 24 ∧ x.op ≠ 25 := by
  intro i x h
  match i, h with
  | 0, h => cases h; exact ⟨by simp, by simp⟩
  | 1, h => cases h; exact ⟨by simp, by simp⟩
  | n + 2, h => cases h
theorem vcode_move {nl : Nat} {fns : List Fn4} {f : Fn4} (a b : Int) (hs : 0 ≤ f.slots ∧ f.slots ≤ 32) : (placeOk a f.slots ∧ sourceOk b f.slots nl → vcode nl fns f ⟨1, a, b, 0⟩ = none) ∧ (¬ (placeOk a f.slots ∧ sourceOk b f.slots nl) → vcode nl fns f ⟨1, a, b, 0⟩ = some 12) := by
  obtain ⟨p1, p2⟩ := @vop_place nl fns.length f.code.length f.slots a hs
  obtain ⟨s1, s2⟩ := @vop_source nl fns.length f.code.length f.slots b hs
  unfold vcode vins
  simp only [show vsh 1 0 = 1 from rfl, show vsh 1 1 = 2 from rfl, show vsh 1 2 = 0 from rfl, vop_zero]
  refine ⟨fun h => ?_, fun h => ?_⟩
  · rw [p1 h.1, s1 h.2]
    simp [vregs]
  · by_cases hp : placeOk a f.slots
    · rw [p1 hp, s2 (fun e => h ⟨hp, e⟩)]
      simp
    · rw [p2 hp]
      simp
theorem vcode_ret {nl : Nat} {fns : List Fn4} {f : Fn4} : vcode nl fns f ⟨15, 0, 0, 0⟩ = none := by
  unfold vcode vins
  simp only [show vsh 15 0 = 0 from rfl, show vsh 15 1 = 0 from rfl, show vsh 15 2 = 0 from rfl, vop_zero]
  simp [vregs]
theorem move_good {nl : Nat} {s a b : Int} (hs : 0 ≤ s ∧ s ≤ 32) (h : placeOk a s ∧ sourceOk b s nl) {p : Nat} {k : Int} (hb : FunSlip nl [fOf s 0 (opCode a b)] 0 (fOf s 0 (opCode a b)) p k) : False := by
  obtain ⟨t, hr, hb⟩ := slip_walk hb (by
    intro j y hy
    match j, hy with
    | 0, hy => cases hy; exact (vcode_move a b hs).1 h
    | 1, hy => cases hy; exact vcode_ret
    | n + 2, hy => cases hy)
  obtain ⟨-, x, s', u, hx, hst, hm⟩ := stepBad_flat (opCode_flat a b) hr hb
  match p, hx with
  | 0, hx => cases hx; cases hst; simp [opCode] at hm
  | 1, hx => cases hx; cases hst; simp at hm
  | n + 2, hx => cases hx
theorem move_bad {nl : Nat} {s a b : Int} (hs : 0 ≤ s ∧ s ≤ 32) (h : ¬ (placeOk a s ∧ sourceOk b s nl)) :
    (FunGood nl [fOf s 0 (opCode a b)] 0 (fOf s 0 (opCode a b)) → False) ∧ ∀ (p : Nat) (k : Int), FunSlip nl [fOf s 0 (opCode a b)] 0 (fOf s 0 (opCode a b)) p k → p = 0 ∧ k = 12 := by
  have hv : vcode nl [fOf s 0 (opCode a b)] (fOf s 0 (opCode a b)) ⟨1, a, b, 0⟩ = some 12 := (vcode_move a b hs).2 h
  exact ⟨fun hg => good_not hg (q := 0) rfl hv, fun p k hb => slip_first hb rfl hv (fun j _ hj => absurd hj (Nat.not_lt_zero j))⟩

/- LABELS -/
def labCode (k : Nat) (label : Int) (falls : Bool) : List In4 := List.replicate k ⟨40, 0, 0, 0⟩ ++ [⟨5, 0, 0, label⟩, if falls then ⟨40, 0, 0, 0⟩ else ⟨15, 0, 0, 0⟩]
theorem labCode_len (k : Nat) (label : Int) (falls : Bool) : (labCode k label falls).length = k + 2 := by simp [labCode]
theorem labCode_at {k : Nat} {label : Int} {falls : Bool} {i : Nat} {x : In4} (h : (labCode k label falls)[i]? = some x) :
    (i < k ∧ x = ⟨40, 0, 0, 0⟩) ∨ (i = k ∧ x = ⟨5, 0, 0, label⟩) ∨ (i = k + 1 ∧ falls = true ∧ x = ⟨40, 0, 0, 0⟩) ∨ (i = k + 1 ∧ falls = false ∧ x = ⟨15, 0, 0, 0⟩) := by
  unfold labCode at h
  rw [List.getElem?_append] at h
  simp only [List.length_replicate] at h
  split at h
  · rename_i hi
    rw [List.getElem?_replicate, if_pos hi] at h
    exact .inl ⟨hi, (Option.some.inj h).symm⟩
  · obtain ⟨j, rfl⟩ : ∃ j, i = k + j := ⟨i - k, by omega⟩
    rw [show k + j - k = j from by omega] at h
    match j, h with
    | 0, h => cases h; exact .inr (.inl ⟨rfl, rfl⟩)
    | 1, h => cases falls <;> cases h; exact .inr (.inr (.inr ⟨rfl, rfl, rfl⟩)); exact .inr (.inr (.inl ⟨rfl, rfl, rfl⟩))
    | n + 2, h => cases h
theorem labCode_mid (k : Nat) (label : Int) (falls : Bool) : (labCode k label falls)[k]? = some ⟨5, 0, 0, label⟩ := by simp [labCode]
theorem labCode_end (k : Nat) (label : Int) : (labCode k label true)[k + 1]? = some ⟨40, 0, 0, 0⟩ := by simp [labCode]
theorem labCode_low {k i : Nat} {label : Int} {falls : Bool} (h : i < k) : (labCode k label falls)[i]? = some ⟨40, 0, 0, 0⟩ := by simp [labCode, List.getElem?_append, h]
theorem labCode_flat (k : Nat) (label : Int) (falls : Bool) : ∀ (i : Nat) (x : In4), (labCode k label falls)[i]? = some x → x.op ≠ 24 ∧ x.op ≠ 25 := by
  intro i x h
  rcases labCode_at h with ⟨-, rfl⟩ | ⟨-, rfl⟩ | ⟨-, -, rfl⟩ | ⟨-, -, rfl⟩ <;> simp
theorem vcode_yield {nl : Nat} {fns : List Fn4} {f : Fn4} : vcode nl fns f ⟨40, 0, 0, 0⟩ = none := by
  unfold vcode vins
  simp only [show vsh 40 0 = 0 from rfl, show vsh 40 1 = 0 from rfl, show vsh 40 2 = 0 from rfl, vop_zero]
  simp [vregs]
theorem vop_source0 {nl nf nc : Nat} {s : Int} : vop nl nf nc s 2 0 = none := by simp [vop, vrng]
theorem vcode_ifeq {nl : Nat} {fns : List Fn4} {f : Fn4} (label : Int) : (0 ≤ label ∧ label < f.code.length → vcode nl fns f ⟨5, 0, 0, label⟩ = none) ∧ (¬ (0 ≤ label ∧ label < f.code.length) → vcode nl fns f ⟨5, 0, 0, label⟩ = some 13) := by
  have hv : ∀ c : Int, vcode nl fns f ⟨5, 0, 0, c⟩ = vop nl fns.length f.code.length f.slots 4 c := by
    intro c
    unfold vcode vins
    simp only [show vsh 5 0 = 2 from rfl, show vsh 5 1 = 2 from rfl, show vsh 5 2 = 4 from rfl, vop_source0]
    cases vop nl fns.length f.code.length f.slots 4 c <;> simp [vregs]
  rw [hv]
  unfold vop vrng
  refine ⟨fun h => ?_, fun h => ?_⟩ <;> simp <;> omega
theorem lab_none {nl : Nat} {fns : List Fn4} {s : Int} {k : Nat} {label : Int} {falls : Bool} (h : 0 ≤ label ∧ label < (k + 2 : Nat)) : ∀ (j : Nat) (y : In4), (labCode k label falls)[j]? = some y → vcode nl fns (fOf s 0 (labCode k label falls)) y = none := by
  intro j y hy
  rcases labCode_at hy with ⟨-, rfl⟩ | ⟨-, rfl⟩ | ⟨-, -, rfl⟩ | ⟨-, -, rfl⟩
  · exact vcode_yield
  · exact (vcode_ifeq label).1 (by simp only [fOf, labCode_len]; omega)
  · exact vcode_yield
  · exact vcode_ret
theorem lab_out {nl : Nat} {fns : List Fn4} {i : Nat} {s : Int} {k : Nat} {label : Int} {falls : Bool} (h : ¬ (0 ≤ label ∧ label < (k + 2 : Nat))) :
    (FunGood nl fns i (fOf s 0 (labCode k label falls)) → False) ∧ ∀ (p : Nat) (c : Int), FunSlip nl fns i (fOf s 0 (labCode k label falls)) p c → p = k ∧ c = 13 := by
  have hv : vcode nl fns (fOf s 0 (labCode k label falls)) ⟨5, 0, 0, label⟩ = some 13 := (vcode_ifeq label).2 (by simp only [fOf, labCode_len]; omega)
  refine ⟨fun hg => good_not hg (q := k) (labCode_mid k label falls) hv, fun p c hb => slip_first hb (labCode_mid k label falls) hv ?_⟩
  intro j y hj hy
  rcases labCode_at hy with ⟨-, rfl⟩ | ⟨e, -⟩ | ⟨e, -⟩ | ⟨e, -⟩
  · exact vcode_yield
  all_goals omega
theorem lab_reach (k : Nat) (label : Int) (falls : Bool) : ∀ i, i ≤ k → Reach (labCode k label falls) i 0 := by
  intro i
  induction i with
  | zero => exact fun _ => .zero
  | succ i ih =>
    intro h
    exact .step (ih (by omega)) (labCode_low (by omega)) (s := [((i + 1 : Nat), 0)]) rfl (List.mem_cons_self ..)
theorem lab_steps {k : Nat} {label : Int} {falls : Bool} (h : 0 ≤ label ∧ label < (k + 2 : Nat)) {p : Nat} {x : In4} {s : List (Int × Int)} {u : Int} (hx : (labCode k label falls)[p]? = some x) (hs : vsteps x p 0 = some s) (hm : (((labCode k label falls).length : Int), u) ∈ s) :
    p = k + 1 ∧ falls = true := by
  rw [labCode_len] at hm
  rcases labCode_at hx with ⟨hp, rfl⟩ | ⟨hp, rfl⟩ | ⟨hp, hf, rfl⟩ | ⟨hp, hf, rfl⟩
  · cases hs; simp at hm; omega
  · cases hs; simp [vgoal] at hm; omega
  · exact ⟨hp, hf⟩
  · cases hs; simp at hm
theorem lab_falls {nl : Nat} {fns : List Fn4} {i : Nat} {s : Int} {k : Nat} {label : Int} (h : 0 ≤ label ∧ label < (k + 2 : Nat)) :
    (FunGood nl fns i (fOf s 0 (labCode k label true)) → False) ∧ ∀ (p : Nat) (c : Int), FunSlip nl fns i (fOf s 0 (labCode k label true)) p c → p = k + 1 ∧ c = 13 := by
  refine ⟨fun hg => ?_, fun p c hb => ?_⟩
  · obtain ⟨ts, hw⟩ := hg.walk
    have r1 : Reach (labCode k label true) (k + 1) 0 := .step (lab_reach k label true k (Nat.le_refl _)) (labCode_mid k label true) (s := [((k + 1 : Nat), 0), (label, 0)]) rfl (List.mem_cons_self ..)
    have r2 : Reach (labCode k label true) (k + 2) 0 := .step r1 (labCode_end k label) (s := [((k + 2 : Nat), 0)]) rfl (List.mem_cons_self ..)
    have := (List.getElem?_eq_some_iff.1 (hw.all _ _ r2)).1
    have hl := hw.len
    simp only [fOf, labCode_len] at hl
    omega
  · obtain ⟨t, hr, hb⟩ := slip_walk hb (lab_none h)
    obtain ⟨hk, x, s', u, hx, hst, hm⟩ := stepBad_flat (labCode_flat k label true) hr hb
    exact ⟨(lab_steps h hx hst hm).1, hk⟩
theorem lab_ret {nl : Nat} {fns : List Fn4} {i : Nat} {s : Int} {k : Nat} {label : Int} (h : 0 ≤ label ∧ label < (k + 2 : Nat)) {p : Nat} {c : Int} (hb : FunSlip nl fns i (fOf s 0 (labCode k label false)) p c) : False := by
  obtain ⟨t, hr, hb⟩ := slip_walk hb (lab_none h)
  obtain ⟨hk, x, s', u, hx, hst, hm⟩ := stepBad_flat (labCode_flat k label false) hr hb
  exact absurd (lab_steps h hx hst hm).2 (by simp)

/- ROWS OF REGISTERS -/
def gOf (args : Int) : Fn4 := ⟨⟨#[103]⟩, args, 0, [⟨15, 0, 0, 0⟩]⟩
def rowIns (k : Nat) (a c : Int) : In4 := if k = 0 then ⟨2, 0, a, c⟩ else if k = 1 then ⟨16, 0, 1, a⟩ else ⟨37, 0, a, 0⟩
def rowMany (k : Nat) (c fa : Int) : Int := if k = 0 then c else if k = 1 then fa else 3
def rowFns (k : Nat) (a c fa : Int) : List Fn4 := [fOf 0 0 [rowIns k a c, ⟨15, 0, 0, 0⟩], gOf fa]
theorem head_g (k : Nat) (a c fa : Int) (h : 0 ≤ fa ∧ fa ≤ 8) : vhead (rowFns k a c fa) 1 (gOf fa) = true := by
  have h3 : wi fa 0 8 = true := wi_true.2 h
  simp only [vhead, gOf, rowFns, fOf, h3, vnamed, List.take, List.any]
  rfl
theorem vop_first {nl nf nc : Nat} {s a : Int} : (0 ≤ a ∧ a < 16 → vop nl nf nc s 3 a = none) ∧ (¬ (0 ≤ a ∧ a < 16) → vop nl nf nc s 3 a = some 12) := by
  unfold vop vrng
  refine ⟨fun h => ?_, fun h => ?_⟩ <;> simp <;> omega
theorem vop_count {nl nf nc : Nat} {s a : Int} (h : 0 ≤ a ∧ a ≤ 16) : vop nl nf nc s 8 a = none := by
  unfold vop vrng
  simp; omega
theorem vop_place0 {nl nf nc : Nat} {s : Int} : vop nl nf nc s 1 0 = none := by simp [vop, vrng]
theorem vop_callee1 {nl nc : Nat} {s : Int} : vop nl 2 nc s 6 1 = none := by simp [vop, vrng]
theorem vcode_row {nl k : Nat} {f : Fn4} {a c fa : Int} (ha : 0 ≤ a) (hc : 0 ≤ c ∧ c ≤ 16) :
    (a < 16 ∧ a + rowMany k c fa ≤ 16 → vcode nl (rowFns k a c fa) f (rowIns k a c) = none) ∧ (¬ (a < 16 ∧ a + rowMany k c fa ≤ 16) → vcode nl (rowFns k a c fa) f (rowIns k a c) = some 12) := by
  obtain ⟨q1, q2⟩ := @vop_first nl (rowFns k a c fa).length f.code.length f.slots a
  have hl : (rowFns k a c fa).length = 2 := rfl
  rw [hl] at q1 q2
  unfold vcode vins
  rw [hl]
  by_cases k0 : k = 0
  · subst k0
    simp only [rowIns, rowMany, if_true, show vsh 2 0 = 1 from rfl, show vsh 2 1 = 3 from rfl, show vsh 2 2 = 8 from rfl, vop_place0, vop_count hc]
    by_cases h16 : a < 16
    · rw [q1 ⟨ha, h16⟩]
      simp [vregs]
      omega
    · rw [q2 (by omega)]
      simp [h16]
  by_cases k1 : k = 1
  · subst k1
    simp only [rowIns, rowMany, show (1 : Nat) ≠ 0 from by decide, if_false, if_true, show vsh 16 0 = 1 from rfl, show vsh 16 1 = 6 from rfl, show vsh 16 2 = 3 from rfl, vop_place0, vop_callee1]
    have har : arOf (rowFns 1 a c fa) ⟨16, 0, 1, a⟩ = fa := rfl
    rw [har]
    by_cases h16 : a < 16
    · rw [q1 ⟨ha, h16⟩]
      simp [vregs]
      omega
    · rw [q2 (by omega)]
      simp [h16]
  · simp only [rowIns, rowMany, k0, k1, if_false, show vsh 37 0 = 1 from rfl, show vsh 37 1 = 3 from rfl, show vsh 37 2 = 0 from rfl, vop_place0, vop_zero]
    by_cases h16 : a < 16
    · rw [q1 ⟨ha, h16⟩]
      simp [vregs]
      omega
    · rw [q2 (by omega)]
      simp [h16]
theorem rowIns_flat (k : Nat) (a c : Int) : (rowIns k a c).op ≠ 24 ∧ (rowIns k a c).op ≠ 25 := by
  unfold rowIns; split <;> (try split) <;> simp
theorem rowIns_steps (k : Nat) (a c : Int) (p : Nat) : vsteps (rowIns k a c) p 0 = some [(((p + 1 : Nat) : Int), (0 : Int))] := by
  unfold rowIns; split <;> (try split) <;> rfl
theorem row_good {nl k : Nat} {a c fa : Int} (ha : 0 ≤ a) (hc : 0 ≤ c ∧ c ≤ 16) (h : a < 16 ∧ a + rowMany k c fa ≤ 16) {p : Nat} {e : Int} (hb : FunSlip nl (rowFns k a c fa) 0 (fOf 0 0 [rowIns k a c, ⟨15, 0, 0, 0⟩]) p e) : False := by
  obtain ⟨t, hr, hb⟩ := slip_walk hb (by
    intro j y hy
    match j, hy with
    | 0, hy => cases hy; exact (vcode_row ha hc).1 h
    | 1, hy => cases hy; exact vcode_ret
    | n + 2, hy => cases hy)
  obtain ⟨-, x, s', u, hx, hst, hm⟩ := stepBad_flat (by
    intro j y hy
    match j, hy with
    | 0, hy => cases hy; exact rowIns_flat k a c
    | 1, hy => cases hy; exact ⟨by simp, by simp⟩
    | n + 2, hy => cases hy) hr hb
  match p, hx with
  | 0, hx => cases hx; rw [rowIns_steps] at hst; cases hst; simp [fOf] at hm
  | 1, hx => cases hx; cases hst; simp at hm
  | n + 2, hx => cases hx
theorem row_good2 {nl k i : Nat} {a c fa : Int} {p : Nat} {e : Int} (hb : FunSlip nl (rowFns k a c fa) i (gOf fa) p e) : False := by
  obtain ⟨t, hr, hb⟩ := slip_walk hb (by
    intro j y hy
    match j, hy with
    | 0, hy => cases hy; exact vcode_ret
    | n + 1, hy => cases hy)
  obtain ⟨-, x, s', u, hx, hst, hm⟩ := stepBad_flat (by
    intro j y hy
    match j, hy with
    | 0, hy => cases hy; exact ⟨by simp, by simp⟩
    | n + 1, hy => cases hy) hr hb
  match p, hx with
  | 0, hx => cases hx; cases hst; simp at hm
  | n + 1, hx => cases hx
theorem row_bad {nl k : Nat} {a c fa : Int} (ha : 0 ≤ a) (hc : 0 ≤ c ∧ c ≤ 16) (h : ¬ (a < 16 ∧ a + rowMany k c fa ≤ 16)) :
    (FunGood nl (rowFns k a c fa) 0 (fOf 0 0 [rowIns k a c, ⟨15, 0, 0, 0⟩]) → False) ∧ ∀ (p : Nat) (e : Int), FunSlip nl (rowFns k a c fa) 0 (fOf 0 0 [rowIns k a c, ⟨15, 0, 0, 0⟩]) p e → p = 0 ∧ e = 12 := by
  have hv : vcode nl (rowFns k a c fa) (fOf 0 0 [rowIns k a c, ⟨15, 0, 0, 0⟩]) (rowIns k a c) = some 12 := (vcode_row ha hc).2 h
  exact ⟨fun hg => good_not hg (q := 0) rfl hv, fun p k hb => slip_first hb rfl hv (fun j _ hj => absurd hj (Nat.not_lt_zero j))⟩

/- NESTS -/
def nestCode (n k : Nat) : List In4 :=
  ((List.range n).map fun i : Nat => (⟨24, ((n + k + 1 + i : Nat) : Int), 0, 0⟩ : In4)) ++ (List.replicate k ⟨25, 0, 0, 0⟩ ++ (⟨15, 0, 0, 0⟩ :: List.replicate n ⟨27, 0, 0, 0⟩))
theorem nest_len (n k : Nat) : (nestCode n k).length = n + (k + (1 + n)) := by simp [nestCode]; omega
theorem nest_try {n k i : Nat} (h : i < n) : (nestCode n k)[i]? = some ⟨24, ((n + k + 1 + i : Nat) : Int), 0, 0⟩ := by
  unfold nestCode
  rw [List.getElem?_append_left (by simpa using h), List.getElem?_map, List.getElem?_range h]
  rfl
theorem nest_end {n k j : Nat} (h : j < k) : (nestCode n k)[n + j]? = some ⟨25, 0, 0, 0⟩ := by
  unfold nestCode
  rw [List.getElem?_append_right (by simp), List.length_map, List.length_range, show n + j - n = j from by omega, List.getElem?_append_left (by simpa using h), List.getElem?_replicate, if_pos h]
theorem nest_ret {n k : Nat} : (nestCode n k)[n + k]? = some ⟨15, 0, 0, 0⟩ := by
  unfold nestCode
  rw [List.getElem?_append_right (by simp), List.length_map, List.length_range, show n + k - n = k from by omega, List.getElem?_append_right (by simp), List.length_replicate, Nat.sub_self]
  rfl
theorem nest_at {n k p : Nat} {x : In4} (h : (nestCode n k)[p]? = some x) :
    (p < n ∧ x = ⟨24, ((n + k + 1 + p : Nat) : Int), 0, 0⟩) ∨ (n ≤ p ∧ p < n + k ∧ x = ⟨25, 0, 0, 0⟩) ∨ (p = n + k ∧ x = ⟨15, 0, 0, 0⟩) ∨ (n + k < p ∧ p < n + k + 1 + n ∧ x = ⟨27, 0, 0, 0⟩) := by
  by_cases h1 : p < n
  · rw [nest_try h1] at h; exact .inl ⟨h1, (Option.some.inj h).symm⟩
  by_cases h2 : p < n + k
  · obtain ⟨j, rfl⟩ : ∃ j, p = n + j := ⟨p - n, by omega⟩
    rw [nest_end (by omega)] at h; exact .inr (.inl ⟨by omega, h2, (Option.some.inj h).symm⟩)
  by_cases h3 : p = n + k
  · subst h3
    rw [nest_ret] at h; exact .inr (.inr (.inl ⟨rfl, (Option.some.inj h).symm⟩))
  · have hl := (List.getElem?_eq_some_iff.1 h).1
    rw [nest_len] at hl
    obtain ⟨j, rfl⟩ : ∃ j, p = n + (k + (j + 1)) := ⟨p - n - k - 1, by omega⟩
    unfold nestCode at h
    rw [List.getElem?_append_right (by simp), List.length_map, List.length_range, show n + (k + (j + 1)) - n = k + (j + 1) from by omega, List.getElem?_append_right (by simp), List.length_replicate,
      show k + (j + 1) - k = j + 1 from by omega, List.getElem?_cons_succ, List.getElem?_replicate, if_pos (by omega)] at h
    exact .inr (.inr (.inr ⟨by omega, by omega, (Option.some.inj h).symm⟩))
theorem vcode_try {nl : Nat} {fns : List Fn4} {f : Fn4} {l : Int} (h : 0 ≤ l ∧ l < f.code.length) : vcode nl fns f ⟨24, l, 0, 0⟩ = none := by
  have h4 : vop nl fns.length f.code.length f.slots 4 l = none := by unfold vop vrng; simp; omega
  unfold vcode vins
  simp only [show vsh 24 0 = 4 from rfl, show vsh 24 1 = 0 from rfl, show vsh 24 2 = 0 from rfl, vop_zero, h4]
  simp [vregs]
theorem vcode_end {nl : Nat} {fns : List Fn4} {f : Fn4} : vcode nl fns f ⟨25, 0, 0, 0⟩ = none := by
  unfold vcode vins
  simp only [show vsh 25 0 = 0 from rfl, show vsh 25 1 = 0 from rfl, show vsh 25 2 = 0 from rfl, vop_zero]
  simp [vregs]
theorem vcode_exit {nl : Nat} {fns : List Fn4} {f : Fn4} : vcode nl fns f ⟨27, 0, 0, 0⟩ = none := by
  unfold vcode vins
  simp only [show vsh 27 0 = 2 from rfl, show vsh 27 1 = 0 from rfl, show vsh 27 2 = 0 from rfl, vop_zero, vop_source0]
  simp [vregs]
theorem nest_none {nl : Nat} {fns : List Fn4} {n k : Nat} : ∀ (j : Nat) (y : In4), (nestCode n k)[j]? = some y → vcode nl fns (fOf 0 0 (nestCode n k)) y = none := by
  intro j y hy
  rcases nest_at hy with ⟨hj, rfl⟩ | ⟨-, -, rfl⟩ | ⟨-, rfl⟩ | ⟨-, -, rfl⟩
  · exact vcode_try (by simp only [fOf, nest_len]; omega)
  · exact vcode_end
  · exact vcode_ret
  · exact vcode_exit
theorem nest_up (n k : Nat) : ∀ i : Nat, i ≤ n → Reach (nestCode n k) i i := by
  intro i
  induction i with
  | zero => exact fun _ => .zero
  | succ i ih =>
    intro h
    exact .step (ih (by omega)) (nest_try (by omega)) (s := [((i + 1 : Nat), (i : Int) + 1), (((n + k + 1 + i : Nat) : Int), (i : Int))]) rfl (by simp)
theorem nest_down (n k : Nat) : ∀ j : Nat, j ≤ k → j ≤ n → Reach (nestCode n k) (n + j) ((n : Int) - j) := by
  intro j
  induction j with
  | zero => exact fun _ _ => by simpa using nest_up n k n (Nat.le_refl _)
  | succ j ih =>
    intro h1 h2
    refine .step (ih (by omega) (by omega)) (nest_end (by omega)) (s := [((n + j + 1 : Nat), (n : Int) - j - 1)]) ?_ (by simp; omega)
    have : ¬ (n : Int) - j = 0 := by omega
    simp [vsteps, this]
theorem nest_only {nl : Nat} {fns : List Fn4} {i n k : Nat} (h : FunGood nl fns i (fOf 0 0 (nestCode n k))) : n = k ∧ n ≤ 8 := by
  obtain ⟨ts, hw⟩ := h.walk
  have h8 : n ≤ 8 := by
    have := (hw.sound n n (hw.all _ _ (nest_up n k n (Nat.le_refl _))) (by omega)).2.2
    omega
  refine ⟨?_, h8⟩
  by_cases h1 : n < k
  · exfalso
    have := nest_down n k n (by omega) (Nat.le_refl _)
    rw [Int.sub_self] at this
    exact hw.good _ _ _ this (nest_end h1) rfl
  by_cases h2 : k < n
  · exfalso
    exact hw.good _ _ _ (nest_down n k k (Nat.le_refl _) (by omega)) nest_ret (by simp [vsteps]; omega)
  · omega
theorem nest_reach {n : Nat} {p : Nat} {t : Int} (h : Reach (nestCode n n) p t) : (p ≤ n ∧ t = p) ∨ (n < p ∧ p ≤ n + n ∧ t = 2 * (n : Int) - p) ∨ (n + n < p ∧ t = (p : Int) - (n + n + 1)) := by
  induction h with
  | zero => exact .inl ⟨by omega, rfl⟩
  | @step p q t u x s _ hx hs hm ih =>
    rcases nest_at hx with ⟨hp, rfl⟩ | ⟨hp1, hp2, rfl⟩ | ⟨hp, rfl⟩ | ⟨hp1, hp2, rfl⟩
    · obtain rfl : t = p := by omega
      cases hs
      simp [vgoal] at hm
      omega
    · have ht : ¬ t = 0 := by omega
      have hv : vsteps ⟨25, 0, 0, 0⟩ p t = some [(((p + 1 : Nat) : Int), t - 1)] := by simp [vsteps, ht]
      rw [hv] at hs; cases hs
      simp at hm
      omega
    · obtain rfl : t = 0 := by omega
      cases hs; cases hm
    · cases hs; cases hm
theorem nest_right {nl : Nat} {fns : List Fn4} {i n : Nat} (h8 : n ≤ 8) {p : Nat} {c : Int} (hb : FunSlip nl fns i (fOf 0 0 (nestCode n n)) p c) : False := by
  obtain ⟨t, hr, hb⟩ := slip_walk hb nest_none
  have hr' : Reach (nestCode n n) p t := hr
  have ht := nest_reach hr'
  have key : ∀ (x : In4) (s : List (Int × Int)) (q u : Int), (nestCode n n)[p]? = some x → vsteps x p t = some s → (q, u) ∈ s → q < ((nestCode n n).length : Int) ∧ u ≤ 8 ∧ ((q ≤ n ∧ u = q) ∨ (n < q ∧ q ≤ n + n ∧ u = 2 * (n : Int) - q) ∨ ((n : Int) + n < q ∧ u = q - (n + n + 1))) := by
    intro x s q u hx hs hm
    rw [nest_len]
    rcases nest_at hx with ⟨hp, rfl⟩ | ⟨hp1, hp2, rfl⟩ | ⟨hp, rfl⟩ | ⟨hp1, hp2, rfl⟩
    · obtain rfl : t = p := by omega
      cases hs
      simp [vgoal] at hm
      omega
    · have ht : ¬ t = 0 := by omega
      have hv : vsteps ⟨25, 0, 0, 0⟩ p t = some [(((p + 1 : Nat) : Int), t - 1)] := by simp [vsteps, ht]
      rw [hv] at hs; cases hs
      simp at hm
      omega
    · obtain rfl : t = 0 := by omega
      cases hs; cases hm
    · cases hs; cases hm
  obtain ⟨x, hx, ⟨-, h⟩ | ⟨s, q, u, hs, hm, hh⟩⟩ := hb
  · have hx' : (nestCode n n)[p]? = some x := hx
    rcases nest_at hx' with ⟨hp, rfl⟩ | ⟨hp1, hp2, rfl⟩ | ⟨hp, rfl⟩ | ⟨hp1, hp2, rfl⟩
    · cases h
    · have ht : ¬ t = 0 := by omega
      simp [vsteps, ht] at h
    · obtain rfl : t = 0 := by omega
      cases h
    · cases h
  · obtain ⟨k1, k2, k3⟩ := key x s q u hx hs hm
    have k1' : q < ((fOf 0 0 (nestCode n n)).code.length : Int) := k1
    rcases hh with ⟨e, -⟩ | ⟨-, -, e | ⟨u', q', rfl, e2, -, e4⟩⟩
    · omega
    · omega
    · have := nest_reach (show Reach (nestCode n n) q' u' from e4)
      omega
end Go.Proofs.YtpdepmkojbpklaaDoor
