/- The Go function WordFull returns true for every number: a table of atoms has room for just MaxAtoms names, a new one more is refused, and an old one still has its number. Conditions: none beyond the statement's own. -/
import Derived.Test.YtmghneglfnkihaaRows
import Derived.Test.YtmghneglfnkihaaBoth
import Derived.Test.YtmghneglfnkihaaDec
import Derived.Test.YtmghneglfnkihaaPlace
import Derived.WalkKit
import Derived.ProofKit
import Derived.OpenShut
import Derived.ShutString
import Derived.ChangeOld
import Derived.Below
import Derived.Deep.Strs
namespace Go.Proofs.Ytmghneglfnkihaa.wordFull
open Go.ChangeShapes Go.WideShapes Go.ChangeAt Go.RowKit
open Go.ChangeMaps (open_string shut_string)
set_option linter.unusedVariables false

theorem own : ownKnob Try.prog.godebug = none := by kernel_rfl
theorem laidOut : laidOutB Try.prog = true := by kernel_rfl

/-- the names that are put in -/
def nameOf (i : Nat) : ByteArray := ⟨(97 :: dec i).toArray⟩
theorem nameOf_inj {i j : Nat} (hi : i < 1024) (hj : j < 1024) (h : nameOf i = nameOf j) : i = j := by
  have h1 := congrArg (fun b : ByteArray => b.data.toList) h
  have h2 : dec i = dec j := by
    have : (97 :: dec i) = 97 :: dec j := h1
    injection this
  exact dec_inj (by omega) (by omega) h2
theorem nameOf_size (i : Nat) : 1 ≤ (nameOf i).size ∧ (nameOf i).size ≤ 255 := by
  have h := len_decF 21 i []
  have e : (nameOf i).size = (dec i).length + 1 := rfl
  unfold dec at e
  simp at h
  omega
def first (k : Nat) : List ByteArray := (List.range k).map nameOf
theorem first_get {k i : Nat} (h : i < k) : (first k)[i]? = some (nameOf i) := by simp [first, h]
theorem first_succ (k : Nat) : first (k + 1) = first k ++ [nameOf k] := by simp [first, List.range_succ]
theorem first_not {k : Nat} (h : k < 1024) : nameOf k ∉ first k := by
  intro hm
  obtain ⟨i, hi, e⟩ := List.mem_map.1 hm
  have := nameOf_inj (by have := List.mem_range.1 hi; omega) h e
  have := List.mem_range.1 hi
  omega
theorem cat (i : Nat) : (⟨#[97]⟩ : ByteArray) ++ ⟨(dec i).toArray⟩ = nameOf i := by
  apply ByteArray.ext
  rw [ByteArray.data_append]
  simp [nameOf]

set_option maxHeartbeats 1000000 in
set_option maxRecDepth 100000 in
theorem walk (a0 : Int) (w : World) (w0 : (Lit.int .i64 a0).wf = true) :
    Calls Try.prog 8 #[.int .i64 a0] w fun e w' => e = .returned (.bool true) ∧ Below w.heap.size w w' := by
  obtain ⟨b0, b1⟩ := bounds_i64 w0
  clear w0
  go_enter Try.func8, Try.ntmps8
  go_wp2_with fail
  refine (newAtoms_any w).mono ?_
  rintro e w1 ⟨rfl, rfl⟩
  have Hs := Lib.hid (solo_new w)
  go_wp2_with fail
  go_loopg [4] 1024 (fun gk i wr => ∃ (k : Nat) (F : Nat → Prop), k ≤ 1024 ∧ gk = 1024 - k ∧ i = Value.int .i64 k ∧ SoloS w wr F w.heap.size (first k))
  case atStart => exact ⟨0, _, by omega, rfl, rfl, Hs.out⟩
  case round =>
    clear Hs
    obtain ⟨k, F, hk, rfl, rfl, hS⟩ := hrel
    by_cases hlt : k < 1024
    · have HS := Lib.hid hS
      clear hS
      have hsz : (⟨(dec k).toArray⟩ : ByteArray).size ≤ 21 := len_decF 21 k []
      have hsz2 : (dec k).length ≤ 21 := len_decF 21 k []
      have hsz3 : (⟨#[97]⟩ : ByteArray).size ≤ 1 := by decide
      go_wp2_with fail
      refine (dec_any k _ (by omega)).mono ?_
      rintro e w' ⟨rfl, rfl⟩
      go_wp2_with fail
      rw [cat]
      refine (number_new HS.out.ra (nameOf k) (nameOf_size k).1 (nameOf_size k).2 (first_not hlt) (by simp [first]; exact hlt)).mono ?_
      rintro e w2 ⟨rfl, hr, hk2⟩
      have hlen : (first k).length = k := by simp [first]
      rw [hlen]
      rw [← first_succ] at hr
      have H2 := Lib.hid (HS.out.step hr hk2)
      clear hr hk2 hlen
      go_wp2_with fail
      go_roundg (1024 - (k + 1))
      case measure => omega
      case rel => exact ⟨k + 1, _, by omega, rfl, by go_num, H2.out⟩
    · obtain rfl : k = 1024 := by omega
      have HS := Lib.hid hS
      clear hS
      obtain ⟨j, hj, hj2⟩ : ∃ j : Nat, a0 % 1024 = j ∧ j < 1024 := ⟨(a0 % 1024).toNat, by omega, by omega⟩
      have hsz : (⟨(dec j).toArray⟩ : ByteArray).size ≤ 21 := len_decF 21 j []
      have hsz2 : (dec j).length ≤ 21 := len_decF 21 j []
      have hsz3 : (⟨#[97]⟩ : ByteArray).size ≤ 1 := by decide
      have Hj := Lib.hid hj
      clear hj
      go_wp2_with (go_at_call 31; refine (place_any _ a0 1024 b0 b1 (by omega) (by omega)).mono ?_; rintro e w' ⟨rfl, rfl⟩; rw [Hj.out])
      have hnb : (⟨#[98]⟩ : ByteArray) ∉ first 1024 := by
        intro hm
        obtain ⟨i, _, e⟩ := List.mem_map.1 hm
        have h1 := congrArg (fun b : ByteArray => b.data.toList) e
        have h2 : (97 :: dec i) = [98] := h1
        injection h2 with h2
        exact absurd h2 (by decide)
      refine (number_full HS.out.ra ⟨#[98]⟩ (by decide) (by decide) hnb (by simp [first])).mono ?_
      rintro e w2 ⟨⟨v, rfl, hch⟩, hr, hk2⟩
      have H2 := Lib.hid (And.intro (HS.out.step hr (hk2.mono fun _ _ e => e.elim)) hch)
      clear hr hk2 hch hnb
      go_wp2_with fail
      refine (dec_any j _ (by omega)).mono ?_
      rintro e w' ⟨rfl, rfl⟩
      go_wp2_with fail
      rw [cat]
      refine (number_old H2.out.1.ra (nameOf j) (nameOf_size j).1 (nameOf_size j).2 j (first_get hj2)).mono ?_
      rintro e w3 ⟨rfl, hr, hk3⟩
      have H3 := Lib.hid (And.intro (H2.out.1.step hr (hk3.mono fun _ _ e => e.elim)) (Chain.kp hk3 _ _ H2.out.2.out))
      clear hr hk3
      go_wp2_with fail
      have hka : Kp (fun _ => False) w3 (w3.alloc (.cells #[.string ⟨#[97, 116, 111, 109]⟩, .int .i64 1, .iface 73 (.int .i64 2)] 75)) := (Kp.refl _ w3).alloc _
      refine (err_any [Lk.fault atomS 1, Lk.kind 2] _ _ _ (by simp) (Chain.kp hka _ _ H3.out.2) ?_).mono ?_
      · exact (ChainB.cons (B := 0) atomS 1 (ChainB.root _ _ (by decide)) (Nat.zero_le _) (heap_alloc_new w3 _)).out
      rintro e w4 ⟨rfl, hk4⟩
      have hS4 := (H3.out.1.same hka).same hk4
      have H4 := Lib.hid hS4
      clear hS4 hk4 hka
      go_wp2_with (first | (go_at_call 19; refine (len_any H4.out.ra).mono ?_; rintro e w5 ⟨rfl, rfl⟩) | (go_at_call 15; refine (awake_any _).mono ?_; rintro e w7 ⟨rfl, hk7⟩))
      go_ret
      exact ⟨rfl, (H4.out.kp.trans' hk7).below _ (Nat.le_refl _) (fun _ e => e.elim)⟩

set_option maxRecDepth 100000 in
theorem lifted (os : Os) (started : os.Started) (H : Type) (enc : TypeId × Value → H) :
    ReturnsInHanded {} Try.checked os 8 .any (Rows.wordFullSpec.pre6 enc Try.prog Try.f8 Rows.wordFullRow.domain false) (Rows.wordFullSpec.post enc Try.prog Try.f8 false true false false) := by
  refine returnsInHanded_of_change (C := Try.checked) own started (by kernel_rfl) Try.func8
    (ChangeSpec.witness6 (enc := enc) (C := Try.checked) false ⟨#[], #[.int .i64 0], []⟩ 8 (by kernel_rfl) (by kernel_rfl) (by kernel_rfl) (by kernel_rfl)) ?_
  intro W base args ds gs before hval0 hW hcnd _
  have hval : ∀ (j : Nat) t v, Try.f8.params[j]? = some t → args[j]? = some v → Value.okWide Try.prog W .any base t v := hval0
  have hW' := hW
  obtain ⟨p, q, hA0, hV, rfl, hfz, hnd⟩ := hW
  have hA : DataW.TrodAll enc Try.prog W 0 (fun _ => true) true Try.f8.params.toList args.toList ds p := hA0
  rw [Try.params8] at hA hval
  obtain ⟨v0, vs0, d0, ds0, p0, q0, hargs, rfl, rfl, h0, r0⟩ := trodAll_cons hA
  obtain ⟨rfl, rfl, rfl⟩ := trodAll_nil r0
  obtain rfl : args = #[v0] := by cases args; simp_all
  obtain ⟨rfl, rfl⟩ := trodVars_none hV
  obtain ⟨a0, rfl, rfl, rfl, w0⟩ := open_int Try.underlying3 (hval 0 3 v0 rfl rfl) h0
  clear hA0 hval0
  simp only [List.append_nil] at hW'
  refine (walk a0 W w0).mono fun e W' ⟨he, bel⟩ => ?_
  subst he
  exact ⟨_, rfl, _, _, _, [], _, [], hW', trodAll_mk1 (shut_bool Try.underlying4 _), (trodAll_cons_mk (shut_int Try.underlying3 w0) trodAll_mk0), rfl, bel.frame _, fun h => by cases h⟩

theorem over : Rows.wordFullRow.holds Try.pinned (OpenSpec.ofChange Rows.wordFullSpec) :=
  OpenClaim.holds_of_wide 8 Try.f8 rfl rfl rfl rfl rfl rfl rfl ⟨rfl, rfl, rfl, rfl, rfl⟩ rfl rfl rfl rfl rfl (by kernel_rfl) Try.func8 (by kernel_rfl)
    (of_decide_eq_true (by kernel_rfl)) (by unfold Func.isWrapper; first | (rw [if_pos (by decide +kernel)]; kernel_rfl) | (rw [if_neg (by decide +kernel)]; exact ⟨rfl, rfl⟩))
    (fun os started H enc _ => lifted os started H enc)

theorem proved : Rows.WordFullSaid := over
#print axioms proved
end Go.Proofs.Ytmghneglfnkihaa.wordFull
