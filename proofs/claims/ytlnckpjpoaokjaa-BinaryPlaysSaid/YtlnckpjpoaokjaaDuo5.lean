/- The program's heap of binaries beside the document's own, in one plain state. -/
import Derived.Test.YtlnckpjpoaokjaaRefPut3
import Derived.Test.YtlnckpjpoaokjaaPair
import Derived.Test.YtlnckpjpoaokjaaOpsIn
import Derived.Test.YtlnckpjpoaokjaaPlace
namespace Go.Proofs.Ytlnckpjpoaokjaa
open Go.RowKit
section
variable {w wr w2 : World} {b c N M : Nat} {a a' : Bn} {F G : Nat → Prop}


/-- both in the one state -/
structure Duo (w wr : World) (b c N : Nat) (a : Bn) (F G : Nat → Prop) : Prop where
  one : Solo w wr b N a F
  ref : XAt G wr c a
  apart : ∀ q, F q → ¬ G q
  newG : ∀ q, G q → w.heap.size ≤ q

/-- the program has gone on, the document's own has not yet -/
structure Half (w wr : World) (b c : Nat) (a' a : Bn) (F G : Nat → Prop) : Prop where
  at' : BAt F wr b a'
  ref : XAt G wr c a
  apart : ∀ q, F q → ¬ G q
  newF : ∀ q, F q → w.heap.size ≤ q
  newG : ∀ q, G q → w.heap.size ≤ q
  kp : Kp (fun _ => False) w wr

theorem Duo.same (h : Duo w wr b c N a F G) (hk : Kp (fun _ => False) wr w2) : Duo w w2 b c N a F G := ⟨h.one.same hk, h.ref.kp hk (fun _ _ e => e), h.apart, h.newG⟩
theorem Duo.mono (h : Duo w wr b c N a F G) (hm : N ≤ M) : Duo w wr b c M a F G := ⟨h.one.mono hm, h.ref, h.apart, h.newG⟩
theorem Duo.below (h : Duo w wr b c N a F G) : Below w.heap.size w wr := h.one.below
theorem Duo.first (h : Duo w wr b c N a F G) (hg : BGo F wr b a' w2) : ∃ F', Half w w2 b c a' a F' G := by
  obtain ⟨hk, F', hn, hB⟩ := hg
  have hlt := h.ref.lt
  refine ⟨F', hB, h.ref.kp hk (fun q hq hF => h.apart q hF hq), fun q hq hG => ?_, fun q hq => (hn q hq).elim (h.one.new q) (fun e => Nat.le_trans h.one.kp.size e), h.newG, h.one.kp.trans (hk.mono fun q hq hF => .inr ⟨h.one.new q hF, hq⟩)⟩
  rcases hn q hq with e | e
  · exact h.apart q e hG
  · have := hlt q hG; omega
theorem Half.same {a' : Bn} (h : Half w wr b c a' a F G) (hk : Kp (fun _ => False) wr w2) : Half w w2 b c a' a F G :=
  ⟨h.at'.kp hk (fun _ _ e => e), h.ref.kp hk (fun _ _ e => e), h.apart, h.newF, h.newG, h.kp.trans' hk⟩
theorem Half.second (h : Half w wr b c a' a F G) (hg : XGo G wr c a' w2) (hI : BInv M a') : ∃ G', Duo w w2 b c M a' F G' := by
  obtain ⟨hk, G', hn, hB⟩ := hg
  have hlt := h.at'.lt
  refine ⟨G', ⟨h.at'.kp hk (fun q hq hG => h.apart q hq hG), hI, h.newF, h.kp.trans (hk.mono fun q hq hG => .inr ⟨h.newG q hG, hq⟩)⟩, hB, fun q hq hG => ?_, fun q hq => (hn q hq).elim (h.newG q) (fun e => Nat.le_trans h.kp.size e)⟩
  rcases hn q hG with e | e
  · exact h.apart q hq e
  · have := hlt q hq; omega
end
set_option maxHeartbeats 400000 in
/-- Place, n as far as a row can be long -/
theorem place_wide (w : World) (v n : Int) (_h1 : -9223372036854775808 ≤ v) (_h2 : v ≤ 9223372036854775807) (hn : 0 < n) (hn2 : n ≤ 4611686018427387904) :
    Calls Try.prog 10 #[.int .i64 v, .int .i64 n] w fun e w' => e = .returned (.int .i64 (v % n)) ∧ w = w' := by
  have HE := Lib.hid (place_emod v n hn)
  have h3 := Int.lt_tmod_of_pos v hn
  have h4 := Int.tmod_lt_of_pos v hn
  by_cases hneg : v.tmod n < 0
  · go_enter Try.func10, Try.ntmps10
    go_wp2_with fail
    go_ret
    exact ⟨by rw [HE.out.1 hneg]; rfl, rfl⟩
  · go_enter Try.func10, Try.ntmps10
    go_wp2_with fail
    go_ret
    exact ⟨by rw [HE.out.2 (by omega)]; rfl, rfl⟩

end Go.Proofs.Ytlnckpjpoaokjaa
