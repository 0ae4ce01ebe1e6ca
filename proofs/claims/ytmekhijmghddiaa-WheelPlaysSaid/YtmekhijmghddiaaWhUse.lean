/- What the laws of a wheel use: a Tick in which none expires, or all; Place by greater numbers. -/
import Derived.Test.YtmekhijmghddiaaWhAwake
namespace Go.Proofs.Ytmekhijmghddiaa
open Go.RowKit

set_option maxHeartbeats 400000 in
theorem place_big (w : World) (v n : Int) (_h1 : -9223372036854775808 ≤ v) (_h2 : v ≤ 9223372036854775807) (hn : 0 < n) (hn2 : n ≤ 1099511627776) :
    Calls Try.prog 13 #[.int .i64 v, .int .i64 n] w fun e w' => e = .returned (.int .i64 (v % n)) ∧ w = w' := by
  have HE := Lib.hid (place_emod v n hn)
  have h3 := Int.lt_tmod_of_pos v hn
  have h4 := Int.tmod_lt_of_pos v hn
  by_cases hneg : v.tmod n < 0
  · go_enter Try.func13, Try.ntmps13
    go_wp2_with fail
    go_ret
    exact ⟨by rw [HE.out.1 hneg]; rfl, rfl⟩
  · go_enter Try.func13, Try.ntmps13
    go_wp2_with fail
    go_ret
    exact ⟨by rw [HE.out.2 (by omega)]; rfl, rfl⟩
section
variable {w0 w w' : World} {b most now fresh : Nat} {ts ts' o : List Tm} {e : Nat}
theorem DueBy.no (h : DueBy ts e o ts') (hn : ∀ t ∈ ts, e < t.due) : o = [] ∧ ts' = ts := by
  refine ⟨h.is List.Pairwise.nil (fun t => ?_), ?_⟩
  · constructor
    · intro ht; simp at ht
    · rintro ⟨h1, h2⟩
      have := hn t h1
      omega
  · rw [h.rest, List.filter_eq_self]
    intro t ht
    simpa using hn t ht
theorem DueBy.allOf (h : DueBy ts e o ts') (hn : ∀ t ∈ ts, t.due ≤ e) (hs : ts.Pairwise TmLt) : o = ts ∧ ts' = [] := by
  refine ⟨h.is hs (fun t => ⟨fun ht => ⟨ht, hn t ht⟩, fun ht => ht.1⟩), ?_⟩
  rw [h.rest, List.filter_eq_nil_iff]
  intro t ht
  have := hn t ht
  simpa using this
theorem ticksOf_nat {n : Nat} (h : n ≤ 1048576) : ticksOf (n : Nat) = n := by unfold ticksOf; rw [if_neg (by omega), if_neg (by omega)]; simp
def NoneDue (w0 : World) (b most now fresh : Nat) (ts : List Tm) (e : Ending) (w' : World) : Prop := ∃ po cap, e = .returned (.slice po 0 cap) ∧ WhN w0 w' b most now fresh ts
theorem n_tick_none (h : WhN w0 w b most now fresh ts) (n : Nat) (hn : n ≤ 1048576) (hnow : now ≤ 1152921504606846976) (hlen : ts.length ≤ 17592186044416) (hd : ∀ t ∈ ts, now + n < t.due) :
    Calls Try.prog 22 #[.pointer (some ⟨b, 0, none⟩), .int .i64 (n : Nat)] w (NoneDue w0 b most (now + n) fresh ts) := by
  refine (n_tick h (n : Nat) (by omega) (by omega) (by omega) hlen).mono ?_
  rw [ticksOf_nat hn]
  rintro e w' ⟨v, o, ts', rfl, h1, h2, h3⟩
  obtain ⟨rfl, rfl⟩ := h2.no hd
  obtain ⟨po, cap, rfl, -⟩ := h1
  exact ⟨po, cap, rfl, h3⟩
def AllDue (w0 : World) (b most now fresh : Nat) (ts : List Tm) (e : Ending) (w' : World) : Prop := ∃ v, e = .returned v ∧ Lr w' v (idsOf ts) ∧ WhN w0 w' b most now fresh []
theorem n_tick_all (h : WhN w0 w b most now fresh ts) (n : Nat) (hn : n ≤ 1048576) (hnow : now ≤ 1152921504606846976) (hlen : ts.length ≤ 17592186044416) (hd : ∀ t ∈ ts, t.due ≤ now + n) (hs : ts.Pairwise TmLt) :
    Calls Try.prog 22 #[.pointer (some ⟨b, 0, none⟩), .int .i64 (n : Nat)] w (AllDue w0 b most (now + n) fresh ts) := by
  refine (n_tick h (n : Nat) (by omega) (by omega) (by omega) hlen).mono ?_
  rw [ticksOf_nat hn]
  rintro e w' ⟨v, o, ts', rfl, h1, h2, h3⟩
  obtain ⟨rfl, rfl⟩ := h2.allOf hd hs
  exact ⟨v, rfl, h1, h3⟩
theorem n_now (h : WhN w0 w b most now fresh ts) : Calls Try.prog 25 #[.pointer (some ⟨b, 0, none⟩)] w fun e w' => e = .returned (.int .i64 (now : Nat)) ∧ w = w' := by
  obtain ⟨G, h1, h2, h3⟩ := h
  exact g_now h1
theorem n_len (h : WhN w0 w b most now fresh ts) : Calls Try.prog 26 #[.pointer (some ⟨b, 0, none⟩)] w fun e w' => e = .returned (.int .i64 (ts.length : Nat)) ∧ w = w' := by
  obtain ⟨G, h1, h2, h3⟩ := h
  exact g_len h1
theorem n_what {id : Int} {t : Tm} (h : WhN w0 w b most now fresh ts) (hid : (Lit.int .i64 id).wf = true) (ht : tmOf ts id = some t) :
    Calls Try.prog 20 #[.pointer (some ⟨b, 0, none⟩), .int .i64 id] w fun e w' => e = .returned (.tuple #[.int .i64 t.wht, .nilIface]) ∧ w = w' := by
  obtain ⟨G, h1, h2, h3⟩ := h
  exact g_what h1 hid ht
theorem n_start_full (h : WhN w0 w b most now fresh ts) (n wht : Int) (h0 : 0 ≤ n) (h1 : n ≤ 1073741824) (hf : ts.length = most) :
    Calls Try.prog 14 #[.pointer (some ⟨b, 0, none⟩), .int .i64 n, .int .i64 wht] w fun e w' => (∃ g, e = .returned (.tuple #[.int .i64 (-1), .iface 104 (.pointer (some ⟨g, 0, none⟩))])) ∧ WhN w0 w' b most now fresh ts := by
  have h' := h
  obtain ⟨G, h1', h2, h3⟩ := h
  refine (g_start_full h1' n wht h0 h1 hf).mono ?_
  rintro e w' ⟨v, rfl, hv, hk⟩
  obtain ⟨g, rfl⟩ := hv.out.form
  exact ⟨⟨g, rfl⟩, h'.same hk⟩
end
end Go.Proofs.Ytmekhijmghddiaa
