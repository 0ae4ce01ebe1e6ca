/- A wheel, as the laws meet it: its blocks as one set; what each call makes of it; the document's example. -/
import Derived.Test.YtmekhijmghddiaaWhNew
namespace Go.Proofs.Ytmekhijmghddiaa
open Go.RowKit

section
variable {l1 l2 ts0 o ts : List Tm} {now : Nat}
theorem tmLt_irrefl (t : Tm) : ¬ TmLt t t := by unfold TmLt; omega
theorem tmLt_unique : ∀ {l1 l2 : List Tm}, l1.Pairwise TmLt → l2.Pairwise TmLt → (∀ t, t ∈ l1 ↔ t ∈ l2) → l1 = l2
  | [], [], _, _, _ => rfl
  | [], b :: l2, _, _, hm => by have := (hm b).2 (by simp); simp at this
  | a :: l1, [], _, _, hm => by have := (hm a).1 (by simp); simp at this
  | a :: l1, b :: l2, h1, h2, hm => by
    rw [List.pairwise_cons] at h1 h2
    have hab : a = b := by
      rcases List.mem_cons.1 ((hm a).1 (by simp)) with e | h3
      · exact e
      · rcases List.mem_cons.1 ((hm b).2 (by simp)) with e | h4
        · exact e.symm
        · have h5 := h1.1 b h4
          have h6 := h2.1 a h3
          unfold TmLt at h5 h6
          omega
    subst hab
    rw [tmLt_unique h1.2 h2.2 (fun t => ?_)]
    constructor
    · intro ht
      rcases List.mem_cons.1 ((hm t).1 (by simp [ht])) with e | h3
      · subst e
        exact absurd (h1.1 _ ht) (tmLt_irrefl _)
      · exact h3
    · intro ht
      rcases List.mem_cons.1 ((hm t).2 (by simp [ht])) with e | h3
      · subst e
        exact absurd (h2.1 _ ht) (tmLt_irrefl _)
      · exact h3
theorem DueBy.is (h : DueBy ts0 now o ts) {o2 : List Tm} (hs : o2.Pairwise TmLt) (hm : ∀ t, t ∈ o2 ↔ t ∈ ts0 ∧ t.due ≤ now) : o = o2 :=
  tmLt_unique h.sorted hs (fun t => (h.mem t).trans (hm t).symm)
end

/-- a wheel in the blocks G -/
def WhG (w : World) (G : Nat → Prop) (b most now fresh : Nat) (ts : List Tm) : Prop :=
  ∃ F mb ch, Wh w F b mb most now fresh ch ts ∧ (∀ q, F q ∨ q = mb → G q) ∧ ∀ q, G q → q < w.heap.size

section
variable {F G H : Nat → Prop} {w w' : World} {b most now fresh : Nat} {ts : List Tm} {id : Int} {t : Tm}
theorem WhG.kp (h : WhG w G b most now fresh ts) (hk : Kp H w w') (hd : ∀ q, G q → ¬ H q) : WhG w' G b most now fresh ts := by
  obtain ⟨F, mb, ch, h1, h2, h3⟩ := h
  exact ⟨F, mb, ch, h1.kp hk (fun q hq => hd q (h2 q hq)), h2, fun q hq => Nat.lt_of_lt_of_le (h3 q hq) hk.size⟩
theorem WhG.same (h : WhG w G b most now fresh ts) (hk : Kp (fun _ => False) w w') : WhG w' G b most now fresh ts := h.kp hk (fun _ _ e => e)
theorem WhG.lt (h : WhG w G b most now fresh ts) : ∀ q, G q → q < w.heap.size := by obtain ⟨F, mb, ch, h1, h2, h3⟩ := h; exact h3
theorem WhG.nodup (h : WhG w G b most now fresh ts) : (ts.map Tm.id).Nodup := by obtain ⟨F, mb, ch, h1, h2, h3⟩ := h; exact h1.nodup
theorem WhG.le (h : WhG w G b most now fresh ts) : ∀ t ∈ ts, now ≤ t.due := by obtain ⟨F, mb, ch, h1, h2, h3⟩ := h; exact h1.le
theorem WhG.ids (h : WhG w G b most now fresh ts) : ∀ t ∈ ts, t.id < fresh := by obtain ⟨F, mb, ch, h1, h2, h3⟩ := h; exact h1.ids
theorem WhG.more (h : WhG w G b most now fresh ts) (hG : ∀ q, G q → H q) (hH : ∀ q, H q → q < w.heap.size) : WhG w H b most now fresh ts := by
  obtain ⟨F, mb, ch, h1, h2, h3⟩ := h
  exact ⟨F, mb, ch, h1, fun q hq => hG q (h2 q hq), hH⟩
theorem WhG.ext (h : WhG w' G b most now fresh ts) (w : World) : WhG w' (Ext G w w') b most now fresh ts := h.more (fun _ hq => .inl hq) (fun q hq => hq.elim (h.lt q) (fun e => e.2))

def GNew (m : Nat) (w : World) (e : Ending) (w' : World) : Prop :=
  ∃ b, e = .returned (.tuple #[.pointer (some ⟨b, 0, none⟩), .nilIface]) ∧ WhG w' (fun q => w.heap.size ≤ q ∧ q < w'.heap.size) b m 0 0 [] ∧ Kp (fun _ => False) w w'
theorem g_new (w : World) (m : Nat) (h1 : 1 ≤ m) (h2 : m ≤ 4096) : Calls Try.prog 9 #[.int .i64 (m : Nat)] w (GNew m w) := by
  refine (new_ok w m h1 h2).mono ?_
  rintro e w' ⟨rfl, h3, h4, h5⟩
  exact ⟨_, rfl, ⟨_, _, _, h3, fun q hq => by omega, fun q hq => hq.2⟩, h4⟩
/-- the timer is put behind the others -/
def GStart (G : Nat → Prop) (b most now fresh : Nat) (ts : List Tm) (n : Nat) (wht : Int) (w : World) (e : Ending) (w' : World) : Prop :=
  e = .returned (.tuple #[.int .i64 (fresh : Nat), .nilIface]) ∧ ∃ g, WhG w' (Ext G w w') b most now (fresh + 1) (ts ++ [⟨fresh, wht, now + n, g⟩]) ∧ Kp G w w'
theorem g_start (h : WhG w G b most now fresh ts) (n : Nat) (wht : Int) (hn : n ≤ 1073741824) (hnow : now + 1073741824 ≤ 2305843009213693952) (hfr : fresh + 1 ≤ 4611686018427387904) (hf : ts.length < most) (hm : most ≤ 4096) :
    Calls Try.prog 14 #[.pointer (some ⟨b, 0, none⟩), .int .i64 (n : Nat), .int .i64 wht] w (GStart G b most now fresh ts n wht w) := by
  obtain ⟨F, mb, ch, h1, h2, h3⟩ := h
  refine (start_ok h1 n wht hn hnow hfr hf hm).mono ?_
  rintro e w' ⟨rfl, ch', h4, h5⟩
  have hk : Kp G w w' := h5.mono fun q _ hq => h2 q hq
  refine ⟨rfl, _, ⟨_, mb, ch', h4, fun q hq => ?_, fun q hq => ?_⟩, hk⟩
  · rcases hq with (hq | hq) | hq
    · exact .inl (h2 q (.inl hq))
    · exact .inr hq
    · exact .inl (h2 q (.inr hq))
  · rcases hq with hq | hq
    · exact Nat.lt_of_lt_of_le (h3 q hq) hk.size
    · exact hq.2
theorem g_start_bad (b : Nat) (n wht : Int) (h : n < 0 ∨ 1073741824 < n) :
    Calls Try.prog 14 #[.pointer (some ⟨b, 0, none⟩), .int .i64 n, .int .i64 wht] w (EBad w (fun v => .tuple #[.int .i64 (-1), v]) [Lk.fault ⟨#[115, 116, 97, 114, 116]⟩ n, Lk.kind 1]) := start_bad w b n wht h
theorem g_start_full (h : WhG w G b most now fresh ts) (n wht : Int) (h0 : 0 ≤ n) (h1 : n ≤ 1073741824) (hf : ts.length = most) :
    Calls Try.prog 14 #[.pointer (some ⟨b, 0, none⟩), .int .i64 n, .int .i64 wht] w (EBad w (fun v => .tuple #[.int .i64 (-1), v]) [Lk.fault ⟨#[115, 116, 97, 114, 116]⟩ n, Lk.kind 2]) := by
  obtain ⟨F, mb, ch, h1', h2, h3⟩ := h
  exact start_full h1' n wht h0 h1 hf
def GTick (G : Nat → Prop) (b most fresh : Nat) (ts : List Tm) (endt : Nat) (w : World) (e : Ending) (w' : World) : Prop :=
  ∃ v o ts', e = .returned v ∧ Lw w' v (idsOf o) ∧ (∀ g, v.ownBlock = some g → w.heap.size ≤ g) ∧ DueBy ts endt o ts' ∧ WhG w' G b most endt fresh ts' ∧ Kp G w w'
theorem g_tick (h : WhG w G b most now fresh ts) (n : Int) (hn1 : -9223372036854775808 ≤ n) (hn2 : n ≤ 9223372036854775807) (hend : now + 1048576 ≤ 2305843009213693952) (hlen : ts.length ≤ 17592186044416) :
    Calls Try.prog 22 #[.pointer (some ⟨b, 0, none⟩), .int .i64 n] w (GTick G b most fresh ts (now + ticksOf n) w) := by
  obtain ⟨F, mb, ch, h1, h2, h3⟩ := h
  refine (tick_any h1 n hn1 hn2 hend hlen).mono ?_
  rintro e w' ⟨v, o, ts', ch', rfl, h4, h5, h6, h7, h8⟩
  have hk : Kp G w w' := h8.mono fun q _ hq => h2 q hq
  exact ⟨v, o, ts', rfl, h4, h5, h6, ⟨F, mb, ch', h7, h2, fun q hq => Nat.lt_of_lt_of_le (h3 q hq) hk.size⟩, hk⟩
theorem g_left (h : WhG w G b most now fresh ts) (hid : (Lit.int .i64 id).wf = true) (ht : tmOf ts id = some t) :
    Calls Try.prog 18 #[.pointer (some ⟨b, 0, none⟩), .int .i64 id] w (LeftIs (t.due - now) w) := by
  obtain ⟨F, mb, ch, h1, h2, h3⟩ := h
  exact left_some h1 hid ht
theorem g_left_none (h : WhG w G b most now fresh ts) (hid : (Lit.int .i64 id).wf = true) (ht : tmOf ts id = none) :
    Calls Try.prog 18 #[.pointer (some ⟨b, 0, none⟩), .int .i64 id] w (EBad w (fun v => .tuple #[.int .i64 0, v]) [Lk.fault ⟨#[108, 101, 102, 116]⟩ (id % 2147483648), Lk.kind 3]) := by
  obtain ⟨F, mb, ch, h1, h2, h3⟩ := h
  exact left_none h1 hid ht
theorem g_what (h : WhG w G b most now fresh ts) (hid : (Lit.int .i64 id).wf = true) (ht : tmOf ts id = some t) :
    Calls Try.prog 20 #[.pointer (some ⟨b, 0, none⟩), .int .i64 id] w fun e w' => e = .returned (.tuple #[.int .i64 t.wht, .nilIface]) ∧ w = w' := by
  obtain ⟨F, mb, ch, h1, h2, h3⟩ := h
  exact what_some h1 hid ht
theorem g_what_none (h : WhG w G b most now fresh ts) (hid : (Lit.int .i64 id).wf = true) (ht : tmOf ts id = none) :
    Calls Try.prog 20 #[.pointer (some ⟨b, 0, none⟩), .int .i64 id] w (EBad w (fun v => .tuple #[.int .i64 0, v]) [Lk.fault ⟨#[119, 104, 97, 116]⟩ (id % 2147483648), Lk.kind 3]) := by
  obtain ⟨F, mb, ch, h1, h2, h3⟩ := h
  exact what_none h1 hid ht
def GCancel (G : Nat → Prop) (b most now fresh : Nat) (ts : List Tm) (id : Int) (t : Tm) (w : World) (e : Ending) (w' : World) : Prop :=
  e = .returned (.tuple #[.int .i64 ((t.due - now : Nat) : Int), .nilIface]) ∧ WhG w' G b most now fresh (without ts id) ∧ Kp G w w'
theorem g_cancel (h : WhG w G b most now fresh ts) (hid : (Lit.int .i64 id).wf = true) (ht : tmOf ts id = some t) :
    Calls Try.prog 16 #[.pointer (some ⟨b, 0, none⟩), .int .i64 id] w (GCancel G b most now fresh ts id t w) := by
  obtain ⟨F, mb, ch, h1, h2, h3⟩ := h
  refine (cancel_some h1 hid ht).mono ?_
  rintro e w' ⟨rfl, ch', h4, h5⟩
  have hk : Kp G w w' := h5.mono fun q _ hq => h2 q hq
  exact ⟨rfl, ⟨F, mb, ch', h4, h2, fun q hq => Nat.lt_of_lt_of_le (h3 q hq) hk.size⟩, hk⟩
theorem g_cancel_none (h : WhG w G b most now fresh ts) (hid : (Lit.int .i64 id).wf = true) (ht : tmOf ts id = none) :
    Calls Try.prog 16 #[.pointer (some ⟨b, 0, none⟩), .int .i64 id] w (EBad w (fun v => .tuple #[.int .i64 0, v]) [Lk.fault ⟨#[99, 97, 110, 99, 101, 108]⟩ (id % 2147483648), Lk.kind 3]) := by
  obtain ⟨F, mb, ch, h1, h2, h3⟩ := h
  exact cancel_none h1 hid ht
theorem g_now (h : WhG w G b most now fresh ts) : Calls Try.prog 25 #[.pointer (some ⟨b, 0, none⟩)] w fun e w' => e = .returned (.int .i64 (now : Nat)) ∧ w = w' := by
  obtain ⟨F, mb, ch, h1, h2, h3⟩ := h
  exact now_any h1
theorem g_len (h : WhG w G b most now fresh ts) : Calls Try.prog 26 #[.pointer (some ⟨b, 0, none⟩)] w fun e w' => e = .returned (.int .i64 (ts.length : Nat)) ∧ w = w' := by
  obtain ⟨F, mb, ch, h1, h2, h3⟩ := h
  exact len_any h1
theorem lr_lit1 {g : Nat} (x : Int) (hg : w.heap[g]? = some (.cells #[.int .i64 x] 2 (0, 0))) : Lr w (.slice (some ⟨g, 0, none⟩) 1 1) [x] := by
  refine ⟨_, 1, rfl, by simp, by simp [maxLen], fun i z hi => ⟨g, 0, rfl, ?_⟩⟩
  rw [Nat.zero_add, cell_of_row w g i _ _ _ hg]
  rcases i with _ | i
  · simp at hi; subst hi; rfl
  · simp at hi

/-- a wheel in blocks that are newer than w0, where nothing else has turned -/
def WhN (w0 w : World) (b most now fresh : Nat) (ts : List Tm) : Prop := ∃ G, WhG w G b most now fresh ts ∧ (∀ q, G q → w0.heap.size ≤ q) ∧ Kp (fun _ => False) w0 w
theorem WhN.same {w0 : World} (h : WhN w0 w b most now fresh ts) (hk : Kp (fun _ => False) w w') : WhN w0 w' b most now fresh ts := by
  obtain ⟨G, h1, h2, h3⟩ := h
  exact ⟨G, h1.same hk, h2, h3.trans' hk⟩
theorem WhN.below {w0 : World} (h : WhN w0 w b most now fresh ts) : Below w0.heap.size w0 w := by
  obtain ⟨G, h1, h2, h3⟩ := h
  exact h3.below _ (Nat.le_refl _) (fun _ e => e.elim)
theorem kp_in {w0 : World} (h3 : Kp (fun _ => False) w0 w) (hk : Kp G w w') (h2 : ∀ q, G q → w0.heap.size ≤ q) : Kp (fun _ => False) w0 w' :=
  h3.trans (hk.mono fun q hq e => .inr ⟨h2 q e, hq⟩)
theorem n_new (w : World) (m : Nat) (h1 : 1 ≤ m) (h2 : m ≤ 4096) : Calls Try.prog 9 #[.int .i64 (m : Nat)] w fun e w' => ∃ b, e = .returned (.tuple #[.pointer (some ⟨b, 0, none⟩), .nilIface]) ∧ WhN w w' b m 0 0 [] :=
  (g_new w m h1 h2).mono fun _ _ ⟨b, he, h3, h4⟩ => ⟨b, he, _, h3, fun _ hq => hq.1, h4⟩
theorem n_start {w0 : World} (h : WhN w0 w b most now fresh ts) (n : Nat) (wht : Int) (hn : n ≤ 1073741824) (hnow : now + 1073741824 ≤ 2305843009213693952) (hfr : fresh + 1 ≤ 4611686018427387904) (hf : ts.length < most) (hm : most ≤ 4096) :
    Calls Try.prog 14 #[.pointer (some ⟨b, 0, none⟩), .int .i64 (n : Nat), .int .i64 wht] w fun e w' => e = .returned (.tuple #[.int .i64 (fresh : Nat), .nilIface]) ∧ ∃ g, WhN w0 w' b most now (fresh + 1) (ts ++ [⟨fresh, wht, now + n, g⟩]) := by
  obtain ⟨G, h1, h2, h3⟩ := h
  refine (g_start h1 n wht hn hnow hfr hf hm).mono ?_
  rintro e w' ⟨rfl, g, h4, h5⟩
  exact ⟨rfl, g, _, h4, fun q hq => hq.elim (h2 q) (fun e => Nat.le_trans h3.size e.1), kp_in h3 h5 h2⟩
def NTick (w0 : World) (b most fresh : Nat) (ts : List Tm) (endt : Nat) (e : Ending) (w' : World) : Prop :=
  ∃ v o ts', e = .returned v ∧ Lr w' v (idsOf o) ∧ DueBy ts endt o ts' ∧ WhN w0 w' b most endt fresh ts'
theorem n_tick {w0 : World} (h : WhN w0 w b most now fresh ts) (n : Int) (hn1 : -9223372036854775808 ≤ n) (hn2 : n ≤ 9223372036854775807) (hend : now + 1048576 ≤ 2305843009213693952) (hlen : ts.length ≤ 17592186044416) :
    Calls Try.prog 22 #[.pointer (some ⟨b, 0, none⟩), .int .i64 n] w (NTick w0 b most fresh ts (now + ticksOf n)) := by
  obtain ⟨G, h1, h2, h3⟩ := h
  refine (g_tick h1 n hn1 hn2 hend hlen).mono ?_
  rintro e w' ⟨v, o, ts', rfl, h4, h5, h6, h7, h8⟩
  exact ⟨v, o, ts', rfl, h4.rd, h6, _, h7, h2, kp_in h3 h8 h2⟩
theorem n_left {w0 : World} (h : WhN w0 w b most now fresh ts) (hid : (Lit.int .i64 id).wf = true) (ht : tmOf ts id = some t) :
    Calls Try.prog 18 #[.pointer (some ⟨b, 0, none⟩), .int .i64 id] w (LeftIs (t.due - now) w) := by
  obtain ⟨G, h1, h2, h3⟩ := h
  exact g_left h1 hid ht
theorem n_cancel {w0 : World} (h : WhN w0 w b most now fresh ts) (hid : (Lit.int .i64 id).wf = true) (ht : tmOf ts id = some t) :
    Calls Try.prog 16 #[.pointer (some ⟨b, 0, none⟩), .int .i64 id] w fun e w' => e = .returned (.tuple #[.int .i64 ((t.due - now : Nat) : Int), .nilIface]) ∧ WhN w0 w' b most now fresh (without ts id) := by
  obtain ⟨G, h1, h2, h3⟩ := h
  refine (g_cancel h1 hid ht).mono ?_
  rintro e w' ⟨rfl, h4, h5⟩
  exact ⟨rfl, _, h4, h2, kp_in h3 h5 h2⟩
end
end Go.Proofs.Ytmekhijmghddiaa
