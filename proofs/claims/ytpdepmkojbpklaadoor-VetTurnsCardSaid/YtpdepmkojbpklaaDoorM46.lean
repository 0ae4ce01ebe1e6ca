/- trouperef02.look: fail, a look behind a fault, which terms fit as its flags say. -/
import Derived.Test.YtpdepmkojbpklaaDoorM05
import Derived.Test.YtpdepmkojbpklaaDoorM09
import Derived.StillTailTactics
import Derived.Deep.CutBlock
import Derived.Deep.DeepCutAuto
/- trouperef02.look: fail, a look behind a fault, which terms fit as its flags say. -/
namespace Go.Proofs.YtpdepmkojbpklaaDoor
set_option linter.unusedVariables false
open Go.RowKit

def lCells (l n : Int) (e : Value) : Obj := .cells #[.int .i64 l, .int .i64 n, e] 97

/-- fail: where nothing was wrong before -/
theorem lfail_new (b : Nat) (l n x k : Int) (w : World) (h : w.heap[b]? = some (lCells l n (.pointer none))) :
    Calls Tryd.prog 57 #[.pointer (some ⟨b, 0, none⟩), .int .i64 x, .int .i64 k] w fun e w' => e = .returned (.tuple #[]) ∧ (∃ p, w'.heap[b]? = some (lCells l n (.pointer (some p)))) ∧ Kp (fun q => q = b) w w' := by
  unfold lCells at h
  have hb := (Array.getElem?_eq_some_iff.1 h).1
  have c2 : w.cell? ⟨b, 2, none⟩ = some (.pointer none) := by rw [cell_of_row w b 2 _ _ _ h]; rfl
  have f2 : w.frozen? ⟨b, 2, none⟩ = false := by simp [World.frozen?, h]
  have H := Lib.hid (And.intro h hb)
  clear h hb
  go_enter Tryd.func57, Tryd.ntmps57
  go_wp2_with fail
  refine (k_any k w).mono ?_
  rintro e w1 ⟨rfl, hw1⟩
  have hk1 : Kp (fun _ => False) w w1 := by rw [hw1]; exact (Kp.refl _ w).alloc _
  have hb1 := (hk1.block b H.out.2 (fun e => e)).trans H.out.1
  have c2' : w1.cell? ⟨b, 2, none⟩ = some (.pointer none) := by rw [cell_of_row w1 b 2 _ _ _ hb1]; rfl
  have f2' : w1.frozen? ⟨b, 2, none⟩ = false := by simp [World.frozen?, hb1]
  obtain ⟨w2, hw2⟩ : ∃ w2, w1.alloc (.cells #[.string termS, .int .i64 x, .pointer (some ⟨w.heap.size, 0, none⟩), .int .i64 0] 94) = w2 := ⟨_, rfl⟩
  have hk2 : Kp (fun _ => False) w1 w2 := by rw [← hw2]; exact (Kp.refl _ w1).alloc _
  have hb2 := (hk2.block b (Array.getElem?_eq_some_iff.1 hb1).1 (fun e => e)).trans hb1
  have c2'' : w2.cell? ⟨b, 2, none⟩ = some (.pointer none) := by rw [cell_of_row w2 b 2 _ _ _ hb2]; rfl
  have f2'' : w2.frozen? ⟨b, 2, none⟩ = false := by simp [World.frozen?, hb2]
  have H1 := Lib.hid (And.intro (hk1.trans' hk2) hb2)
  have hx : termS = ⟨#[116, 101, 114, 109]⟩ := rfl
  rw [hx] at hw2
  clear hk1 hb1 hw1 c2 f2 hx hk2 hb2
  go_wp2_with fail
  go_end0
  exact ⟨rfl, ⟨⟨w1.heap.size, 0, none⟩, (heap_set_same H1.out.2 _).trans rfl⟩, (H1.out.1.mono fun _ _ e => e.elim).setCell ⟨b, 2, none⟩ _ (.inl rfl)⟩

set_option maxRecDepth 100000 in
set_option maxHeartbeats 1000000 in
/-- look: where something is wrong already -/
theorem look_bad (b : Nat) (l n : Int) (p : Addr) (k tn : Int) (s : ByteArray) (vi vr vb : Value) (d : Int) (w : World) (h : w.heap[b]? = some (lCells l n (.pointer (some p)))) :
    Calls Tryd.prog 43 #[.pointer (some ⟨b, 0, none⟩), .agg #[.int .i64 k, .int .i64 tn, .string s, vi, vr, vb], .int .i64 d] w fun e w' => e = .returned (.tuple #[]) ∧ w'.heap[b]? = some (lCells l n (.pointer (some p))) ∧ Kp (fun _ => False) w w' := by
  have hb := (Array.getElem?_eq_some_iff.1 h).1
  obtain ⟨w1, hw1⟩ : ∃ w1, w.alloc (.cells #[.int .i64 k, .int .i64 tn, .string s, vi, vr, vb] 35) = w1 := ⟨_, rfl⟩
  have hk1 : Kp (fun _ => False) w w1 := by rw [← hw1]; exact (Kp.refl _ w).alloc _
  have hb1 := (hk1.block b hb (fun e => e)).trans h
  have c2 : w1.cell? ⟨b, 2, none⟩ = some (.pointer (some p)) := by unfold lCells at hb1; rw [cell_of_row w1 b 2 _ _ _ hb1]; rfl
  have H := Lib.hid (And.intro hk1 hb1)
  clear h hb hk1 hb1
  go_enter Tryd.func43, Tryd.ntmps43
  go_wp2_with fail
  refine bodyPost_ret (results_none rfl _ _ _) rfl ?_
  exact ⟨rfl, H.out.2, H.out.1⟩

/-- the kind of a list's end is a list's or nil's -/
def endK (re : List Tm) : Bool := match re with | [] => false | t :: _ => (t.kind == 7) || (t.kind == 6)
theorem fitsK_flags (k tn : Int) (s : ByteArray) (it re : List Tm) (bys : List UInt8) {m f i r y : Bool} (hm : (tn != 0) = m) (hf : (!s.toList.isEmpty) = f) (hi : decide (0 < it.length) = i) (hr : decide (0 < re.length) = r) (hy : decide (0 < bys.length) = y) :
    (!fitsK k tn s it re bys) = if k = 1 then f || i || r || y else if k = 2 then m || i || r || y || !f || decide (255 < s.size) else if k = 3 ∨ k = 4 then f || i || r || y || decide (tn < 0) || decide (1152921504606846976 ≤ tn)
      else if k = 5 then m || f || r || y else if k = 6 then m || f || i || r || y else if k = 7 then m || f || y || !i || decide (1 < re.length) || (r && endK re) else if k = 8 then m || f || i || r else true := by
  have e1 : decide (tn = 0) = !m := by rw [← hm]; simp [bne]; rfl
  have e2 : decide (s.toList = []) = !f := by rw [← hf]; cases h : s.toList <;> simp
  have e2' : decide (1 ≤ s.size) = f := by
    rw [← hf]
    have hz : s.toList.length = s.size := by rw [ByteArray.toList_eq]; exact Array.length_toList
    cases h : s.toList with
    | nil =>
      rw [h] at hz
      have h0 : ¬ 1 ≤ s.size := by rw [← hz]; decide
      rw [decide_eq_false h0]; rfl
    | cons a t =>
      rw [h] at hz
      have h0 : 1 ≤ s.size := by rw [← hz, List.length_cons]; omega
      rw [decide_eq_true h0]; rfl
  have e3 : decide (it.length = 0) = !i := by rw [← hi]; cases it <;> simp
  have e4 : decide (re.length = 0) = !r := by rw [← hr]; cases re <;> simp
  have e5 : ((bys.length : Int) == 0) = !y := by rw [← hy]; cases bys <;> simp <;> omega
  have e6 : ((it.length : Int) == 0) = !i := by rw [← hi]; cases it <;> simp <;> omega
  have e7 : endsB re = !(decide (1 < re.length) || (r && endK re)) := by
    rw [← hr]
    match re with
    | [] => rfl
    | [t] => simp [endsB, endK]; rfl
    | _ :: _ :: _ => simp [endsB]
  unfold fitsK
  split
  · rw [e2, e3, e4, e5]; cases f <;> cases i <;> cases r <;> cases y <;> rfl
  split
  · have e8 : (if 1 ≤ s.size ∧ s.size ≤ 255 then decide (tn = 0) && decide (it.length = 0) && decide (re.length = 0) && ((bys.length : Int) == 0) else false) = (decide (1 ≤ s.size) && !decide (255 < s.size) && (decide (tn = 0) && decide (it.length = 0) && decide (re.length = 0) && ((bys.length : Int) == 0))) := by
      by_cases ha : 1 ≤ s.size <;> by_cases hb : 255 < s.size
      · rw [if_neg (by omega)]; simp [ha, hb]
      · rw [if_pos (by omega)]; simp [ha, hb]
      · rw [if_neg (by omega)]; simp [ha, hb]
      · rw [if_neg (by omega)]; simp [ha, hb]
    rw [e8, e1, e2', e3, e4, e5]; cases f <;> cases i <;> cases r <;> cases y <;> cases m <;> cases decide (255 < s.size) <;> rfl
  split
  · have e8 : (if 0 ≤ tn ∧ tn ≤ 1152921504606846975 then decide (s.toList = []) && decide (it.length = 0) && decide (re.length = 0) && ((bys.length : Int) == 0) else false) = (!decide (tn < 0) && !decide (1152921504606846976 ≤ tn) && (decide (s.toList = []) && decide (it.length = 0) && decide (re.length = 0) && ((bys.length : Int) == 0))) := by
      by_cases ha : tn < 0
      · rw [if_neg (by omega), decide_eq_true ha]; rfl
      · by_cases hb : 1152921504606846976 ≤ tn
        · rw [if_neg (by omega), decide_eq_true hb, decide_eq_false ha]; rfl
        · rw [if_pos (by omega), decide_eq_false hb, decide_eq_false ha]; rfl
    rw [e8, e2, e3, e4, e5]; cases f <;> cases i <;> cases r <;> cases y <;> cases decide (tn < 0) <;> cases decide (1152921504606846976 ≤ tn) <;> rfl
  split
  · rw [e1, e2, e4, e5]; cases f <;> cases m <;> cases r <;> cases y <;> rfl
  split
  · rw [e1, e2, e3, e4, e5]; cases f <;> cases m <;> cases r <;> cases y <;> cases i <;> rfl
  split
  · rw [e1, e2, e5, e6, e7]; cases f <;> cases m <;> cases decide (1 < re.length) <;> cases y <;> cases i <;> cases (r && endK re) <;> rfl
  split
  · rw [e1, e2, e3, e4]; cases f <;> cases m <;> cases r <;> cases i <;> rfl
  · rfl

def Looked (w : World) (b h : Nat) (l n d : Int) (T : Tm) (e : Ending) (w' : World) : Prop :=
  e = .returned (.tuple #[]) ∧ Kp (fun q => q = b) w w' ∧
  ((tok (201 - d).toNat T ∧ tsz h T ≤ l ∧ ∃ n' : Int, w'.heap[b]? = some (lCells (l - tsz h T) n' (.pointer none)) ∧ 0 ≤ n' ∧ n' + (l - tsz h T) ≤ 65536) ∨
   (¬ (tok (201 - d).toNat T ∧ tsz h T ≤ l) ∧ ∃ (l' n' : Int) (p : Addr), w'.heap[b]? = some (lCells l' n' (.pointer (some p)))))

def LookIs (h : Nat) : Prop := ∀ (F : Nat → Prop) (T : Tm) (w : World) (cs : List Value) (b : Nat) (l n d : Int), TermAt F w h T cs → w.heap[b]? = some (lCells l n (.pointer none)) →
  0 ≤ l → 0 ≤ n → n + l ≤ 65536 → 1 ≤ d → d ≤ 201 → (∀ q, F q → q ≠ b) →
  Calls Tryd.prog 43 #[.pointer (some ⟨b, 0, none⟩), .agg cs.toArray, .int .i64 d] w (Looked w b h l n d T)

/-- how a looking stands: all was right so far and rem parts are left; or something is wrong -/
def LAt (wr : World) (b : Nat) (rem : Int) (P : Prop) : Prop :=
  (P ∧ 0 ≤ rem ∧ ∃ n' : Int, wr.heap[b]? = some (lCells rem n' (.pointer none)) ∧ 0 ≤ n' ∧ n' + rem ≤ 65536) ∨
  (¬ (P ∧ 0 ≤ rem) ∧ ∃ (l' n' : Int) (p : Addr), wr.heap[b]? = some (lCells l' n' (.pointer (some p))))

theorem LAt.kp {wr w' : World} {b : Nat} {rem : Int} {P : Prop} (hs : LAt wr b rem P) {G : Nat → Prop} (hk : Kp G wr w') (hG : ¬ G b) : LAt w' b rem P := by
  rcases hs with ⟨hP, h0, n', hh, hn⟩ | ⟨hno, l', n', p, hh⟩
  · exact .inl ⟨hP, h0, n', (hk.block b (Array.getElem?_eq_some_iff.1 hh).1 hG).trans hh, hn⟩
  · exact .inr ⟨hno, l', n', p, (hk.block b (Array.getElem?_eq_some_iff.1 hh).1 hG).trans hh⟩

theorem look_next {h : Nat} (ih : LookIs h) {F : Nat → Prop} {t : Tm} {wr : World} {cs : List Value} {b : Nat} {rem d : Int} {P : Prop} (ht : TermAt F wr h t cs) (hs : LAt wr b rem P) (hd1 : 1 ≤ d) (hd2 : d ≤ 200) (hFb : ∀ q, F q → q ≠ b) :
    Calls Tryd.prog 43 #[.pointer (some ⟨b, 0, none⟩), .agg cs.toArray, .int .i64 (d + 1)] wr fun e w' => e = .returned (.tuple #[]) ∧ Kp (fun q => q = b) wr w' ∧ LAt w' b (rem - tsz h t) (P ∧ tok (200 - d).toNat t) := by
  rcases hs with ⟨hP, h0, n', hh, hn, hnr⟩ | ⟨hno, l', n', p, hh⟩
  · refine (ih F t wr cs b rem n' (d + 1) ht hh h0 hn hnr (by omega) (by omega) hFb).mono ?_
    rintro e w' ⟨rfl, hk, hx⟩
    rw [show (201 - (d + 1)).toNat = (200 - d).toNat by omega] at hx
    refine ⟨rfl, hk, ?_⟩
    rcases hx with ⟨ht1, ht2, n'', hg, hn1, hn2⟩ | ⟨hno, l', n'', p, hg⟩
    · exact .inl ⟨⟨hP, ht1⟩, by omega, n'', hg, hn1, hn2⟩
    · exact .inr ⟨fun hx => hno ⟨hx.1.2, by have := hx.2; omega⟩, l', n'', p, hg⟩
  · obtain ⟨k, tn, s, a, l, c, a2, l2, dd, a3, l3, e, rfl⟩ := ht.form
    refine (look_bad b l' n' p k tn s (.slice a l c) (.slice a2 l2 dd) (.slice a3 l3 e) (d + 1) wr hh).mono ?_
    rintro e w' ⟨rfl, hg, hk⟩
    exact ⟨rfl, hk.mono fun _ _ e => e.elim, .inr ⟨fun hx => hno ⟨hx.1.1, by have := hx.2; omega⟩, l', n', p, hg⟩⟩

theorem all_next {p : Tm → Prop} {l : List Tm} {j : Nat} {t : Tm} (h : l[j]? = some t) : (∀ x ∈ l.take (j + 1), p x) = ((∀ x ∈ l.take j, p x) ∧ p t) := by
  rw [List.take_add_one, h]
  refine propext ⟨fun hx => ⟨fun x hm => hx x (List.mem_append_left _ hm), hx t (by simp)⟩, fun hx x hm => ?_⟩
  rcases List.mem_append.1 hm with hm | hm
  · exact hx.1 x hm
  · obtain rfl : x = t := by simpa using hm
    exact hx.2

theorem fitsK_len {k tn : Int} {s : ByteArray} {it re : List Tm} {bys : List UInt8} (h : fitsK k tn s it re bys = true) (h8 : k ≠ 8) : bys.length = 0 := by
  unfold fitsK at h
  split at h
  · simp at h; simpa using h.2
  split at h
  · split at h
    · simp at h; simpa using h.2
    · cases h
  split at h
  · split at h
    · simp at h; simpa using h.2
    · cases h
  split at h
  · simp at h; simpa using h.2
  split at h
  · simp at h; simpa using h.2
  split at h
  · simp at h; simpa using h.2
  cases h

/-- a looking that went through all parts -/
theorem looked_of {w w' : World} {b h : Nat} {l n d k tn l2 : Int} {s : ByteArray} {it re : List Tm} {bys : List UInt8} (hk : Kp (fun q => q = b) w w') (hd : d ≤ 200) (hfit : fitsK k tn s it re bys = true)
    (hl2 : (if k = 8 then l - 1 - (bys.length : Int) else l - 1) = l2)
    (hs : LAt w' b (l2 - (it.map (tsz h)).sum - (re.map (tsz h)).sum) ((∀ t ∈ it, tok (200 - d).toNat t) ∧ ∀ t ∈ re, tok (200 - d).toNat t)) :
    Looked w b (h + 1) l n d (.mk k tn s it re bys) (.returned (.tuple #[])) w' := by
  have hz : tsz (h + 1) (.mk k tn s it re bys) = 1 + bys.length + (it.map (tsz h)).sum + (re.map (tsz h)).sum := rfl
  have hrem : l2 - (it.map (tsz h)).sum - (re.map (tsz h)).sum = l - tsz (h + 1) (.mk k tn s it re bys) := by
    rw [hz, ← hl2]
    split
    · omega
    · rename_i h8
      have := fitsK_len hfit h8
      omega
  have htok : tok (201 - d).toNat (.mk k tn s it re bys) = ((∀ t ∈ it, tok (200 - d).toNat t) ∧ ∀ t ∈ re, tok (200 - d).toNat t) := by
    rw [show (201 - d).toNat = (200 - d).toNat + 1 by omega]
    exact propext ⟨fun e => e.2, fun e => ⟨hfit, e⟩⟩
  rw [hrem] at hs
  unfold Looked
  rw [htok]
  refine ⟨rfl, hk, ?_⟩
  rcases hs with ⟨hP, h0, n', hh⟩ | ⟨hno, l', n', p, hh⟩
  · exact .inl ⟨hP, by omega, n', hh⟩
  · exact .inr ⟨fun hx => hno ⟨hx.1, by have := hx.2; omega⟩, l', n', p, hh⟩

end Go.Proofs.YtpdepmkojbpklaaDoor
