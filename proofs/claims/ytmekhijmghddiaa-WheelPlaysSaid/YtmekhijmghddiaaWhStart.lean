/- A wheel's Start. -/
import Derived.Test.YtmekhijmghddiaaWhTick
import Derived.Test.YtmekhijmghddiaaEBad
namespace Go.Proofs.Ytmekhijmghddiaa
open Go.RowKit

section
variable {F G : Nat → Prop} {w w' wr w1 w2 w3 w4 : World} {b mb most now fresh : Nat} {hv : List Value} {ch : Nat → List Tm} {ts : List Tm}
set_option maxHeartbeats 1000000 in
theorem start_bad (w : World) (b : Nat) (n wht : Int) (h : n < 0 ∨ 1073741824 < n) :
    Calls Try.prog 14 #[.pointer (some ⟨b, 0, none⟩), .int .i64 n, .int .i64 wht] w (EBad w (fun v => .tuple #[.int .i64 (-1), v]) [Lk.fault ⟨#[115, 116, 97, 114, 116]⟩ n, Lk.kind 1]) := by
  have HB := Lib.hid (ebad1 w (fun v => .tuple #[.int .i64 (-1), v]) ⟨#[115, 116, 97, 114, 116]⟩ n 1 (by decide) 0)
  rcases h with h | h
  · go_enter Try.func14, Try.ntmps14
    go_wp2_with (go_at_call 27; refine (at_any _ _ _ _ _).mono ?_; rintro e w' ⟨rfl, rfl⟩)
    go_ret2
    exact HB.out
  · have h2 : ¬ n < 0 := by omega
    go_enter Try.func14, Try.ntmps14
    go_wp2_with (go_at_call 27; refine (at_any _ _ _ _ _).mono ?_; rintro e w' ⟨rfl, rfl⟩)
    go_ret2
    exact HB.out
set_option maxHeartbeats 1000000 in
theorem start_full (h : Wh w F b mb most now fresh ch ts) (n wht : Int) (h0 : 0 ≤ n) (h1 : n ≤ 1073741824) (hf : ts.length = most) :
    Calls Try.prog 14 #[.pointer (some ⟨b, 0, none⟩), .int .i64 n, .int .i64 wht] w (EBad w (fun v => .tuple #[.int .i64 (-1), v]) [Lk.fault ⟨#[115, 116, 97, 114, 116]⟩ n, Lk.kind 2]) := by
  have c0 := h.chn.head (i := 0) (v := .int .i64 (most : Nat)) rfl
  have c3 := h.chn.head (i := 3) (v := .map (some mb)) rfl
  have fb := h.chn.fz
  have hl := fun k => (h.drewN k).mp.len
  rw [hf] at hl
  have n1 : ¬ n < 0 := by omega
  have n2 : ¬ 1073741824 < n := by omega
  clear h hf h0 h1
  go_enter Try.func14, Try.ntmps14
  go_wp2_with fail
  go_quiet (fail)
  go_wp2_with (go_at_call 27; refine (at_any _ _ _ _ _).mono ?_; rintro e w' ⟨rfl, rfl⟩)
  go_ret2
  exact (ebad1 (w.drewN _) (fun v => .tuple #[.int .i64 (-1), v]) ⟨#[115, 116, 97, 114, 116]⟩ n 2 (by decide) 0).drew (kp_drewN (Kp.refl _ w) _)

/-- the timer that is started -/
def newTm (w : World) (now fresh : Nat) (n : Nat) (wht : Int) : Tm := ⟨fresh, wht, now + n, w.heap.size⟩
def StartTo (F : Nat → Prop) (b mb most now fresh : Nat) (ts : List Tm) (n : Nat) (wht : Int) (w : World) (e : Ending) (w' : World) : Prop :=
  e = .returned (.tuple #[.int .i64 (fresh : Nat), .nilIface]) ∧ ∃ ch, Wh w' (Ext F w w') b mb most now (fresh + 1) ch (ts ++ [newTm w now fresh n wht]) ∧ Kp (fun q => F q ∨ q = mb) w w'
theorem Chn.ext (h : Chn w' F b hv ch) (w : World) : Chn w' (Ext F w w') b hv ch := h.more (fun _ hq => .inl hq) (fun q hq => hq.elim (h.lt q) (fun e => e.2))

/-- what Start does, world by world -/
theorem start_pure (h : Wh w F b mb most now fresh ch ts) {n : Nat} {wht : Int} (hn : n ≤ 1073741824) (hnow : now + 1073741824 ≤ 2305843009213693952) (hfr : fresh + 1 ≤ 4611686018427387904)
    (k1 : Kp (fun _ => False) w w1) (hz1 : w1.heap.size = w.heap.size + 1)
    (e2 : w2 = w1.setCell ⟨b, 2, none⟩ (.int .i64 ((fresh + 1 : Nat) : Int))) (k3 : Kp (fun q => q = mb) w2 w3) (z3 : w3.heap.size = w2.heap.size) (m3 : Mp w3 mb (ts ++ [newTm w now fresh n wht]))
    (h4 : Chn w4 (fun q => F q ∨ q = w.heap.size) b (whv most now (fresh + 1) mb) (upd ch (slotOf now (now + n)) (newTm w now fresh n wht :: ch (slotOf now (now + n))))) (k4 : Kp (fun q => F q ∨ q = w.heap.size) w3 w4) (z4 : w4.heap.size = w3.heap.size) :
    ∃ ch, Wh w4 (Ext F w w4) b mb most now (fresh + 1) ch (ts ++ [newTm w now fresh n wht]) ∧ Kp (fun q => F q ∨ q = mb) w w4 := by
  have hz2 : w2.heap.size = w.heap.size + 1 := by rw [e2]; simpa [World.setCell] using hz1
  have hmlt := h.mp.lt
  refine ⟨_, ⟨h4.more (fun q hq => ?_) (fun q hq => ?_), ?_, ?_, fun t => ?_, fun s hs t ht => ?_, fun t ht => ?_, fun t ht => ?_, h.nowB, hfr⟩, ?_⟩
  · rcases hq with hq | hq
    · exact .inl hq
    · exact .inr ⟨by omega, by omega⟩
  · rcases hq with hq | hq
    · have := h.chn.lt q hq; omega
    · exact hq.2
  · exact m3.kp k4 (fun e => e.elim h.nF (fun e => by omega))
  · intro e
    rcases e with e | e
    · exact h.nF e
    · omega
  · rw [List.mem_append, ← h.mem]
    have hsl := slotOf_lt now (now + n)
    constructor
    · rintro ⟨s, hs, ht⟩
      by_cases e : s = slotOf now (now + n)
      · subst e
        rw [upd_same] at ht
        rcases List.mem_cons.1 ht with rfl | ht
        · exact .inr (by simp)
        · exact .inl ⟨_, hs, ht⟩
      · rw [upd_other _ _ e] at ht
        exact .inl ⟨s, hs, ht⟩
    · rintro (⟨s, hs, ht⟩ | ht)
      · by_cases e : s = slotOf now (now + n)
        · subst e
          exact ⟨_, hs, by rw [upd_same]; exact List.mem_cons_of_mem _ ht⟩
        · exact ⟨s, hs, by rw [upd_other _ _ e]; exact ht⟩
      · obtain rfl : t = newTm w now fresh n wht := by simpa using ht
        exact ⟨_, hsl, by rw [upd_same]; simp⟩
  · by_cases e : s = slotOf now (now + n)
    · subst e
      rw [upd_same] at ht
      rcases List.mem_cons.1 ht with rfl | ht
      · exact slotOf_pl (Nat.le_add_right _ _) (Nat.add_le_add_left hn _)
      · exact h.inv _ hs t ht
    · rw [upd_other _ _ e] at ht
      exact h.inv s hs t ht
  · rcases List.mem_append.1 ht with ht | ht
    · have := h.ids t ht; omega
    · obtain rfl : t = newTm w now fresh n wht := by simpa using ht
      simp [newTm]
  · rcases List.mem_append.1 ht with ht | ht
    · exact h.dueB t ht
    · obtain rfl : t = newTm w now fresh n wht := by simpa using ht
      simp [newTm]; omega
  · subst e2
    refine (((k1.mono fun _ _ e => e.elim).setCell ⟨b, 2, none⟩ _ (.inl (.inl h.chn.inb))).trans' (k3.mono fun q _ e => .inr e)).trans (k4.mono fun q hq e => ?_)
    rcases e with e | e
    · exact .inl (.inl e)
    · exact .inr ⟨by omega, by omega⟩

set_option maxRecDepth 100000 in
set_option maxHeartbeats 2000000 in
theorem start_ok (h : Wh w F b mb most now fresh ch ts) (n : Nat) (wht : Int) (hn : n ≤ 1073741824) (hnow : now + 1073741824 ≤ 2305843009213693952) (hfr : fresh + 1 ≤ 4611686018427387904) (hf : ts.length < most) (hm : most ≤ 4096) :
    Calls Try.prog 14 #[.pointer (some ⟨b, 0, none⟩), .int .i64 (n : Nat), .int .i64 wht] w (StartTo F b mb most now fresh ts n wht w) := by
  have c0 := h.chn.head (i := 0) (v := .int .i64 (most : Nat)) rfl
  have c1 := h.chn.head (i := 1) (v := .int .i64 (now : Nat)) rfl
  have c2 := h.chn.head (i := 2) (v := .int .i64 (fresh : Nat)) rfl
  have c3 := h.chn.head (i := 3) (v := .map (some mb)) rfl
  have fb := h.chn.fz
  have hl := fun k => (h.drewN k).mp.len
  obtain ⟨I, hI⟩ : ∃ I : Int, (n : Int) = I := ⟨_, rfl⟩
  have n1 : ¬ I < 0 := by omega
  have n2 : ¬ 1073741824 < I := by omega
  have HI := Lib.hid hI
  rw [hI]
  have hlm : ¬ ts.length = most := by omega

  have HH := Lib.hid (And.intro h (And.intro hn (And.intro hnow hfr)))
  have n0 : 0 ≤ I := by omega
  have hnb : (now : Int) + I ≤ 2305843009213693952 := by omega
  have hfb : (fresh : Int) ≤ 4611686018427387903 := by omega
  obtain ⟨NL, hNL⟩ : ∃ m, ts.length = m := ⟨_, rfl⟩
  rw [hNL] at hl hlm
  have HL := Lib.hid (And.intro hm (And.intro hf hNL))
  clear h hn hnow hfr hf hm hNL hI
  go_enter Try.func14, Try.ntmps14
  go_wp2_with fail
  go_quiet (fail)
  obtain ⟨wq, hwq⟩ : ∃ wq, w.drewN nq = wq := ⟨_, rfl⟩
  have hw := HH.out.1.drewN nq
  rw [hwq] at hw
  have hkq : Kp (fun _ => False) w wq := by rw [← hwq]; exact kp_drewN (Kp.refl _ w) nq
  have hzq : wq.heap.size = w.heap.size := by rw [← hwq]; rfl
  rw [hwq]
  have d1 := hw.chn.head (i := 1) (v := .int .i64 (now : Nat)) rfl
  have d2 := hw.chn.head (i := 2) (v := .int .i64 (fresh : Nat)) rfl
  have fq := hw.chn.fz
  have HQ := Lib.hid (And.intro hw (And.intro hkq hzq))
  clear hw hkq hzq hwq c0 c1 c2 c3 fb hl
  go_wp2_with fail
  obtain ⟨W1, hW1⟩ : ∃ W1, (wq.alloc (.cells #[.int .i64 (fresh : Nat), .int .i64 wht, .int .i64 ((now : Int) + I), .pointer none, .pointer none] 94)).drew = W1 := ⟨_, rfl⟩
  have HW1 := Lib.hid hW1
  have hb1 : b < wq.heap.size := HQ.out.1.chn.lt b HQ.out.1.chn.inb
  have hk1 : Kp (fun _ => False) wq W1 := by rw [← hW1]; exact ((Kp.refl _ wq).alloc _).drew
  have hz1 : W1.heap.size = w.heap.size + 1 := by rw [← hW1, ← HQ.out.2.2]; show (wq.alloc _).heap.size = _; simp
  have hn1 : Nd W1 (newTm w now fresh n wht) none none := by
    unfold Nd newTm
    rw [← HQ.out.2.2, ← hW1]
    have := heap_alloc_new wq (.cells #[.int .i64 (fresh : Nat), .int .i64 wht, .int .i64 ((now : Int) + I), .pointer none, .pointer none] 94)
    rw [← HI.out] at this ⊢
    exact this
  have hlt1 : ∀ q, F q ∨ q = w.heap.size → q < W1.heap.size := by
    intro q hq
    rw [hz1]
    rcases hq with hq | hq
    · have := HH.out.1.chn.lt q hq; omega
    · omega
  have hc1 : Chn W1 (fun q => F q ∨ q = w.heap.size) b (whv most now fresh mb) ch :=
    (HQ.out.1.chn.same hk1).more (fun q hq => .inl hq) hlt1
  have g2 := hc1.head (i := 2) (v := .int .i64 (fresh : Nat)) rfl
  have f1 := hc1.fz
  obtain ⟨w2, hw2⟩ : ∃ w2, W1.setCell ⟨b, 2, none⟩ (.int .i64 ((fresh : Int) + 1)) = w2 := ⟨_, rfl⟩
  have HW2 := Lib.hid hw2
  have hc2 : Chn w2 (fun q => F q ∨ q = w.heap.size) b (whv most now (fresh + 1) mb) ch := by rw [← hw2]; exact hc1.setHead 2 (.int .i64 ((fresh : Int) + 1)) (by omega)
  have htb : (newTm w now fresh n wht).blk ≠ b := nd_ne hc1 hn1
  have hn2 : Nd w2 (newTm w now fresh n wht) none none := by rw [← hw2]; exact hn1.other htb
  have hm2 : Mp w2 mb ts := by
    rw [← hw2]
    exact (HQ.out.1.mp.same hk1).kp ((Kp.refl (fun q => q = b) W1).setCell ⟨b, 2, none⟩ _ (.inl rfl)) (fun e => HH.out.1.nF (by rw [e]; exact HH.out.1.chn.inb))
  have hz2 : w2.heap.size = w.heap.size + 1 := by rw [← hw2]; simpa [World.setCell] using hz1
  have i3 := hc2.head (i := 3) (v := .map (some mb)) rfl
  have i0 := hn2.facts.1
  obtain ⟨w3, hr3, hm3, hk3, hz3⟩ := (hm2.same (w' := w2.drew) (kp_drewN (Kp.refl _ w2) 1)).put (newTm w now fresh n wht) (wf_i64 (Int.le_trans (by decide) (Int.natCast_nonneg _)) (by simp only [newTm]; omega))
    (fun x hx e => by have := HH.out.1.ids x hx; simp [newTm] at e; omega) (by have := HL.out.1; have := HL.out.2.1; unfold maxLen; omega)
  go_region
  clear hW1
  rw [HQ.out.2.2]
  have i0' : w2.cell? ⟨w.heap.size, 0, none⟩ = some (.int .i64 (fresh : Nat)) := i0
  have fn2 : ∀ o, w2.frozen? ⟨w.heap.size, o, none⟩ = false := hn2.facts.2.2.2.2.2.1
  have hk3' : Kp (fun q => q = mb) w2 w3 := (kp_drewN (Kp.refl _ w2) 1).trans' hk3
  have hmbF : ¬ F mb := HH.out.1.nF
  have hmlt : mb < w.heap.size := HH.out.1.mp.lt
  have hn3 : Nd w3 (newTm w now fresh n wht) none none := by
    unfold Nd
    rw [hk3'.block _ (by rw [hz2]; simp [newTm]) (fun e => by simp [newTm] at e; omega)]
    exact hn2
  have hc3 : Chn w3 (fun q => F q ∨ q = w.heap.size) b (whv most now (fresh + 1) mb) ch := hc2.kp hk3' (fun k hk e => by
    subst e
    rcases hk with hk | hk
    · exact hmbF hk
    · omega)
  have hap : ∀ s', s' < 320 → ∀ t' ∈ ch s', t'.blk ≠ (newTm w now fresh n wht).blk := fun s' hs' t' ht' e => by
    have := HH.out.1.chn.lt _ (HH.out.1.chn.inF s' hs' t' ht')
    simp [newTm] at e
    omega
  obtain ⟨DD, hDD⟩ : ∃ D, now + n = D := ⟨_, rfl⟩
  have j2 : w3.cell? ⟨w.heap.size, 2, none⟩ = some (.int .i64 (DD : Nat)) := by rw [← hDD]; exact hn3.facts.2.2.1
  have HS3 := Lib.hid (slot_q hc3 (now := now) (due := DD) rfl (by omega) (by have := HH.out.2.2.1; have := HH.out.2.1; omega))
  have HA3 := Lib.hid (fun m => add_any (hc3.drewN m) (slotOf_lt now DD) (show Nd (w3.drewN m) (newTm w now fresh n wht) none none from hn3) (.inr rfl) hap)
  have HR3 := Lib.hid (show (Instr.mapUpdate 68 (.map (some mb)) (.int .i64 (fresh : Nat)) (.pointer (some ⟨w.heap.size, 0, none⟩))).run Try.prog w2.drew = .ok () w3 from hr3)
  have HA4 := Lib.hid (fun m => show Calls Try.prog 34 #[.pointer (some ⟨b, 4 + slotOf now DD, none⟩), .pointer (some ⟨w.heap.size, 0, none⟩)] (w3.drewN m) _ from HA3.out m)
  have HP := Lib.hid (And.intro (HQ.out.2.1.trans' hk1) (And.intro hz1 (And.intro hk3' (And.intro (hz3.trans rfl : w3.heap.size = w2.heap.size) (And.intro hm3 hDD)))))
  clear HA3 hr3 hn3 hc3 hap hk3' hk3 hz3 hm3 i0 hn2 hm2 hz2 htb hc2 hc1 hlt1 hn1 hk1 hz1 hDD hmbF hmlt hb1
  go_wp2_with fail
  clear hw2
  go_still_tail 9, (by kernel_rfl)
  refine wpList_runm rfl _ _ _ 68 rfl (.map (some mb)) (.int .i64 (fresh : Nat)) (.pointer (some ⟨w.heap.size, 0, none⟩)) rfl rfl rfl w3 HR3.out ?_
  go_wp2_with fail
  refine HS3.out.mono ?_
  rintro e w5 ⟨rfl, m5, hm5⟩
  have HA5 := Lib.hid (HA4.out m5)
  rw [← hm5] at HA5
  have HM5 := Lib.hid hm5
  clear hm5 HA4
  go_wp2_with fail
  refine HA5.out.mono ?_
  rintro e w6 ⟨rfl, h6, k6, z6⟩
  have k60 : ∃ p q, Nd w6 (newTm w now fresh n wht) p q := h6.node (slotOf_lt now DD) (by rw [upd_same]; simp)
  have l0 : w6.cell? ⟨w.heap.size, 0, none⟩ = some (.int .i64 (fresh : Nat)) := by
    obtain ⟨p, q, hnd⟩ := k60
    exact hnd.facts.1
  have HF := Lib.hid (start_pure (w1 := W1) (w2 := w2) (w3 := w3) (w4 := w6) HH.out.1 HH.out.2.1 HH.out.2.2.1 HH.out.2.2.2 HP.out.1 HP.out.2.1 HW2.out.symm HP.out.2.2.1 HP.out.2.2.2.1 HP.out.2.2.2.2.1 (by rw [HP.out.2.2.2.2.2]; exact h6)
    (((kp_drewN (Kp.refl _ w3) m5).trans' (by rw [← HM5.out]; exact k6))) (by rw [z6, HM5.out]; rfl))
  clear h6 k6 z6 k60 HA5
  go_wp2_with fail
  go_ret2
  exact ⟨rfl, HF.out⟩
end
end Go.Proofs.Ytmekhijmghddiaa
