/- Going through a function's instructions: a place that is reached. Going through a function's instructions: from one that is reached. -/
import Derived.Test.YtpdepmkojbpklaaDoorM12
/- Going through a function's instructions: a place that is reached. -/
namespace Go.Proofs.YtpdepmkojbpklaaDoor
open Go.RowKit

/-- how many places are not reached yet -/
def um : List Int → Nat
  | [] => 0
  | x :: l => (if x = -1 then 1 else 0) + um l
theorem um_set : ∀ {l : List Int} {i : Nat} {t : Int}, l[i]? = some (-1) → t ≠ -1 → um (l.set i t) + 1 = um l
  | x :: l, 0, t, h, ht => by
    obtain rfl : x = -1 := by simpa using h
    simp [um, ht]; omega
  | x :: l, i + 1, t, h, ht => by
    have := um_set (l := l) (i := i) (by simpa using h) ht
    simp only [List.set_cons_succ, um]; omega
  | [], i, t, h, _ => by simp at h
theorem um_le : ∀ l : List Int, um l ≤ l.length
  | [] => by simp [um]
  | x :: l => by
    have := um_le l
    simp only [um, List.length_cons]
    split <;> omega
structure WkAt (B : Nat) (F : Nat → Prop) (w : World) (W tg tc g cap : Nat) (po : Option Addr) (cc : Nat) (code : List In4) (ts pend : List Int) : Prop where
  pl : PlAt w W (.slice po code.length cc) (.slice (some ⟨tg, 0, none⟩) ts.length tc) g cap pend
  tr : Ir w tg tc ts
  tW : tg ≠ W
  tG : tg ≠ g
  bW : B ≤ W
  bt : B ≤ tg
  bg : B ≤ g
  co : CodeAt F w code (.slice po code.length cc)
  lo : ∀ q, F q → q < B
  len : ts.length = code.length
  few : pend.length + um ts ≤ code.length
  hp : IsHp (gt pend) pend.length
section
variable {B : Nat} {F : Nat → Prop} {w w' : World} {W tg tc g cap : Nat} {po : Option Addr} {cc : Nat} {code : List In4} {ts pend : List Int}
theorem CodeAt.kp' {G : Nat → Prop} {v : Value} (h : CodeAt F w code v) (hk : Kp G w w') (hd : ∀ q, F q → ¬ G q) : CodeAt F w' code v := h.imp (fun _ e => e) (cells_kp hk hd)
theorem WkAt.facts (h : WkAt B F w W tg tc g cap po cc code ts pend) : w.cell? ⟨W, 0, none⟩ = some (.slice po code.length cc) ∧ w.cell? ⟨W, 1, none⟩ = some (.slice (some ⟨tg, 0, none⟩) ts.length tc) ∧ w.cell? ⟨W, 2, none⟩ = some (.slice (some ⟨g, 0, none⟩) pend.length cap) ∧ ∀ o, w.frozen? ⟨W, o, none⟩ = false := h.pl.facts
theorem WkAt.kp (h : WkAt B F w W tg tc g cap po cc code ts pend) (hk : Kp (fun _ => False) w w') : WkAt B F w' W tg tc g cap po cc code ts pend :=
  ⟨h.pl.kp hk (fun e => e) (fun e => e), h.tr.kp hk (fun e => e), h.tW, h.tG, h.bW, h.bt, h.bg, h.co.kp' hk (fun _ _ e => e), h.lo, h.len, h.few, h.hp⟩
end
/-- what comes of reaching a place -/
def RePost (B : Nat) (F : Nat → Prop) (w : World) (W tg tc g : Nat) (po : Option Addr) (cc : Nat) (code : List In4) (ts pend : List Int) (at' : Nat) (t : Int) (e : Ending) (w' : World) : Prop :=
  (∃ k : Int, e = .returned (.iface 42 (.int .i64 k)) ∧ ((at' = code.length ∧ k = 13) ∨ (at' < code.length ∧ k = 14 ∧ (8 < t ∨ ∃ u, ts[at']? = some u ∧ u ≠ -1 ∧ u ≠ t))) ∧ Kp (fun q => q = W ∨ q = tg ∨ q = g) w w') ∨
  (e = .returned .nilIface ∧ at' < code.length ∧ t ≤ 8 ∧ ∃ ts' pend' g' cap', WkAt B F w' W tg tc g' cap' po cc code ts' pend' ∧ ((ts[at']? = some t ∧ ts' = ts ∧ pend' = pend) ∨ (ts[at']? = some (-1) ∧ ts' = ts.set at' t ∧ (∀ y, y ∈ pend' ↔ y = (at' : Int) ∨ y ∈ pend) ∧ pend'.length = pend.length + 1)) ∧ Kp (fun q => q = W ∨ q = tg ∨ q = g) w w')

set_option maxRecDepth 100000 in
set_option maxHeartbeats 4000000 in
theorem reach_any {B : Nat} {F : Nat → Prop} {w : World} {W tg tc g cap : Nat} {po : Option Addr} {cc : Nat} {code : List In4} {ts pend : List Int} {at' : Nat} {t : Int} (h : WkAt B F w W tg tc g cap po cc code ts pend) (hat : at' ≤ code.length) (hc : code.length ≤ 800000) (ht0 : 0 ≤ t) (ht9 : t ≤ 9) :
    Calls Tryd.prog 55 #[.pointer (some ⟨W, 0, none⟩), .int .i64 at', .int .i64 t] w (RePost B F w W tg tc g po cc code ts pend at' t) := by
  obtain ⟨f0, f1, f2, ff⟩ := h.facts
  have H := Lib.hid (And.intro h (And.intro hat (And.intro hc (And.intro ht0 ht9))))
  have hlen := h.len
  by_cases hend : at' = code.length
  · subst hend
    clear h hat hc ht0 ht9 hlen
    go_enter Tryd.func55, Tryd.ntmps55
    go_wp2_with fail
    go_ret
    exact .inl ⟨13, rfl, .inl ⟨rfl, rfl⟩, Kp.refl _ w⟩
  have hne : ¬ (at' : Int) = code.length := by omega
  by_cases h8 : 8 < t
  · clear h hat hc ht0 ht9 hlen
    go_enter Tryd.func55, Tryd.ntmps55
    go_wp2_with fail
    go_ret
    exact .inl ⟨14, rfl, .inr ⟨by have := H.out.2.1; omega, rfl, .inl h8⟩, Kp.refl _ w⟩
  have h8' : t ≤ 8 := by omega
  obtain ⟨u, hu⟩ : ∃ u, ts[at']? = some u := ⟨_, List.getElem?_eq_getElem (by omega)⟩
  obtain ⟨cu, fu⟩ := h.tr.cell hu
  have hti : (at' : Int) < ts.length := by omega
  have hlt : at' < code.length := by omega
  have HU := Lib.hid hu
  clear h hat hc ht9 hlen hu
  by_cases hut : u = t
  · subst hut
    go_enter Tryd.func55, Tryd.ntmps55
    go_wp2_with fail
    go_ret
    exact .inr ⟨rfl, hlt, h8', ts, pend, _, _, H.out.1, .inl ⟨HU.out, rfl, rfl⟩, Kp.refl _ w⟩
  by_cases hum : u = -1
  · subst hum
    obtain ⟨wa, hwa⟩ : ∃ wa, w.setCell ⟨tg, at', none⟩ (.int .i64 t) = wa := ⟨_, rfl⟩
    have hka : Kp (fun q => q = tg) w wa := by rw [← hwa]; exact (Kp.refl (fun q => q = tg) w).setCell _ _ (.inl rfl)
    have hpa : PlAt wa W (.slice po code.length cc) (.slice (some ⟨tg, 0, none⟩) ts.length tc) g cap pend := H.out.1.pl.kp hka (Ne.symm H.out.1.tW) (Ne.symm H.out.1.tG)
    have hta : Ir wa tg tc (ts.set at' t) := by rw [← hwa]; exact H.out.1.tr.set at' t
    obtain ⟨d0, d1, d2, df⟩ := hpa.facts
    have HA := Lib.hid (And.intro hka (And.intro hpa hta))
    have hne2 : ¬ (t = -1) := by omega
    clear hka hpa hta
    go_enter Tryd.func55, Tryd.ntmps55
    go_wp2_with fail
    clear hwa d0 d1 d2 df f0 f1 f2 ff cu fu
    refine (hpush_hp (x := at') HA.out.2.1 (by have := H.out.1.few; have := H.out.2.2.1; omega)).mono ?_
    rintro e w3 ⟨rfl, g', cap', l', hp3, ha3, hv3, hg3, hk3⟩
    have hz := HA.out.1.size
    have htl := H.out.1.tr.lt
    have hgt : tg ≠ g' := by
      rcases hg3 with e | e
      · rw [e]; exact H.out.1.tG
      · omega
    have hBg : B ≤ g' := by
      rcases hg3 with e | e
      · rw [e]; exact H.out.1.bg
      · have := H.out.1.bt; omega
    have hum' := um_set HU.out hne2
    have hk03 : Kp (fun q => q = W ∨ q = tg ∨ q = g) w w3 := (HA.out.1.mono fun q _ e => .inr (.inl e)).trans' (hk3.mono fun q _ e => e.imp (fun e => e) fun e => .inr e)
    have hkB : Kp (fun q => B ≤ q) w w3 := hk03.mono fun q _ e => by have := H.out.1.bW; have := H.out.1.bg; have := H.out.1.bt; omega
    have hW3 : WkAt B F w3 W tg tc g' cap' po cc code (ts.set at' t) l' := by
      have h0 := H.out.1
      refine ⟨by rw [List.length_set]; exact hp3, HA.out.2.2.kp hk3 (fun e => ?_), h0.tW, hgt, h0.bW, h0.bt, hBg, h0.co.kp' hkB (fun q e e2 => by have := h0.lo q e; omega), h0.lo, by rw [List.length_set]; exact h0.len, ?_, hv3 h0.hp⟩
      · rcases e with e | e
        · exact h0.tW e
        · exact h0.tG e
      · have := h0.few
        have := ha3.1
        simp only [List.length_append, List.length_singleton] at this
        omega
    have H3 := Lib.hid (And.intro hW3 (And.intro ha3 hk03))
    clear hk03 hp3 ha3 hv3 hg3 hk3 hz htl hgt hBg hum' hkB hW3
    go_wp2_with fail
    go_ret
    exact .inr ⟨rfl, hlt, h8', _, l', _, _, H3.out.1, .inr ⟨HU.out, rfl, fun y => by rw [← H3.out.2.1.2 y]; simp [or_comm], by have := H3.out.2.1.1; simp at this; omega⟩, H3.out.2.2⟩
  · go_enter Tryd.func55, Tryd.ntmps55
    go_wp2_with fail
    go_ret
    exact .inl ⟨14, rfl, .inr ⟨hlt, rfl, .inr ⟨u, HU.out, hum, hut⟩⟩, Kp.refl _ w⟩
end Go.Proofs.YtpdepmkojbpklaaDoor

/- Going through a function's instructions: from one that is reached. -/
namespace Go.Proofs.YtpdepmkojbpklaaDoor
open Go.RowKit

def vgoal (x : In4) : Int := if x.op = 5 ∨ x.op = 6 ∨ x.op = 7 ∨ x.op = 8 then x.c else if x.op = 18 then x.b else x.a
/-- where an instruction goes on, with how many tries: none, where it may not stand there -/
def vsteps (x : In4) (i : Nat) (t : Int) : Option (List (Int × Int)) :=
  if x.op = 15 ∨ x.op = 14 then (if 0 < t then none else some [])
  else if x.op = 26 ∨ x.op = 27 then some []
  else if x.op = 24 then some [((i + 1 : Nat), t + 1), (vgoal x, t)]
  else if x.op = 5 ∨ x.op = 6 ∨ x.op = 7 ∨ x.op = 8 ∨ x.op = 18 ∨ x.op = 22 then some [((i + 1 : Nat), t), (vgoal x, t)]
  else if x.op = 4 ∨ x.op = 20 ∨ x.op = 21 then some [(vgoal x, t)]
  else if x.op = 25 then (if t = 0 then none else some [((i + 1 : Nat), t - 1)])
  else some [((i + 1 : Nat), t)]

set_option maxRecDepth 100000 in
set_option maxHeartbeats 4000000 in
theorem goal_any (x : In4) (w : World) : Calls Tryd.prog 56 #[.agg #[.int .i64 x.op, .int .i64 x.a, .int .i64 x.b, .int .i64 x.c]] w fun e w' => e = .returned (.int .i64 (vgoal x)) ∧ Kp (fun _ => False) w w' := by
  obtain ⟨op, a, b, c⟩ := x
  obtain ⟨w1, hw1⟩ : ∃ w1, w.alloc (.cells #[.int .i64 op, .int .i64 a, .int .i64 b, .int .i64 c] 29) = w1 := ⟨_, rfl⟩
  have hk1 : Kp (fun _ => False) w w1 := by rw [← hw1]; exact (Kp.refl _ w).alloc _
  have hb : w1.heap[w.heap.size]? = some (.cells #[.int .i64 op, .int .i64 a, .int .i64 b, .int .i64 c] 29 (0, 0)) := by rw [← hw1]; exact heap_alloc_new w _
  have y0 : w1.cell? ⟨w.heap.size, 0, none⟩ = some (.int .i64 op) := by rw [cell_of_row w1 _ 0 _ _ _ hb]; rfl
  have y1 : w1.cell? ⟨w.heap.size, 1, none⟩ = some (.int .i64 a) := by rw [cell_of_row w1 _ 1 _ _ _ hb]; rfl
  have y2 : w1.cell? ⟨w.heap.size, 2, none⟩ = some (.int .i64 b) := by rw [cell_of_row w1 _ 2 _ _ _ hb]; rfl
  have y3 : w1.cell? ⟨w.heap.size, 3, none⟩ = some (.int .i64 c) := by rw [cell_of_row w1 _ 3 _ _ _ hb]; rfl
  have H := Lib.hid hk1
  clear hk1 hb
  by_cases h5 : op = 5 ∨ op = 6 ∨ op = 7 ∨ op = 8
  · have hv : vgoal ⟨op, a, b, c⟩ = c := by simp only [vgoal]; rw [if_pos h5]
    rw [hv]
    rcases h5 with rfl | rfl | rfl | rfl
    all_goals
      go_enter Tryd.func56, Tryd.ntmps56
      go_wp2_with fail
      go_ret
      exact ⟨rfl, H.out⟩
  · by_cases h18 : op = 18
    · have hv : vgoal ⟨op, a, b, c⟩ = b := by simp only [vgoal]; rw [if_neg h5, if_pos h18]
      rw [hv]
      subst h18
      go_enter Tryd.func56, Tryd.ntmps56
      go_wp2_with fail
      go_ret
      exact ⟨rfl, H.out⟩
    · have hv : vgoal ⟨op, a, b, c⟩ = a := by simp only [vgoal]; rw [if_neg h5, if_neg h18]
      rw [hv]
      have q5 : ¬ op = 5 := fun e => h5 (.inl e)
      have q6 : ¬ op = 6 := fun e => h5 (.inr (.inl e))
      have q7 : ¬ op = 7 := fun e => h5 (.inr (.inr (.inl e)))
      have q8 : ¬ op = 8 := fun e => h5 (.inr (.inr (.inr e)))
      clear h5
      go_enter Tryd.func56, Tryd.ntmps56
      go_wp2_with fail
      go_ret
      exact ⟨rfl, H.out⟩

theorem pig_le {α : Type} [BEq α] [LawfulBEq α] : ∀ {l1 l2 : List α}, l1.Nodup → (∀ y, y ∈ l1 → y ∈ l2) → l1.length ≤ l2.length
  | [], _, _, _ => by simp
  | a :: l1, l2, hn, hs => by
    have ha := hs a (by simp)
    have hn' := List.nodup_cons.1 hn
    have h1 := pig_le (l1 := l1) (l2 := l2.erase a) hn'.2 fun y hy => (List.mem_erase_of_ne (fun e => hn'.1 (by rw [← e]; exact hy))).2 (hs y (by simp [hy]))
    rw [List.length_erase_of_mem ha] at h1
    have := List.length_pos_of_mem ha
    simp only [List.length_cons]
    omega
theorem pig_nodup {α : Type} [BEq α] [LawfulBEq α] : ∀ {l1 l2 : List α}, l1.Nodup → (∀ y, y ∈ l1 → y ∈ l2) → l2.length ≤ l1.length → l2.Nodup
  | [], l2, _, _, hl => by
    have : l2 = [] := List.eq_nil_of_length_eq_zero (by simpa using hl)
    rw [this]; simp
  | a :: l1, l2, hn, hs, hl => by
    have ha := hs a (by simp)
    have hn' := List.nodup_cons.1 hn
    have hle := List.length_erase_of_mem ha
    have hpos := List.length_pos_of_mem ha
    simp only [List.length_cons] at hl
    have hsub : ∀ y, y ∈ l1 → y ∈ l2.erase a := fun y hy => (List.mem_erase_of_ne (fun e => hn'.1 (by rw [← e]; exact hy))).2 (hs y (by simp [hy]))
    have h1 := pig_nodup (l1 := l1) (l2 := l2.erase a) hn'.2 hsub (by omega)
    refine (List.perm_cons_erase ha).nodup_iff.2 (List.nodup_cons.2 ⟨fun hm => ?_, h1⟩)
    have := pig_le (l1 := a :: l1) (l2 := l2.erase a) hn fun y hy => by
      rcases List.mem_cons.1 hy with e | e
      · rw [e]; exact hm
      · exact hsub y e
    simp only [List.length_cons] at this
    omega
theorem pig_out {α : Type} [BEq α] [LawfulBEq α] {l l1 : List α} {p : α} (hn : l.Nodup) (h : ∀ y, y ∈ l ↔ y = p ∨ y ∈ l1) (hl : l.length = l1.length + 1) : l1.Nodup ∧ ¬ p ∈ l1 := by
  have hp : ¬ p ∈ l1 := fun hp => by
    have := pig_le hn fun y hy => ((h y).1 hy).elim (fun e => by rw [e]; exact hp) fun e => e
    omega
  have h2 : (p :: l1).Nodup := pig_nodup hn (fun y hy => by simpa using (h y).1 hy) (by simp [hl])
  exact ⟨(List.nodup_cons.1 h2).2, hp⟩
theorem pig_in {α : Type} [BEq α] [LawfulBEq α] {l l1 : List α} {p : α} (hn : l1.Nodup) (hp : ¬ p ∈ l1) (h : ∀ y, y ∈ l ↔ y = p ∨ y ∈ l1) (hl : l.length = l1.length + 1) : l.Nodup :=
  pig_nodup (l1 := p :: l1) (List.nodup_cons.2 ⟨hp, hn⟩) (fun y hy => (h y).2 (by simpa using hy)) (by simp [hl])
/-- what is reached, behind some steps more -/
structure Grows (ts pend : List Int) (s : List (Int × Int)) (ts' pend' : List Int) : Prop where
  len : ts'.length = ts.length
  old : ∀ (q : Nat) (u : Int), ts[q]? = some u → u ≠ -1 → ts'[q]? = some u
  new : ∀ (q : Nat) (u : Int), ts'[q]? = some u → u ≠ -1 → ts[q]? = some u ∨ ((q : Int), u) ∈ s
  got : ∀ (q u : Int), (q, u) ∈ s → ∃ q' : Nat, q = q' ∧ ts'[q']? = some u ∧ u ≤ 8
  more : ∀ y, y ∈ pend → y ∈ pend'
  pen : ∀ y, y ∈ pend' → y ∈ pend ∨ ∃ u, (y, u) ∈ s
  fresh : ∀ (q : Nat) (u : Int), ts'[q]? = some u → u ≠ -1 → ts[q]? = some u ∨ (q : Int) ∈ pend'
  nm : ∀ (q u : Int), (q, u) ∈ s → u ≠ -1
  sum : pend'.length + um ts' = pend.length + um ts
  less : um ts' ≤ um ts
  neu : ∀ q : Nat, (q : Int) ∈ pend' → (q : Int) ∈ pend ∨ ts[q]? = some (-1)
  nd : (∀ q : Nat, (q : Int) ∈ pend → ts[q]? ≠ some (-1)) → pend.Nodup → pend'.Nodup
theorem Grows.refl (ts pend : List Int) : Grows ts pend [] ts pend := ⟨rfl, fun _ _ h _ => h, fun _ _ h _ => .inl h, fun _ _ h => by simp at h, fun _ h => h, fun _ h => .inl h, fun _ _ h _ => .inl h, fun _ _ h => by simp at h, rfl, Nat.le_refl _, fun _ h => .inl h, fun _ h => h⟩
theorem Grows.step {ts pend ts1 pend1 ts2 pend2 : List Int} {s : List (Int × Int)} {q : Nat} {u : Int} (h : Grows ts pend s ts1 pend1) (hu : u ≠ -1) (h8 : u ≤ 8)
    (hs : (ts1[q]? = some u ∧ ts2 = ts1 ∧ pend2 = pend1) ∨ (ts1[q]? = some (-1) ∧ ts2 = ts1.set q u ∧ (∀ y, y ∈ pend2 ↔ y = (q : Int) ∨ y ∈ pend1) ∧ pend2.length = pend1.length + 1)) : Grows ts pend (s ++ [((q : Int), u)]) ts2 pend2 := by
  have hnm : ∀ (q' u' : Int), (q', u') ∈ s ++ [((q : Int), u)] → u' ≠ -1 := fun q' u' e => by
    rcases List.mem_append.1 e with e | e
    · exact h.nm q' u' e
    · obtain ⟨rfl, rfl⟩ : q' = q ∧ u' = u := by simpa using e
      exact hu
  rcases hs with ⟨h1, rfl, rfl⟩ | ⟨h1, rfl, h2, hl2⟩
  · refine ⟨h.len, h.old, fun q' u' e1 e2 => (h.new q' u' e1 e2).imp (fun e => e) (fun e => List.mem_append_left _ e), fun q' u' e => ?_, h.more, fun y e => (h.pen y e).imp (fun e => e) (fun ⟨u', e⟩ => ⟨u', List.mem_append_left _ e⟩), h.fresh, hnm, h.sum, h.less, h.neu, h.nd⟩
    rcases List.mem_append.1 e with e | e
    · exact h.got q' u' e
    · obtain ⟨rfl, rfl⟩ : q' = q ∧ u' = u := by simpa using e
      exact ⟨q, rfl, h1, h8⟩
  · have hq := (List.getElem?_eq_some_iff.1 h1).1
    have hset : ∀ (q' : Nat) (u' : Int), ts1[q']? = some u' → u' ≠ -1 → (ts1.set q u)[q']? = some u' := fun q' u' e1 e2 => by
      have hne : q ≠ q' := fun e => by
        subst e
        rw [h1] at e1
        exact e2 (Option.some.inj e1).symm
      rw [List.getElem?_set_ne hne]
      exact e1
    refine ⟨by rw [List.length_set]; exact h.len, fun q' u' e1 e2 => hset q' u' (h.old q' u' e1 e2) e2, fun q' u' e1 e2 => ?_, fun q' u' e => ?_, fun y e => (h2 y).2 (.inr (h.more y e)), fun y e => ?_, fun q' u' e1 e2 => ?_, hnm, by have := um_set h1 hu; have := h.sum; omega, by have := um_set h1 hu; have := h.less; omega, fun q' e => ?_, fun hp hn => pig_in (h.nd hp hn) (fun e => ?_) h2 hl2⟩
    · by_cases e : q = q'
      · subst e
        rw [List.getElem?_set_self hq] at e1
        obtain rfl : u = u' := Option.some.inj e1
        exact .inr (List.mem_append_right _ (by simp))
      · rw [List.getElem?_set_ne e] at e1
        exact (h.new q' u' e1 e2).imp (fun e => e) (fun e => List.mem_append_left _ e)
    · rcases List.mem_append.1 e with e | e
      · obtain ⟨q2, rfl, e3, e4⟩ := h.got q' u' e
        by_cases hm : u' = -1
        · subst hm
          by_cases e5 : q = q2
          · subst e5
            have := h.got _ _ e
            exact absurd rfl (h.nm _ _ e)
          · exact ⟨q2, rfl, by rw [List.getElem?_set_ne e5]; exact e3, e4⟩
        · exact ⟨q2, rfl, hset q2 u' e3 hm, e4⟩
      · obtain ⟨rfl, rfl⟩ : q' = q ∧ u' = u := by simpa using e
        exact ⟨q, rfl, List.getElem?_set_self hq, h8⟩
    · rcases (h2 y).1 e with rfl | e
      · exact .inr ⟨u, List.mem_append_right _ (by simp)⟩
      · exact (h.pen y e).imp (fun e => e) (fun ⟨u', e⟩ => ⟨u', List.mem_append_left _ e⟩)
    · by_cases e : q = q'
      · subst e
        exact .inr ((h2 _).2 (.inl rfl))
      · rw [List.getElem?_set_ne e] at e1
        exact (h.fresh q' u' e1 e2).imp (fun e => e) (fun e => (h2 _).2 (.inr e))
    · rcases (h2 _).1 e with e | e
      · obtain rfl : q' = q := by omega
        have hql : q' < ts.length := by rw [← h.len]; exact hq
        obtain ⟨v, hv⟩ : ∃ v, ts[q']? = some v := ⟨_, List.getElem?_eq_getElem hql⟩
        by_cases hm : v = -1
        · exact .inr (by rw [hv, hm])
        · have := h.old q' v hv hm
          rw [h1] at this
          exact absurd (Option.some.inj this).symm hm
      · exact h.neu q' e
    · rcases h.pen _ e with e | ⟨u', e⟩
      · have hql : q < ts.length := by rw [← h.len]; exact hq
        obtain ⟨v, hv⟩ : ∃ v, ts[q]? = some v := ⟨_, List.getElem?_eq_getElem hql⟩
        have hm : v ≠ -1 := fun e3 => hp q e (by rw [hv, e3])
        have := h.old q v hv hm
        rw [h1] at this
        exact hm (Option.some.inj this).symm
      · obtain ⟨q2, e3, e4, -⟩ := h.got _ _ e
        obtain rfl : q = q2 := by omega
        rw [h1] at e4
        exact h.nm _ _ e (Option.some.inj e4).symm
end Go.Proofs.YtpdepmkojbpklaaDoor
