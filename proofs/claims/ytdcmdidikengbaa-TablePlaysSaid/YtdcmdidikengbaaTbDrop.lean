/- A table's Drop. -/
import Derived.Test.YtdcmdidikengbaaTbAll
import Derived.Test.YtdcmdidikengbaaCdDraw
namespace Go.Proofs.Ytdcmdidikengbaa
open Go.RowKit

section
variable {F : Nat → Prop} {w w' : World} {b mb size B : Nat} {v : Value} {sl : List Sg} {ns : List Nm} {p : Nat}
theorem Try.infoTxt : (Try.prog.info? 9).map (fun i => (i.zero, i.size, i.bytes)) = some (some (.string ByteArray.empty), 1, 16) := by kernel_rfl
theorem Sw.kp {l : List ByteArray} (h : Sw w v l) (hk : Kp F w w') (hF : ∀ g, v.ownBlock = some g → ¬ F g) : Sw w' v l := hk.roww h hF
theorem Sw.same {l : List ByteArray} (h : Sw w v l) (hk : Kp (fun _ => False) w w') : Sw w' v l := h.kp hk (fun _ _ e => e)
theorem Sw.lt {l : List ByteArray} (h : Sw w v l) : ∀ k, v.ownBlock = some k → k < w.heap.size := fun k hk => (ownsW_lt h k hk).2
theorem Sw.nil (w : World) : Sw w (.slice none 0 0) [] := ownsW_nil _ _ _
theorem Sw.form {l : List ByteArray} (h : Sw w v l) : ∃ po cap, v = .slice po l.length cap := ownsW_form h
theorem Sw.get {l : List ByteArray} (h : Sw w v l) {j : Nat} {x : ByteArray} (hj : l[j]? = some x) : ∃ g cap, v = .slice (some ⟨g, 0, none⟩) l.length cap ∧ l.length ≤ cap ∧ cap ≤ 9223372036854775807 ∧ w.cell? ⟨g, j, none⟩ = some (.string x) :=
  ownsW_get h j _ (by simp [hj])
theorem texts_push {l : List ByteArray} (ho : Sw w v l) (hk : l.length + 1 ≤ 17592186044416) (hk2 : (l.length + 1) * 16 ≤ 140737488355328) (x : ByteArray) :
    ∃ g cap w', (Builtin.append_ #[32, 32] 32 #[v, .slice (some ⟨w.heap.size, 0, none⟩) 1 1]).run Try.prog (w.alloc (.cells #[.string x] 9)) = .ok (.slice (some ⟨g, 0, none⟩) (l.length + 1) cap) w' ∧
      Sw w' (.slice (some ⟨g, 0, none⟩) (l.length + 1) cap) (l ++ [x]) ∧ Kp (fun q => v.ownBlock = some q) w w' ∧ (v.ownBlock = some g ∨ w.heap.size ≤ g) ∧ g < w'.heap.size := by
  obtain ⟨i0, hi, hz0, hz1, hz2⟩ := info_parts Try.infoTxt
  have hka : Kp (fun _ => False) w (w.alloc (.cells #[.string x] 9)) := (Kp.refl _ w).alloc _
  have hown : (w.alloc (.cells #[.string x] 9)).ownsW 0 9 v l.length (l.map Value.string) := ho.same hka
  obtain ⟨g, cap, w', h1, h2, h3, h4, h5⟩ := run_append_w (P := Try.prog) _ 32 32 0 9 i0 (.string ByteArray.empty) 16 Try.underlying32 hi hz0 hz1 hz2 rfl v l.length (l.map Value.string) hown ⟨w.heap.size, 0, none⟩ 1 (.string x)
    (by rw [cell_of_row _ w.heap.size 0 _ _ _ (heap_alloc_new w _)]; rfl) rfl (by unfold maxLen; omega) (by omega) (Nat.zero_le _)
  refine ⟨g, cap, w', h1, ?_, ((Kp.refl _ w).alloc _).grown h3 (fun q hq => .inl hq), ?_, h5⟩
  · unfold Sw
    rw [List.length_append, List.map_append]
    exact h2
  · rcases h4 with h4 | h4
    · exact .inl h4
    · exact .inr (by rw [h4]; simp)

/-- one's names are taken away, as far as it has come -/
theorem forget_one {A R : List Nm} {n : Nm} (ho : (without A p ++ n :: R).Pairwise NmLt) : butFor (without A p ++ n :: R) n.txt = without A p ++ R := by
  rw [List.pairwise_append, List.pairwise_cons] at ho
  unfold butFor
  rw [List.filter_append, List.filter_cons_of_neg (by simp), List.filter_eq_self.2, List.filter_eq_self.2]
  · intro a ha
    have := (ho.2.1.1 a ha).ne
    simpa using fun e => this e.symm
  · intro a ha
    have := (ho.2.2 a ha n (by simp)).ne
    simpa using this
theorem without_snoc (A : List Nm) (n : Nm) (p : Nat) : without (A ++ [n]) p = if n.pid = p then without A p else without A p ++ [n] := by
  unfold without
  rw [List.filter_append]
  by_cases e : n.pid = p <;> simp [e]
theorem ofPid_snoc (A : List Nm) (n : Nm) (p : Nat) : ofPid (A ++ [n]) p = if n.pid = p then ofPid A p ++ [n] else ofPid A p := by
  unfold ofPid
  rw [List.filter_append]
  by_cases e : n.pid = p <;> simp [e]
def ForgetTo (mb : Nat) (ns : List Nm) (p : Nat) (w : World) (e : Ending) (w' : World) : Prop :=
  ∃ v, e = .returned v ∧ Sw w' v (txts (ofPid ns p)) ∧ (∀ g, v.ownBlock = some g → w.heap.size ≤ g) ∧ Mn w' mb (without ns p) ∧ Kp (fun q => q = mb) w w'
set_option maxRecDepth 100000 in
set_option maxHeartbeats 4000000 in
theorem forget_any (h : Mn w mb ns) (hm : ns.length ≤ 4096) (hl : ∀ n ∈ ns, n.txt.size ≤ 255) (p : Nat) :
    Calls Try.prog 40 #[.map (some mb), .int .i64 (p : Nat)] w (ForgetTo mb ns p w) := by
  have HS := Lib.hid (sorted_any h hm)
  obtain ⟨n, hn⟩ : ∃ n, ns.length = n := ⟨_, rfl⟩
  have HN := Lib.hid (And.intro hn (And.intro hm hl))
  have HM := Lib.hid h
  have hn96 : n ≤ 4096 := by omega
  clear h hn hl hm
  go_enter Try.func40, Try.ntmps40
  go_wp2_with fail
  refine HS.out.mono ?_
  rintro e w1 ⟨rv, rfl, hrow, hnew, hk1⟩
  obtain ⟨po, cap, rfl⟩ := hrow.form
  have htl : (txts ns).length = n := by unfold txts; rw [List.length_map]; exact HN.out.1
  obtain ⟨RV, hRV⟩ : ∃ x, Value.slice po (txts ns).length cap = x := ⟨_, rfl⟩
  have HR := Lib.hid (And.intro hrow (And.intro hnew (And.intro hk1 hRV)))
  rw [htl] at hRV ⊢
  have HR2 := Lib.hid (And.intro hRV htl)
  clear hrow hnew hk1 htl hRV HS
  go_wp2_with fail
  go_loopg [5, 7, 11] n (fun gk s5 s7 s11 wr => ∃ (i : Nat) (x7 u : Value), i ≤ n ∧ gk = n - i ∧ s5 = u ∧ s7 = x7 ∧ s11 = .int .i64 (i : Nat) ∧ Hid (Sw wr u (txts (ofPid (ns.take i) p)) ∧ (∀ g, u.ownBlock = some g → w1.heap.size ≤ g) ∧ Mn wr mb (without (ns.take i) p ++ ns.drop i)) ∧ Kp (fun q => q = mb) w1 wr)
  case atStart => exact ⟨0, _, _, by omega, rfl, rfl, rfl, rfl, Lib.hid ⟨Sw.nil _, (fun g hg => by cases hg), HM.out.same HR.out.2.2.1⟩, Kp.refl _ w1⟩
  case round =>
    obtain ⟨i, x7, u, hi, rfl, hu, rfl, rfl, HB, hk⟩ := hrel
    obtain rfl := hu.symm
    have HK := Lib.hid hk
    clear hk
    have hz1 := HR.out.2.2.1.size
    have hmb := HM.out.lt
    by_cases hlt : i < n
    · have hli : (i : Int) < n := by omega
      have hil : i < ns.length := by rw [HN.out.1]; exact hlt
      obtain ⟨x, hx⟩ : ∃ x, ns[i]? = some x := ⟨_, List.getElem?_eq_getElem hil⟩
      have hdr : ns.drop i = x :: ns.drop (i + 1) := by
        rw [List.drop_eq_getElem_cons hil, (List.getElem?_eq_some_iff.1 hx).2]
      have htk : ns.take (i + 1) = ns.take i ++ [x] := by rw [List.take_add_one, hx]; rfl
      have hM := HB.out.2.2
      rw [hdr] at hM
      have hxs := HN.out.2.2 x (List.mem_of_getElem? hx)
      have hxm : x.txt.size ≤ maxLen := by unfold maxLen; omega
      have hwh : whose (without (ns.take i) p ++ x :: ns.drop (i + 1)) x.txt = some x.pid := whose_mem hM.ord (by simp)
      have hlk := hM.look1 x.txt hxm
      rw [hwh] at hlk
      have hlk2 : (Instr.lookup 76 (.map (some mb)) (.string x.txt) false).run Try.prog wr = .ok (.int .i64 (x.pid : Nat)) wr := hlk
      have hrow := HR.out.1.kp HK.out (fun g hg e => by have := HR.out.2.1 g hg; omega)
      obtain ⟨g, cp, e1, -, hcp, d0⟩ := hrow.get (j := i) (x := x.txt) (by unfold txts; rw [List.getElem?_map, hx]; rfl)
      rw [HR2.out.2] at e1
      have e1' := e1
      obtain ⟨rfl, rfl⟩ : po = some ⟨g, 0, none⟩ ∧ cap = cp := by
        injection e1' with e1 _ e2
        exact ⟨e1, e2⟩
      have hul : (txts (ofPid (ns.take i) p)).length ≤ 4096 := by
        have h1 : (ofPid (ns.take i) p).length ≤ (ns.take i).length := List.length_filter_le _ _
        have h2 := HN.out.2.1
        rw [List.length_take] at h1
        simp only [txts, List.length_map]
        omega
      have hw := without_snoc (ns.take i) x p
      have hp := ofPid_snoc (ns.take i) x p
      rw [← htk] at hw hp
      by_cases hxp : x.pid = p
      · rw [if_pos hxp] at hw hp
        obtain ⟨w2, hr2, hM2, hk2, hz2⟩ := hM.del x.txt hxm 0
        rw [forget_one hM.ord, ← hw] at hM2
        have hu2 := HB.out.1.kp hk2 (fun g hg e => by have := HB.out.2.1 g hg; omega)
        obtain ⟨g3, cap3, w3, hr3, ho3, hk3, hg3, hl3⟩ := texts_push hu2 (by omega) (by omega) x.txt
        have htx : txts (ofPid (ns.take i) p) ++ [x.txt] = txts (ofPid (ns.take (i + 1)) p) := by rw [hp]; simp [txts]
        rw [htx] at ho3
        have HG : Hid ((Sw w3 (.slice (some ⟨g3, 0, none⟩) ((txts (ofPid (ns.take i) p)).length + 1) cap3) (txts (ofPid (ns.take (i + 1)) p)) ∧
            (∀ g, (Value.slice (some ⟨g3, 0, none⟩) ((txts (ofPid (ns.take i) p)).length + 1) cap3).ownBlock = some g → w1.heap.size ≤ g) ∧ Mn w3 mb (without (ns.take (i + 1)) p ++ ns.drop (i + 1))) ∧ Kp (fun q => q = mb) w1 w3) := by
          have hzk := HK.out.size
          refine Lib.hid ⟨⟨ho3, fun g hg => ?_, hM2.kp hk3 (fun e => by have := HB.out.2.1 mb e; omega)⟩, ?_⟩
          · have e2 : g3 = g := by injection hg
            subst e2
            rcases hg3 with e3 | e3
            · exact HB.out.2.1 _ e3
            · omega
          · exact (HK.out.trans' hk2).trans (hk3.mono fun q hq e => .inr ⟨HB.out.2.1 q e, hq⟩)
        have HR3 := Lib.hid hr3
        obtain ⟨W3, hW3⟩ : ∃ x, Value.slice (some ⟨g3, 0, none⟩) ((txts (ofPid (ns.take i) p)).length + 1) cap3 = x := ⟨_, rfl⟩
        rw [hW3] at HG HR3
        obtain ⟨T, hT⟩ : ∃ T, x.txt = T := ⟨_, rfl⟩
        obtain ⟨P, hP⟩ : ∃ P : Nat, x.pid = P := ⟨_, rfl⟩
        rw [hT] at hlk2 d0 HR3 hr2
        rw [hP] at hlk2
        have hb : (((P : Nat) : Int) == (p : Nat)) = true := by rw [beq_iff_eq]; omega
        clear hx hdr htk hM hxs hxm hwh hlk hrow e1 e1' hul hw hp hxp hM2 hk2 hz2 hu2 hr3 ho3 hk3 hg3 hl3 htx hW3 hT hP hil hmb hz1
        go_wp2_with (at_builtin; refine wpList_run rfl _ _ 32 rfl u (.slice (some ⟨w2.heap.size, 0, none⟩) 1 1) rfl rfl _ w3 HR3.out ?_)
        go_roundg (n - (i + 1))
        case measure => omega
        case rel => exact ⟨i + 1, _, _, by omega, rfl, rfl, rfl, by go_num, Lib.hid HG.out.1, HG.out.2⟩
      · rw [if_neg hxp] at hw hp
        have HG : Hid ((Sw wr u (txts (ofPid (ns.take (i + 1)) p)) ∧ (∀ g, u.ownBlock = some g → w1.heap.size ≤ g) ∧ Mn wr mb (without (ns.take (i + 1)) p ++ ns.drop (i + 1)))) := by
          rw [hw, hp]
          exact Lib.hid ⟨HB.out.1, HB.out.2.1, by rw [List.append_assoc]; exact hM⟩
        obtain ⟨T, hT⟩ : ∃ T, x.txt = T := ⟨_, rfl⟩
        obtain ⟨P, hP⟩ : ∃ P : Nat, x.pid = P := ⟨_, rfl⟩
        rw [hT] at hlk2 d0
        rw [hP] at hlk2
        have hb : (((P : Nat) : Int) == (p : Nat)) = false := by rw [beq_eq_false_iff_ne]; omega
        clear hx hdr htk hM hxs hxm hwh hlk hrow e1 e1' hul hw hp hxp hT hP hil hmb hz1
        go_wp2_with fail
        go_roundg (n - (i + 1))
        case measure => omega
        case rel => exact ⟨i + 1, _, _, by omega, rfl, rfl, rfl, by go_num, HG, HK.out⟩
    · obtain rfl : n = i := by omega
      have HL := HB.out
      rw [List.take_of_length_le (by rw [HN.out.1]; exact Nat.le_refl _), List.drop_of_length_le (by rw [HN.out.1]; exact Nat.le_refl _), List.append_nil] at HL
      have HL := Lib.hid HL
      go_wp2_with fail
      go_ret
      exact ⟨_, rfl, HL.out.1, fun g hg => Nat.le_trans hz1 (HL.out.2.1 g hg), HL.out.2.2, (HR.out.2.2.1.mono fun _ _ e => e.elim).trans' HK.out⟩
/-! Drop -/
theorem dropAt_len (sl : List Sg) (k : Nat) : (dropAt sl k).length = sl.length := by
  unfold dropAt; split <;> simp
theorem dropAt_cells {k : Nat} {s : Sg} (hs : sl[k]? = some s) : (sgCells sl).set (k * 2 + 1) (.bool false) = sgCells (dropAt sl k) := by
  have h1 := sgCells_set k s ⟨s.pid, false⟩ hs
  have h2 := (sgCells_get sl k s hs).1
  unfold dropAt
  rw [hs]
  simp only []
  rw [← h1]
  congr 1
  obtain ⟨hlt, e⟩ := List.getElem?_eq_some_iff.1 h2
  rw [← e, List.set_getElem_self]
theorem dropAt_ok (h : SlOk B sl) (k : Nat) : SlOk B (dropAt sl k) := by
  unfold dropAt
  cases hs : sl[k]? with
  | none => exact h
  | some s =>
    refine ⟨fun j x hx => ?_, fun x hx => ?_⟩
    · by_cases ej : j = k
      · subst ej
        simp only [] at hx
        rw [List.getElem?_set_self (List.getElem?_eq_some_iff.1 hs).1] at hx
        obtain rfl := Option.some.inj hx
        exact h.at_ _ s hs
      · simp only [] at hx
        rw [List.getElem?_set_ne (fun e => ej e.symm)] at hx
        exact h.at_ j x hx
    · rcases List.mem_or_eq_of_mem_set hx with hx | rfl
      · exact h.le x hx
      · exact h.le s (List.mem_of_getElem? hs)
theorem dropAt_live {q : Int} (hp : kindAt sl (p : Nat) = 0) (hq : kindAt sl q = 0) (hne : q ≠ p) : kindAt (dropAt sl (p % 64)) q = 0 := by
  rw [kindAt_live] at hp hq ⊢
  obtain ⟨s, h0, hs, he, ho⟩ := hq
  obtain ⟨s', _, hs', he', _⟩ := hp
  refine ⟨s, h0, ?_, he, ho⟩
  rw [slotAt_nat, Int.toNat_natCast] at hs'
  unfold dropAt
  rw [hs']
  simp only []
  rw [List.getElem?_set_ne (fun e => ?_)]
  · exact hs
  · rw [← e, hs'] at hs
    have := Option.some.inj hs
    subst this
    omega
def DropTo (b mb size B : Nat) (v : Value) (sl : List Sg) (ns : List Nm) (p : Nat) (w : World) (e : Ending) (w' : World) : Prop :=
  ∃ u, e = .returned (.tuple #[u, .nilIface]) ∧ Sw w' u (txts (ofPid ns p)) ∧ (∀ g, u.ownBlock = some g → w.heap.size ≤ g) ∧ Tb w' b mb v size B (dropAt sl (p % 64)) (without ns p) ∧ Kp (fun q => q = mb ∨ v.ownBlock = some q) w w'
set_option maxRecDepth 100000 in
set_option maxHeartbeats 4000000 in
theorem drop_bad (h : Tb w b mb v size B sl ns) (p : Int) (hk : kindAt sl p ≠ 0) : Calls Try.prog 14 #[.pointer (some ⟨b, 0, none⟩), .int .i64 p] w
    (EBad w (fun v => .tuple #[.slice none 0 0, v]) [Lk.fault ⟨#[100, 114, 111, 112]⟩ (slotAt p), Lk.kind (kindAt sl p)]) := by
  have HW := wrong_any h p
  have HS := slotOf_any p w
  have HB := Lib.hid (ebad1 w (fun v => .tuple #[.slice none 0 0, v]) ⟨#[100, 114, 111, 112]⟩ (slotAt p) (kindAt sl p) hk 0)
  clear h
  rcases kindAt_cases sl p with hk2 | hk2 | hk2
  · exact absurd hk2 hk
  all_goals
    rw [hk2] at HW HB ⊢
    simp only [errV_3, errV_4] at HW
    clear hk hk2
    obtain ⟨k, hk⟩ : ∃ k, slotAt p = k := ⟨_, rfl⟩
    rw [hk] at HS HB ⊢
    clear hk
    go_enter Try.func14, Try.ntmps14
    go_wp2_with (first | (go_at_call 38; refine HW.mono ?_; rintro e w' ⟨rfl, rfl⟩) | (go_at_call 39; refine HS.mono ?_; rintro e w' ⟨rfl, rfl⟩) | (go_at_call 36; refine (at_any _ _ _ _ _).mono ?_; rintro e w' ⟨rfl, rfl⟩))
    go_ret2
    exact HB.out
set_option maxRecDepth 100000 in
set_option maxHeartbeats 4000000 in
theorem drop_ok (h : Tb w b mb v size B sl ns) (p : Nat) (hk : kindAt sl (p : Nat) = 0) : Calls Try.prog 14 #[.pointer (some ⟨b, 0, none⟩), .int .i64 (p : Nat)] w (DropTo b mb size B v sl ns p w) := by
  have HW := wrong_any h (p : Nat)
  rw [hk, errV_0] at HW
  obtain ⟨s, -, hs, he, ho⟩ := kindAt_live.1 hk
  rw [slotAt_nat, Int.toNat_natCast] at hs
  obtain ⟨k, hkk⟩ : ∃ k, p % 64 = k := ⟨_, rfl⟩
  rw [hkk] at hs
  have HS : ∀ w : World, Calls Try.prog 39 #[.int .i64 (p : Nat)] w fun e w' => e = .returned (.int .i64 (k : Nat)) ∧ w' = w := fun w => (slotOf_any (p : Nat) w).mono (fun e w' ⟨h1, h2⟩ => ⟨by rw [h1, slotAt_nat, hkk], h2.symm⟩)
  obtain ⟨c0, c1, c2, fb⟩ := h.facts
  obtain ⟨g, cap, rfl, hcap, hcap2, d0, d1⟩ := h.slot hs
  have hltk := (List.getElem?_eq_some_iff.1 hs).1
  obtain ⟨n, hn⟩ : ∃ n, sl.length = n := ⟨_, rfl⟩
  have hrow := h.row
  have hgb := h.vne g rfl
  have fg := ownsS_fz hrow
  obtain ⟨w4, hw4⟩ : ∃ w4, (w.setCell ⟨g, k * 2 + 1, none⟩ (.bool false)).drew = w4 := ⟨_, rfl⟩
  have hr2 := ownsS_set hrow (k * 2 + 1) (.bool false) (by omega)
  rw [dropAt_cells hs] at hr2
  have hk4 : Kp (fun q => q = g) w w4 := by rw [← hw4]; exact ((Kp.refl (fun q => q = g) w).setCell _ _ (.inl rfl)).drew
  have hb4 := (hk4.block b h.ltb (fun e => hgb.1 e.symm)).trans h.main
  have e2 : w4.cell? ⟨b, 2, none⟩ = some (.map (some mb)) := by rw [cell_of_row w4 b 2 _ _ _ hb4]; rfl
  have hm4 : Mn w4 mb ns := h.mp.kp hk4 (fun e => hgb.2 e.symm)
  have HG := Lib.hid (forget_any hm4 (by have := h.few; omega) (fun n hn => (h.lens n hn).2) p)
  have hr4 : w4.ownsS 82 2 (.slice (some ⟨g, 0, none⟩) sl.length cap) (dropAt sl k).length (sgCells (dropAt sl k)) := by
    rw [dropAt_len, ← hw4]
    exact hr2
  have hfin : ∀ {e : Ending} {w' : World}, ForgetTo mb ns p w4 e w' → ∃ u, e = .returned u ∧ DropTo b mb size B (.slice (some ⟨g, 0, none⟩) sl.length cap) sl ns p w (.returned (.tuple #[u, .nilIface])) w' := by
    rintro e w' ⟨u, rfl, h1, h2, h3, h4⟩
    have hz4 := hk4.size
    refine ⟨u, rfl, u, rfl, h1, fun g hg => by have := h2 g hg; omega, ⟨(h4.block b (by have := h.ltb; omega) h.bne).trans hb4, ?_, h3, by rw [hkk]; exact dropAt_ok h.ok k, by rw [dropAt_len]; exact h.fit, h.size1, h.size2, ?_, fun n hn => h.lens n (List.mem_filter.1 hn).1, fun n hn => ?_⟩, ?_⟩
    · rw [hkk]
      exact h4.rowS hr4 (fun q hq e => hgb.2 (by injection hq with hq; exact hq.trans e))
    · have h5 : (without ns p).length ≤ ns.length := List.length_filter_le _ _
      have := h.few
      omega
    · obtain ⟨hn1, hn2⟩ := List.mem_filter.1 hn
      exact dropAt_live hk (h.live n hn1) (fun e => by
        have : n.pid = p := by omega
        simp [this] at hn2)
    · exact (hk4.mono fun q _ e => .inr (by rw [e]; rfl)).trans' (h4.mono fun q _ e => .inl e)
  have HFin := Lib.hid (fun e w' => @hfin e w')
  have HW4 := Lib.hid hw4
  clear h hm4 hb4 hk4 hr4 hfin
  go_enter Try.func14, Try.ntmps14
  go_wp2_with (go_at_call 38; refine HW.mono ?_; rintro e w' ⟨rfl, rfl⟩)
  have hli : (k : Int) < n := by omega
  rw [hn] at c1 hcap
  clear hr2 hgb hs hkk hk hw4 hn hrow hltk HW d0 he ho c0 c2
  go_region_with (go_at_call 39; refine (HS _).mono ?_; rintro e w' ⟨rfl, rfl⟩)
  all_goals
    rw [HW4.out]
    clear c1 fb d1 fg
    go_wp2_with fail
    refine HG.out.mono ?_
    intro e w5 h5
    obtain ⟨u, rfl, h6⟩ := HFin.out e w5 h5
    have H6 := Lib.hid h6
    clear h5 h6
    go_wp2_with fail
    go_ret2
    exact H6.out
end
end Go.Proofs.Ytdcmdidikengbaa
