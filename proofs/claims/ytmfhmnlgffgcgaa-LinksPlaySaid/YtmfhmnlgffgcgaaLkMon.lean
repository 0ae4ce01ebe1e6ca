/- A net's monitors: Watches, Monitor, Demonitor. -/
import Derived.Test.YtmfhmnlgffgcgaaLkMeth
import Derived.Test.YtmfhmnlgffgcgaaEBad
import Derived.WideMake
import Derived.Laws.Closers25b
namespace Go.Proofs.Ytmfhmnlgffgcgaa
open Go.RowKit Go.Maps
set_option linter.unusedVariables false

section
variable {F G : Nat → Prop} {w w' w'' : World} {b next : Nat} {col col' : Nat → Nat} {h h' : Nat → Value} {ls ls' : List (Int × Int)} {ms ms' : List Mo} {a x r : Int}
/-- whose a reference is -/
def whoOf (o : Option Mo) : Int := match o with | some m => m.who | none => 0
def whomOf (o : Option Mo) : Int := match o with | some m => m.whom | none => 0
theorem waV_of (o : Option Mo) : waV o = .agg #[.int .i64 (whoOf o), .int .i64 (whomOf o)] := by cases o <;> rfl
set_option maxRecDepth 100000 in
set_option maxHeartbeats 1000000 in
theorem net_watches (H : Net w b col h ls ms next) (hr : I64 r) : Calls Try.prog 19 #[.pointer (some ⟨b, 0, none⟩), .int .i64 r] w fun e w' => e = .returned (.tuple #[.int .i64 (whoOf (moOf ms r)), .int .i64 (whomOf (moOf ms r)), .bool (moOf ms r).isSome]) ∧ Kp (fun _ => False) w w' := by
  obtain ⟨mq, hmq⟩ := H.nx.mon.form
  have c6 : w.cell? ⟨b, 6, none⟩ = some (.map mq) := by rw [← hmq]; exact H.nx.head.cell (by omega)
  have hlk := H.nx.mon.look hr true
  rw [hmq, waV_of] at hlk
  have hlk2 : (Instr.lookup 29 (.map mq) (.int .i64 r) true).run Try.prog w = .ok (.tuple #[.agg #[.int .i64 (whoOf (moOf ms r)), .int .i64 (whomOf (moOf ms r))], .bool (moOf ms r).isSome]) w := hlk
  obtain ⟨A, hA⟩ : ∃ A, whoOf (moOf ms r) = A := ⟨_, rfl⟩
  obtain ⟨B, hB⟩ : ∃ B, whomOf (moOf ms r) = B := ⟨_, rfl⟩
  obtain ⟨C, hC⟩ : ∃ C, (moOf ms r).isSome = C := ⟨_, rfl⟩
  rw [hA, hB, hC] at hlk2 ⊢
  clear H hmq hlk hA hB hC hr
  go_enter Try.func19, Try.ntmps19
  go_wp2_with fail
  go_region
  go_wp2_with fail
  refine bodyPost_ret (v := .tuple #[.int .i64 A, .int .i64 B, .bool C]) (by simp [results, Try.results19, go_sem]) rfl ?_
  exact ⟨rfl, ((Kp.refl (fun _ => False) w).alloc _).drew⟩
/-- what is wrong with one's taking a reference back -/
def demKind (ms : List Mo) (r who : Int) : Int := match moOf ms r with | none => 3 | some m => if m.who = who then 0 else 1
def lkErr (k : Int) : Value := if k = 0 then .nilIface else .iface 88 (.int .i64 k)
set_option maxRecDepth 100000 in
set_option maxHeartbeats 1000000 in
theorem mayDem_any (H : Net w b col h ls ms next) (hr : I64 r) (who : Int) : Calls Try.prog 30 #[.pointer (some ⟨b, 0, none⟩), .int .i64 r, .int .i64 who] w fun e w' => e = .returned (lkErr (demKind ms r who)) ∧ Kp (fun _ => False) w w' := by
  obtain ⟨mq, hmq⟩ := H.nx.mon.form
  have c6 : w.cell? ⟨b, 6, none⟩ = some (.map mq) := by rw [← hmq]; exact H.nx.head.cell (by omega)
  have hlk := H.nx.mon.look hr true
  rw [hmq, waV_of] at hlk
  have hlk2 : (Instr.lookup 29 (.map mq) (.int .i64 r) true).run Try.prog w = .ok (.tuple #[.agg #[.int .i64 (whoOf (moOf ms r)), .int .i64 (whomOf (moOf ms r))], .bool (moOf ms r).isSome]) w := hlk
  unfold demKind
  cases hm : moOf ms r with
  | none =>
    rw [hm] at hlk2
    have hlk3 : (Instr.lookup 29 (.map mq) (.int .i64 r) true).run Try.prog w = .ok (.tuple #[.agg #[.int .i64 0, .int .i64 0], .bool false]) w := hlk2
    clear H hmq hlk hlk2 hm hr
    go_enter Try.func30, Try.ntmps30
    go_wp2_with fail
    go_ret
    exact ⟨rfl, (Kp.refl (fun _ => False) w).alloc _⟩
  | some m =>
    rw [hm] at hlk2
    have hlk3 : (Instr.lookup 29 (.map mq) (.int .i64 r) true).run Try.prog w = .ok (.tuple #[.agg #[.int .i64 m.who, .int .i64 m.whom], .bool true]) w := hlk2
    obtain ⟨A, hA⟩ : ∃ A, m.who = A := ⟨_, rfl⟩
    obtain ⟨B, hB⟩ : ∃ B, m.whom = B := ⟨_, rfl⟩
    rw [hA, hB] at hlk3
    simp only [hA]
    clear H hmq hlk hlk2 hm hr hA hB
    by_cases e : A = who
    · subst e
      have hee : (A == A) = true := by simp
      simp only [if_pos]
      go_enter Try.func30, Try.ntmps30
      go_wp2_with fail
      go_ret
      exact ⟨rfl, (Kp.refl (fun _ => False) w).alloc _⟩
    · have hee : (A == who) = false := by rw [beq_eq_false_iff_ne]; exact e
      simp only [if_neg e]
      go_enter Try.func30, Try.ntmps30
      go_wp2_with fail
      go_ret
      exact ⟨rfl, (Kp.refl (fun _ => False) w).alloc _⟩
theorem lk_mask (r : Int) : bits .and .i64 r 2147483647 = r % 2147483648 := by
  unfold bits
  simp
  show IntKind.i64.wrap (((r % 18446744073709551616).toNat &&& 2147483647 : Nat) : Int) = _
  rw [show ((r % 18446744073709551616).toNat &&& 2147483647) = (r % 18446744073709551616).toNat % 2147483648 from Nat.and_two_pow_sub_one_eq_mod _ 31]
  rw [IntWalk.i64_in _ (by omega)]
  omega
set_option maxRecDepth 100000 in
set_option maxHeartbeats 1000000 in
theorem net_dem_bad (H : Net w b col h ls ms next) (hr : I64 r) (who : Int) (hk : demKind ms r who ≠ 0) : Calls Try.prog 9 #[.pointer (some ⟨b, 0, none⟩), .int .i64 r, .int .i64 who] w
    (EBad w (fun v => v) [Lk.fault ⟨#[100, 101, 109, 111, 110, 105, 116, 111, 114]⟩ (r % 2147483648), Lk.kind (demKind ms r who)]) := by
  have HW := Lib.hid (mayDem_any H hr who)
  have he : lkErr (demKind ms r who) = .iface 88 (.int .i64 (demKind ms r who)) := if_neg hk
  rw [he] at HW
  have HB := Lib.hid (fun w => ebad1 w (fun v => v) ⟨#[100, 101, 109, 111, 110, 105, 116, 111, 114]⟩ (r % 2147483648) (demKind ms r who) hk 0)
  have hmask := lk_mask r
  obtain ⟨R, hR⟩ : ∃ R, r % 2147483648 = R := ⟨_, rfl⟩
  rw [hR] at HB hmask ⊢
  clear H hk he hr hR
  generalize demKind ms r who = K at HW HB ⊢
  go_enter Try.func9, Try.ntmps9
  go_wp2_with fail
  refine HW.out.mono ?_
  rintro e w1 ⟨rfl, hk1⟩
  have HK := Lib.hid hk1
  clear hk1
  go_wp2_with (go_at_call 31; refine (at_any _ _ _ _ _).mono ?_; rintro e w' ⟨rfl, rfl⟩)
  go_ret
  obtain ⟨v, h1, h2, h3⟩ := HB.out w1
  exact ⟨v, h1, ChainB.le HK.out.size h2, HK.out.trans' h3⟩
set_option maxRecDepth 100000 in
set_option maxHeartbeats 1000000 in
theorem net_dem_ok (H : Net w b col h ls ms next) (hr : I64 r) {m : Mo} (hm : moOf ms r = some m) : Calls Try.prog 9 #[.pointer (some ⟨b, 0, none⟩), .int .i64 r, .int .i64 m.who] w
    (NetTo w b col ls (butRef ms r) next .nilIface) := by
  have HW := Lib.hid (mayDem_any H hr m.who)
  have hk : demKind ms r m.who = 0 := by unfold demKind; rw [hm]; simp
  rw [hk, show lkErr 0 = .nilIface from rfl] at HW
  obtain ⟨hmm, hre⟩ := moOf_some hm
  have HC : Hid (∀ w1, Kp (fun _ => False) w w1 → Calls Try.prog 32 #[.pointer (some ⟨b, 0, none⟩), .int .i64 1, .agg #[.int .i64 m.who, .int .i64 r]] w1 (NxTo w1 b col h (upd (upd (tabs ls ms) 1 (butPair (tabs ls ms 1) (m.who, r))) 2 (butPair (tabs ls ms 2) (m.whom, r))) (butRef ms r))) := Lib.hid fun w1 hk1 => by
    have := cut_who (H.same hk1).nx (m := m) (H.refI hmm) hmm (by rw [hre]; exact hm) (mem_byWho.2 ⟨m, hmm, rfl, rfl⟩) (mem_byWhom.2 ⟨m, hmm, rfl, rfl⟩) (by have := H.len1; omega) (by have := H.len2; omega)
    rw [hre] at this
    exact this
  have HQ := Lib.hid (And.intro H (And.intro hmm hre))
  clear H hm hk hmm hre hr
  go_enter Try.func9, Try.ntmps9
  go_wp2_with fail
  refine HW.out.mono ?_
  rintro e w1 ⟨rfl, hk1⟩
  have HC1 := Lib.hid (HC.out w1 hk1)
  have HK := Lib.hid hk1
  clear hk1
  go_wp2_with fail
  refine HC1.out.mono ?_
  rintro e w2 ht
  obtain ⟨rfl, -⟩ := id ht
  have HT := Lib.hid ht
  clear ht
  go_wp2_with fail
  go_ret
  obtain ⟨-, col', h', h1, h2, h3⟩ := HT.out
  obtain ⟨H, hmm, hre⟩ := HQ.out
  have e1 : butPair (tabs ls ms 1) (m.who, r) = byWho (butRef ms r) := by rw [← hre]; exact byWho_but H.mok hmm
  have e2 : butPair (tabs ls ms 2) (m.whom, r) = byWhom (butRef ms r) := by rw [← hre]; exact byWhom_but H.mok hmm
  rw [e1, e2] at h1
  exact ⟨rfl, col', h', ⟨h1.perm (tabs_mon ls ms (butRef ms r) rfl rfl 1 2 ⟨rfl, rfl⟩), h2.trans H.h7, H.lok, H.lI, H.mok.but r, fun n hn => H.mI n (mem_butRef.1 hn).1, H.ll, H.nb⟩, (NxStep.quiet col HK.out).trans h3⟩
theorem Try.lkMon0 (w : World) : (binOp .eql 29 (.map none) (.map none)).run Try.prog w = .ok (.bool true) w := by kernel_rfl
theorem Try.lkMon1 (w : World) (m : Nat) : (binOp .eql 29 (.map (some m)) (.map none)).run Try.prog w = .ok (.bool false) w := by kernel_rfl
theorem mo_fresh (H : MoOk next ms) : ∀ m ∈ ms, m.ref ≠ (next : Nat) := fun m hm => by have := H.2 m hm; omega
/-- behind the new monitor's store: the tables are to be tied -/
theorem net_mon_fin (H : Net w b col h ls ms next) (ha : I64 a) (hx : I64 x) (hn : next + 1 ≤ 17592186044415) {w3 : World} {col3 : Nat → Nat} {h3 : Nat → Value} (n3 : Nx w3 b col3 h3 (tabs ls ms) (ms ++ [⟨(next : Nat), a, x⟩])) (e3 : h3 7 = .int .i64 ((next : Int) + 1)) (s3 : NxStep w col w3 col3) :
    Calls Try.prog 29 #[.pointer (some ⟨b, 0, none⟩), .int .i64 1, .agg #[.int .i64 a, .int .i64 (next : Nat)]] w3 (fun e w' => e = .returned (.tuple #[]) ∧ NetTo w b col ls (ms ++ [⟨(next : Nat), a, x⟩]) (next + 1) (.int .i64 (next : Nat)) (.returned (.int .i64 (next : Nat))) w') := by
  have hI : I64 (next : Nat) := by unfold I64; omega
  have hfr := mo_fresh H.mok
  have hmo : moOf (ms ++ [⟨(next : Nat), a, x⟩]) (next : Nat) = some ⟨(next : Nat), a, x⟩ := moOf_mem (H.mok.app a x) (m := ⟨(next : Nat), a, x⟩) (by simp)
  have h1 := tie_watch n3 (m := ⟨(next : Nat), a, x⟩) hI hmo (fun e => by obtain ⟨m, hm, -, e2⟩ := mem_byWho.1 e; exact hfr m hm e2) (fun e => by obtain ⟨m, hm, -, e2⟩ := mem_byWhom.1 e; exact hfr m hm e2) ha hx (by have := H.len1; omega) (by have := H.len2; omega)
  refine h1.mono ?_
  rintro e w' ⟨rfl, col', h', h4, h5, h6⟩
  refine ⟨rfl, rfl, col', h', ⟨h4.perm (tabs_mon ls ms (ms ++ [⟨(next : Nat), a, x⟩]) (by simp [tabs, byWho]) (by simp [tabs, byWhom]) 1 2 ⟨rfl, rfl⟩), by rw [h5, e3]; rfl, H.lok, H.lI, H.mok.app a x, fun n hn2 => ?_, H.ll, hn⟩, s3.trans h6⟩
  rcases List.mem_append.1 hn2 with h7 | h7
  · exact H.mI n h7
  · simp at h7
    rw [h7]
    exact ⟨ha, hx⟩
set_option maxRecDepth 100000 in
set_option maxHeartbeats 2000000 in
theorem net_monitor (H : Net w b col h ls ms next) (ha : I64 a) (hx : I64 x) (hn : next + 1 ≤ 17592186044415) :
    Calls Try.prog 8 #[.pointer (some ⟨b, 0, none⟩), .int .i64 a, .int .i64 x] w (NetTo w b col ls (ms ++ [⟨(next : Nat), a, x⟩]) (next + 1) (.int .i64 (next : Nat))) := by
  have c7 : w.cell? ⟨b, 7, none⟩ = some (.int .i64 (next : Nat)) := by rw [← H.h7]; exact H.nx.head.cell (by omega)
  have fz := H.nx.head.fz
  have hI : I64 (next : Nat) := by have := H.nb; unfold I64; omega
  have hfr := mo_fresh H.mok
  have hlen : ms.length < maxLen := by have := H.mok.len; have := H.nb; unfold maxLen; omega
  obtain ⟨w1, hw1⟩ : ∃ w1, w.setCell ⟨b, 7, none⟩ (.int .i64 ((next : Int) + 1)) = w1 := ⟨_, rfl⟩
  have k1 : Kp (fun q => q = b) w w1 := by rw [← hw1]; exact (Kp.refl (fun q => q = b) w).setCell _ _ (.inl rfl)
  have H1 : HeadAt w1 b (upd h 7 (.int .i64 ((next : Int) + 1))) := by rw [← hw1]; exact H.nx.head.set (off := 7) (by omega) _
  have hb1 := H.nx.b1
  have e6 : upd h 7 (.int .i64 ((next : Int) + 1)) 6 = h 6 := upd_other _ _ (by omega)
  have hnb : (next : Int) ≤ 17592186044415 := by have := H.nb; omega
  rcases H.nx.mon with ⟨g1, g2⟩ | ⟨mb, g1, g2, g3⟩
  · subst g2
    have hz1 : w1.heap.size = w.heap.size := by rw [← hw1]; simp [World.setCell]
    have hbl := H1.lt
    obtain ⟨W2, hW2⟩ : ∃ W2, (w1.alloc (.map #[] 0)).setCell ⟨b, 6, none⟩ (.map (some w1.heap.size)) = W2 := ⟨_, rfl⟩
    have k2 : Kp (fun q => q = b) w1 W2 := by rw [← hW2]; exact ((Kp.refl (fun q => q = b) w1).alloc _).setCell _ _ (.inl rfl)
    have kA : Kp (fun q => q = b) (w1.alloc (.map #[] 0)) W2 := by rw [← hW2]; exact (Kp.refl (fun q => q = b) _).setCell _ _ (.inl rfl)
    have HA := H1.same ((Kp.refl (fun _ => False) w1).alloc (.map #[] 0))
    have H2 : HeadAt W2 b (upd (upd h 7 (.int .i64 ((next : Int) + 1))) 6 (.map (some w1.heap.size))) := by rw [← hW2]; exact HA.set (off := 6) (by omega) _
    have m2 : Mm W2 w1.heap.size [] := (Mm.new w1).kp kA (fun e => by omega)
    obtain ⟨W3, r3, mm3, k3, z3⟩ := m2.put ⟨(next : Nat), a, x⟩ hI (by simp) (by simp; unfold maxLen; omega)
    have HN : Hid (∃ col3 h3, Nx W3 b col3 h3 (tabs ls []) ([] ++ [⟨(next : Nat), a, x⟩]) ∧ h3 7 = .int .i64 ((next : Int) + 1) ∧ NxStep w col W3 col3) := by
      obtain ⟨col3, n3, s3⟩ := nx_mon (ms' := [] ++ [⟨(next : Nat), a, x⟩]) H.nx (w' := W3) (F := fun q => q = b ∨ q = w1.heap.size) (((k1.trans' k2).mono fun _ _ e => .inl e).trans' (k3.mono fun _ _ e => .inr e)) (fun q h4 h5 => h5.elim .inr (fun e => by omega)) (H2.kp k3 (fun e => by omega)) (fun j hj => by rw [upd_other _ _ (by omega), upd_other _ _ (by omega)]) (.inr ⟨w1.heap.size, upd_same _ _ _, .inr (by omega), mm3⟩)
      exact Lib.hid ⟨col3, _, n3, by rw [upd_other _ _ (by omega), upd_same], s3⟩
    obtain ⟨col3, h3, n3, e3, s3⟩ := HN.out
    have HT := Lib.hid (net_mon_fin H ha hx hn n3 e3 s3)
    have c6 : w1.cell? ⟨b, 6, none⟩ = some (.map none) := by rw [← g1, ← e6]; exact H1.cell (by omega)
    have ca : (w1.alloc (.map #[] 0)).cell? ⟨b, 6, none⟩ = some (.map none) := by rw [← g1, ← e6]; exact HA.cell (by omega)
    have fa := HA.fz
    have d6 : W2.cell? ⟨b, 6, none⟩ = some (.map (some w1.heap.size)) := H2.cell (off := 6) (by omega)
    have hmm := @Go.run_makeMap_plain Try.prog
    have hm0 := Try.lkMon0
    clear H hI hfr hlen k1 H1 hb1 e6 g1 hz1 hbl k2 kA HA H2 m2 mm3 k3 z3 n3 e3 s3 ha hx hn HN
    go_enter Try.func8, Try.ntmps8
    go_wp2_with fail
    refine HT.out.mono ?_
    rintro e W4 ⟨rfl, h4⟩
    have H4 := Lib.hid h4
    clear h4
    go_wp2_with fail
    go_ret
    exact H4.out
  · have hbm : ¬ b = mb := fun e => by
      rw [← e] at g2
      omega
    obtain ⟨W3, r3, mm3, k3, z3⟩ := (g3.kp k1 (fun e => hbm e.symm)).put ⟨(next : Nat), a, x⟩ hI hfr hlen
    have HN : Hid (∃ col3 h3, Nx W3 b col3 h3 (tabs ls ms) (ms ++ [⟨(next : Nat), a, x⟩]) ∧ h3 7 = .int .i64 ((next : Int) + 1) ∧ NxStep w col W3 col3) := by
      obtain ⟨col3, n3, s3⟩ := nx_mon (ms' := ms ++ [⟨(next : Nat), a, x⟩]) H.nx (w' := W3) (F := fun q => q = b ∨ q = mb) ((k1.mono fun _ _ e => .inl e).trans' (k3.mono fun _ _ e => .inr e)) (fun q h4 h5 => h5.elim .inr (fun e => .inl (e ▸ g2))) (H1.kp k3 hbm) (fun j hj => upd_other _ _ (by omega)) (.inr ⟨mb, e6.trans g1, .inl g2, mm3⟩)
      exact Lib.hid ⟨col3, _, n3, upd_same _ _ _, s3⟩
    obtain ⟨col3, h3, n3, e3, s3⟩ := HN.out
    have HT := Lib.hid (net_mon_fin H ha hx hn n3 e3 s3)
    have c6 : w1.cell? ⟨b, 6, none⟩ = some (.map (some mb)) := by rw [← g1, ← e6]; exact H1.cell (by omega)
    have hm1 := Try.lkMon1
    clear H hI hfr hlen k1 H1 hb1 e6 g1 mm3 k3 z3 n3 e3 s3 ha hx hn HN g2 g3 hbm
    go_enter Try.func8, Try.ntmps8
    go_wp2_with fail
    refine HT.out.mono ?_
    rintro e W4 ⟨rfl, h4⟩
    have H4 := Lib.hid h4
    clear h4
    go_wp2_with fail
    go_ret
    exact H4.out
end
end Go.Proofs.Ytmfhmnlgffgcgaa
