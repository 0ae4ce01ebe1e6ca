/- A table's ways: there, size, of. -/
import Derived.Test.YtmfhmnlgffgcgaaLkTab
import Derived.Deep.QuietTactic
import Derived.StillTailTactics
namespace Go.Proofs.Ytmfhmnlgffgcgaa
open Go.RowKit Go.Maps
set_option linter.unusedVariables false

section
variable {G : Nat → Prop} {w : World} {b off : Nat} {h : Nat → Value} {S : List (Int × Int)} {a x : Int}
theorem box_kp (w : World) (a x : Int) : Kp (fun _ => False) w (w.alloc (.cells #[.int .i64 a, .int .i64 x] 70)) := (Kp.refl _ w).alloc _
/-- looked up, whatever the map -/
theorem Tbl.look {mo lo : Value} (hT : Tbl w G mo lo S) (ha : I64 a) (hx : I64 x) :
    ∃ n : Nat, (Instr.lookup 24 mo (pv a x) true).run Try.prog w = .ok (.tuple #[.int .i64 (n : Nat), .bool (decide ((a, x) ∈ S))]) w := by
  rcases hT with ⟨h1, h2, h3⟩ | ⟨m, l, f, ix, vs, ks, h1, h2, h3⟩
  · subst h1 h3
    refine ⟨0, ?_⟩
    rw [Maps.look_nil true Try.keyedPair Try.underlying24 (Try.zeroLkInt w) (key_pair ha hx)]
    simp
  · subst h1
    exact h3.pm.look ha hx
theorem Tbl.form {mo lo : Value} (hT : Tbl w G mo lo S) : ∃ mq lq, mo = .map mq ∧ lo = .map lq := by
  rcases hT with ⟨h1, h2, h3⟩ | ⟨m, l, f, ix, vs, ks, h1, h2, h3⟩
  · exact ⟨_, _, h1, h2⟩
  · exact ⟨_, _, h1, h2⟩
set_option maxRecDepth 100000 in
set_option maxHeartbeats 1000000 in
theorem there_any (H : HeadAt w b h) (ho : off < 7) (hT : Tbl w G (h off) (h (off + 1)) S) (ha : I64 a) (hx : I64 x) :
    Calls Try.prog 35 #[.pointer (some ⟨b, off, none⟩), pv a x] w fun e w' => e = .returned (.bool (decide ((a, x) ∈ S))) ∧ Kp (fun _ => False) w w' := by
  obtain ⟨mq, lq, hm, -⟩ := hT.form
  have c0 : (w.alloc (.cells #[.int .i64 a, .int .i64 x] 70)).cell? ⟨b, off, none⟩ = some (.map mq) := by rw [← hm]; exact (H.same (box_kp w a x)).cell (by omega)
  obtain ⟨n, hlk⟩ := (hT.same (box_kp w a x).drew).look ha hx
  rw [hm] at hlk
  have hlk2 : (Instr.lookup 24 (.map mq) (.agg #[.int .i64 a, .int .i64 x]) true).run Try.prog (w.alloc (.cells #[.int .i64 a, .int .i64 x] 70)).drew = .ok (.tuple #[.int .i64 (n : Nat), .bool (decide ((a, x) ∈ S))]) (w.alloc (.cells #[.int .i64 a, .int .i64 x] 70)).drew := hlk
  obtain ⟨B, hB⟩ : ∃ B, decide ((a, x) ∈ S) = B := ⟨_, rfl⟩
  rw [hB] at hlk2 ⊢
  have HK := Lib.hid (box_kp w a x)
  unfold pv
  clear hlk hT H hm hB ho
  go_enter Try.func35, Try.ntmps35
  go_wp2_with fail
  go_region
  go_wp2_with fail
  go_ret
  exact ⟨rfl, HK.out.drew⟩
theorem Tbl.len {mo lo : Value} (hT : Tbl w G mo lo S) : (Builtin.len_ #[24] 3 #[mo]).run Try.prog w = .ok (.int .i64 (S.length : Nat)) w := by
  rcases hT with ⟨h1, h2, h3⟩ | ⟨m, l, f, ix, vs, ks, h1, h2, h3⟩
  · subst h1 h3
    exact Maps.len_nil Try.underlying24 _
  · subst h1
    exact h3.pm.len
set_option maxRecDepth 100000 in
theorem size_any (H : HeadAt w b h) (ho : off < 7) (hT : Tbl w G (h off) (h (off + 1)) S) :
    Calls Try.prog 33 #[.pointer (some ⟨b, off, none⟩)] w fun e w' => e = .returned (.int .i64 (S.length : Nat)) ∧ w = w' := by
  obtain ⟨mq, lq, hm, -⟩ := hT.form
  have c0 : w.cell? ⟨b, off, none⟩ = some (.map mq) := by rw [← hm]; exact H.cell (by omega)
  have hln := hT.len
  rw [hm] at hln
  obtain ⟨N, hN⟩ : ∃ N, S.length = N := ⟨_, rfl⟩
  rw [hN] at hln ⊢
  clear hT H hm hN ho
  go_enter Try.func33, Try.ntmps33
  go_wp2_with fail
  go_ret
  exact ⟨rfl, rfl⟩
theorem Tbl.row {mo lo : Value} (hT : Tbl w G mo lo S) (ha : I64 a) (hl : S.length ≤ 17592186044416) :
    ∃ v L, (Instr.lookup 25 lo (.int .i64 a) false).run Try.prog w = .ok v w ∧ Lw w v L ∧ L.Perm (colOf S a) ∧ L.length ≤ 17592186044416 := by
  rcases hT with ⟨h1, h2, h3⟩ | ⟨m, l, f, ix, vs, ks, h1, h2, h3⟩
  · subst h2 h3
    refine ⟨.slice none 0 0, [], ?_, Lw.nil w, by simp [colOf], by simp⟩
    rw [Maps.look_nil false Try.keyedLk Try.underlying25 (Try.zeroLkRow w) (keyOf_int_mk Try.underlying2 ha.wf)]
    rfl
  · subst h2
    exact ⟨vs a, f a, h3.lm.look ha, h3.row a, h3.per a, Nat.le_trans (h3.len a) hl⟩
set_option maxRecDepth 100000 in
set_option maxHeartbeats 1000000 in
theorem of_any (H : HeadAt w b h) (ho : off < 7) (hT : Tbl w G (h off) (h (off + 1)) S) (ha : I64 a) (hl : S.length ≤ 17592186044416) :
    Calls Try.prog 34 #[.pointer (some ⟨b, off, none⟩), .int .i64 a] w (FreshRow w (srt (colOf S a))) := by
  obtain ⟨mq, lq, -, hm⟩ := hT.form
  have c0 : w.cell? ⟨b, off + 1, none⟩ = some (.map lq) := by rw [← hm]; exact H.cell (by omega)
  obtain ⟨v, L, hr, hv, hp, hL⟩ := hT.row ha hl
  rw [hm] at hr
  have HC := Lib.hid (clone_any hv hL)
  have HS : Hid (∀ w1 u, Lw w1 u L → Calls Try.prog 47 #[u] w1 (fun e w' => e = .returned (.tuple #[]) ∧ Lw w' u (srt L) ∧ Kp (fun q => u.ownBlock = some q) w1 w')) := Lib.hid fun w1 u hu => sort_any hu hL
  have HP := Lib.hid (srt_of_perm hp)
  clear hT H hm hv hp hL ho hl
  go_enter Try.func34, Try.ntmps34
  go_wp2_with fail
  refine HC.out.mono ?_
  rintro e w1 ⟨u, rfl, h1, h2, h3⟩
  have H1 := Lib.hid (And.intro h1 (And.intro h2 h3))
  clear h1 h2 h3
  go_wp2_with fail
  refine (HS.out w1 u H1.out.1).mono ?_
  rintro e w2 ⟨rfl, h4, h5⟩
  have H2 := Lib.hid (And.intro h4 h5)
  clear h4 h5
  go_wp2_with fail
  go_ret
  exact ⟨u, rfl, by rw [← HP.out]; exact H2.out.1, H1.out.2.1, H1.out.2.2.trans (H2.out.2.mono fun q hq e => .inr ⟨H1.out.2.1 q e, hq⟩)⟩
end
end Go.Proofs.Ytmfhmnlgffgcgaa
