/- Any script of calls over any number of slots and bytes: both heaps of binaries tell the same handles, bytes, counts and errors, and behind each call the same handles are held: BinaryPlays answers true, for every input; the arguments read afterwards as before. -/
import Derived.Test.YtlnckpjpoaokjaaRows
import Derived.Test.YtlnckpjpoaokjaaTrio5
import Derived.Test.YtlnckpjpoaokjaaSameInts
import Derived.Test.YtlnckpjpoaokjaaFrame
import Derived.Test.YtlnckpjpoaokjaaAwake5
import Derived.StillTailTactics
import Derived.BigQuiet
import Derived.Deep.LoopGhost
import Derived.Deep.QuietTactic
import Derived.LoopN
import Derived.Deep.CutBlock
import Derived.WalkKit
import Derived.ProofKit
import Derived.OpenShut
import Derived.ShutString
import Derived.ChangeOld
import Derived.Below
import Derived.Deep.Strs
namespace Go.Proofs.Ytlnckpjpoaokjaa.binaryPlays
open Go.ChangeShapes Go.WideShapes Go.ChangeAt Go.RowKit
open Go.ChangeMaps (open_string shut_string)
set_option linter.unusedVariables false

theorem own : ownKnob Try.prog.godebug = none := by kernel_rfl
theorem laidOut : laidOutB Try.prog = true := by kernel_rfl

set_option maxHeartbeats 4000000 in
set_option maxRecDepth 100000 in
theorem walk (s y : Int) (a2 : Option Addr) (len2 cap2 : Nat) (w : World) (w0 : (Lit.int .i64 s).wf = true) (w1 : (Lit.int .i64 y).wf = true) (h2 : OpsIn w a2 len2 cap2) :
    Calls Try.prog 3 #[.int .i64 s, .int .i64 y, .slice a2 len2 cap2] w fun e w' => e = .returned (.bool true) ∧ Below w.heap.size w w' := by
  obtain ⟨b1, b2⟩ := bounds_i64 w0
  obtain ⟨b3, b4⟩ := bounds_i64 w1
  clear w0 w1
  have HO := Lib.hid h2
  have hlen := h2.2.2.1
  clear h2
  by_cases hbad : ∃ n, badNew s y n
  · obtain ⟨n, hbad⟩ := hbad
    go_enter Try.func3, Try.ntmps3
    go_wp2_with fail
    refine (new_bad s y n w hbad).mono ?_
    rintro e wa ⟨v1, rfl, hch1, hk1⟩
    have H1 := Lib.hid (And.intro hch1.out hk1)
    obtain ⟨g1, rfl⟩ := Chain.form hch1.out
    clear hch1 hk1
    go_wp2_with fail
    refine (xnew_bad s y n wa hbad).mono ?_
    rintro e wb ⟨v2, rfl, hch2, hk2⟩
    have H2 := Lib.hid (And.intro hch2 hk2)
    clear hch2 hk2
    go_wp2_with fail
    refine (ref_any _ _ _ wb (by simp) (Chain.kp H2.out.2 _ _ H1.out.1) H2.out.1).mono ?_
    rintro e wc ⟨rfl, hk3⟩
    have H3 := Lib.hid hk3
    clear hk3
    go_wp2_with (go_at_call 9; refine (awake_any _).mono ?_; rintro e wg ⟨rfl, hk7⟩)
    go_ret
    exact ⟨rfl, (((H1.out.2.trans' H2.out.2).trans' H3.out).trans' hk7).below _ (Nat.le_refl _) (fun _ e => e.elim)⟩
  · obtain ⟨m, hm⟩ : ∃ m : Nat, s = m := ⟨s.toNat, by
      by_cases h : 0 ≤ s
      · omega
      · exact (hbad ⟨s, .inl ⟨.inl (by omega), rfl⟩⟩).elim⟩
    have hm1 : 1 ≤ m ∧ m ≤ 4096 := by
      by_cases h : 1 ≤ s ∧ s ≤ 4096
      · omega
      · exact (hbad ⟨s, .inl ⟨by omega, rfl⟩⟩).elim
    obtain ⟨r, hr⟩ : ∃ r : Nat, y = r := ⟨y.toNat, by
      by_cases h : 0 ≤ y
      · omega
      · exact (hbad ⟨y, .inr ⟨by omega, by omega, .inl (by omega), rfl⟩⟩).elim⟩
    have hr1 : r ≤ 1048576 := by
      by_cases h : y ≤ 1048576
      · omega
      · exact (hbad ⟨y, .inr ⟨by omega, by omega, .inr (by omega), rfl⟩⟩).elim
    subst hm hr
    clear hbad b1 b2 b3 b4
    go_enter Try.func3, Try.ntmps3
    go_wp2_with fail
    refine (new_ok m r hm1.1 hm1.2 hr1 w).mono ?_
    rintro e wa ⟨rfl, hk1, hA1⟩
    have hS1 : Solo w wa w.heap.size 1 (aNew m r) (fun q => q = w.heap.size) := ⟨hA1, inv_new m r hm1.1 hm1.2 hr1 1, fun q e => by omega, hk1⟩
    have H1 := Lib.hid hS1
    clear hk1 hA1 hS1
    go_wp2_with fail
    refine (xnew_ok m r hm1.1 hm1.2 hr1 wa).mono ?_
    rintro e wb ⟨rfl, hk2, hA2⟩
    have hD : Duo w wb w.heap.size wa.heap.size 1 (aNew m r) (fun q => q = w.heap.size) (fun q => q = wa.heap.size) :=
      ⟨H1.out.same hk2, hA2, fun q e e' => by have := H1.out.at'.lt q e; omega, fun q e => by have := H1.out.kp.size; omega⟩
    have H2 := Lib.hid hD
    clear hk2 hA2 hD H1
    go_wp2_with fail
    refine (ref_any [] _ _ _ (by simp) rfl rfl).mono ?_
    rintro e wc ⟨rfl, hk3⟩
    have H3 := Lib.hid (H2.out.same hk3)
    clear hk3 H2
    go_wp2_with fail
    go_loopg [11, 12] len2 (fun gk l i wr => ∃ (k : Nat) (A : Bn) (F G : Nat → Prop) (ls : List Nat), k ≤ len2 ∧ gk = len2 - k ∧ i = Value.int .i64 k ∧ ls.length ≤ k ∧ (∀ x ∈ ls, x ≤ 5000000000000000000) ∧
      Trio w wr w.heap.size wa.heap.size (k + 1) A F G l ls)
    case atStart => exact ⟨0, _, _, _, [], by omega, rfl, rfl, by simp, by simp, H3.out, World.ownsRow_nil _ _ _ _, by simp [Value.ownBlock]⟩
    case round =>
      clear H3
      obtain ⟨k, A, F, G, ls, hk, rfl, rfl, hls, hlb, hT⟩ := hrel
      by_cases hlt : k < len2
      · obtain ⟨bx, off, rfl, hbx, kk, hh, xx, yy, raw, po, lb, cb, fb, ⟨v0, v1, v2, v3⟩, d0, d1, d2, d3, d4, d5, hbin, hlb2⟩ := HO.out.2.2.2 k hlt
        have hkp := hT.kp
        obtain ⟨c0, c1⟩ := bounds_i64 v0
        obtain ⟨c2, c3⟩ := bounds_i64 v1
        obtain ⟨c4, c5⟩ := bounds_i64 v2
        obtain ⟨c6, c7⟩ := bounds_i64 v3
        have e0 := (hkp.cell (p := ⟨bx, off + k * 6, none⟩) hbx (fun e => e)).trans d0
        have e1 := (hkp.cell (p := ⟨bx, off + k * 6 + 1, none⟩) hbx (fun e => e)).trans d1
        have e2 := (hkp.cell (p := ⟨bx, off + k * 6 + 2, none⟩) hbx (fun e => e)).trans d2
        have e3 := (hkp.cell (p := ⟨bx, off + k * 6 + 3, none⟩) hbx (fun e => e)).trans d3
        have e4 := (hkp.cell (p := ⟨bx, off + k * 6 + 4, none⟩) hbx (fun e => e)).trans d4
        have e5 := (hkp.cell (p := ⟨bx, off + k * 6 + 5, none⟩) hbx (fun e => e)).trans d5
        have hli : (k : Int) < len2 := by omega
        obtain ⟨pl, cl, rfl⟩ := slice_form hT.row
        have hkw : Kp (fun _ => False) wr (wr.alloc (.cells #[.int .i64 kk, .int .i64 hh, .int .i64 xx, .int .i64 yy, .bool raw, .slice po lb cb] 37)) := (Kp.refl _ wr).alloc _
        have hN : k + 1 ≤ 100000000000000 := by omega
        have HX := Lib.hid (And.intro (fun e : F wr.heap.size => (by have := hT.duo.one.at'.lt _ e; omega : False)) (fun e : G wr.heap.size => (by have := hT.duo.ref.lt _ e; omega : False)))
        have HD := Lib.hid (And.intro (hT.same hkw) (And.intro hls (And.intro hlb (And.intro hbin (And.intro hlb2 (And.intro hN (heap_alloc_new wr (.cells #[.int .i64 kk, .int .i64 hh, .int .i64 xx, .int .i64 yy, .bool raw, .slice po lb cb] 37))))))))
        clear hT hls hlb hbin hlb2 d0 d1 d2 d3 d4 d5 v0 v1 v2 v3 hkp hkw
        go_upto_region 13 with fail
        go_cut [79] (fun t wy => (∃ tb : Bool, t = Value.bool tb ∧ (tb = true → 0 < ls.length)) ∧ wy = wr.alloc (.cells #[.int .i64 kk, .int .i64 hh, .int .i64 xx, .int .i64 yy, .bool raw, .slice po lb cb] 37))
        case first =>
          cases raw
          all_goals
            by_cases hl0 : 0 < ls.length
            · have hl1 : decide ((0 : Int) < ls.length) = true := by simpa using hl0
              go_wp2_with fail
              all_goals (go_meet; exact ⟨⟨_, rfl, fun _ => hl0⟩, rfl⟩)
            · have hl1 : decide ((0 : Int) < ls.length) = false := by simpa using hl0
              go_wp2_with fail
              all_goals (go_meet; exact ⟨⟨_, rfl, fun e => by cases e⟩, rfl⟩)
        case rest =>
          obtain ⟨⟨tb, rfl, htb⟩, rfl⟩ := hcut
          have Ht := Lib.hid htb
          clear htb
          go_upto_if 79 with fail
          go_cut [14] (fun n wy => (∃ nn : Int, n = Value.int .i64 nn ∧ -9223372036854775808 ≤ nn ∧ nn ≤ 9223372036854775807) ∧ wy = wr.alloc (.cells #[.int .i64 kk, .int .i64 hh, .int .i64 xx, .int .i64 yy, .bool raw, .slice po lb cb] 37))
          case first =>
            cases tb with
            | false =>
              go_wp2_with fail
              go_meet
              exact ⟨⟨hh, rfl, c2, c3⟩, rfl⟩
            | true =>
              have hl0 := Ht.out rfl
              have hl2 := HD.out.2.1
              obtain ⟨n, hn⟩ : ∃ n, hh % (ls.length : Int) = ((n : Nat) : Int) := ⟨(hh % (ls.length : Int)).toNat, by have := Int.emod_nonneg hh (b := (ls.length : Int)) (by omega); omega⟩
              have hn2 : n < ls.length := by have := Int.emod_lt_of_pos hh (b := (ls.length : Int)) (by omega); omega
              have Hn := Lib.hid hn
              clear hn
              have hrow := HD.out.1.row
              obtain ⟨gl, rfl⟩ : ∃ gl, pl = some ⟨gl, 0, none⟩ := by
                rcases hrow.2 with ⟨_, e⟩ | ⟨g, cap, cur, e, _⟩
                · omega
                · injection e with e
                  exact ⟨g, e⟩
              have hcell := hrow.cellAt n (by omega)
              rw [nats_get (List.getElem?_eq_getElem hn2)] at hcell
              have hsm := HD.out.2.2.1 ls[n] (List.getElem_mem hn2)
              obtain ⟨ln, hln⟩ : ∃ ln, ls[n] = ln := ⟨_, rfl⟩
              rw [hln] at hcell hsm
              clear hrow hln
              go_wp2_with fail
              refine (place_wide _ hh (ls.length : Int) c2 c3 (by omega) (by omega)).mono ?_
              rintro e w' ⟨rfl, rfl⟩
              rw [Hn.out]
              have hni : (n : Int) < ls.length := by omega
              go_wp2_with fail
              go_meet
              exact ⟨⟨_, rfl, by omega, by omega⟩, rfl⟩
          case rest =>
            obtain ⟨⟨nn, rfl, n1, n2⟩, rfl⟩ := hcut
            clear Ht tb
            go_upto_region 16 with fail
            go_cut [90] (fun q wy => q = Value.int .i64 (kk % 6) ∧ wy = wr.alloc (.cells #[.int .i64 kk, .int .i64 hh, .int .i64 xx, .int .i64 yy, .bool raw, .slice po lb cb] 37))
            case first =>
              go_wp2_with fail
              refine (place_any _ kk 6 c0 c1 (by omega) (by omega)).mono ?_
              rintro e w' ⟨rfl, rfl⟩
              go_wp2_with fail
              go_meet
              exact ⟨rfl, rfl⟩
            case rest =>
              obtain ⟨rfl, rfl⟩ := hcut
              obtain ⟨wz, hwz⟩ : ∃ wz, wr.alloc (.cells #[.int .i64 kk, .int .i64 hh, .int .i64 xx, .int .i64 yy, .bool raw, .slice po lb cb] 37) = wz := ⟨_, rfl⟩
              have HT := HD.out
              rw [hwz] at HT ⊢
              have hxl : wr.heap.size < wz.heap.size := by rw [← hwz]; simp
              obtain ⟨hT, hls, hlb, hbin, hlb2, _, hxb⟩ := HT
              have x2 : wz.cell? ⟨wr.heap.size, 2, none⟩ = some (.int .i64 xx) := cell_of hxb 2
              have x3 : wz.cell? ⟨wr.heap.size, 3, none⟩ = some (.int .i64 yy) := cell_of hxb 3
              have x5 : wz.cell? ⟨wr.heap.size, 5, none⟩ = some (.slice po lb cb) := cell_of hxb 5
              have hxF : ¬ F wr.heap.size := HX.out.1
              have HZ := Lib.hid (And.intro hT (And.intro hls (And.intro hlb (And.intro hbin (And.intro hlb2 (And.intro hxl (And.intro hxF (And.intro x2 (And.intro x3 x5)))))))))
              clear hT hls hlb hbin hlb2 hxb hxl hxF hwz HD HX e0 e1 e2 e3 e4 e5
              obtain ⟨q, hq0⟩ : ∃ q, kk % 6 = q := ⟨_, rfl⟩
              have hq : q = 0 ∨ q = 1 ∨ q = 2 ∨ q = 3 ∨ q = 4 ∨ q = 5 := by omega
              rw [hq0]
              clear hq0
              go_upto_block 2 with fail
              go_cut [11, 15] (fun l ok wy => ok = Value.bool true ∧ ∃ (A' : Bn) (F' G' : Nat → Prop) (pl' : Option Addr) (cl' : Nat) (ls' : List Nat), l = .slice pl' ls'.length cl' ∧ ls'.length ≤ k + 1 ∧ (∀ x ∈ ls', x ≤ 5000000000000000000) ∧ Trio w wy w.heap.size wa.heap.size (k + 1 + 1) A' F' G' (.slice pl' ls'.length cl') ls')
              case first =>
                rcases hq with rfl | rfl | rfl | rfl | rfl | rfl
                · as_aux_lemma =>
                    clear x2 x3
                    have hold : BytesAt (fun q => q < w.heap.size) w (bl fb lb) (.slice po lb cb) := HZ.out.2.2.2.1.at' (Nat.le_refl _) HZ.out.2.2.2.2.1 HZ.out.2.2.2.1.1
                    obtain ⟨l, hl, hl2⟩ : ∃ l, bl fb lb = l ∧ l.length = lb := ⟨_, rfl, bl_len _ _⟩
                    rw [hl] at hold
                    have Ho := Lib.hid (And.intro hold hl2)
                    have hlb3 := HZ.out.2.2.2.2.1
                    clear hold hl2 hl
                    go_wp2_with fail
                    refine (copyBytes_any (bytes_kp Ho.out.1 HZ.out.1.kp (fun _ _ e => e))).mono ?_
                    rintro e w1 ⟨v1, rfl, hv1, hk1⟩
                    obtain ⟨p1, c1, rfl⟩ := hv1.form' Ho.out.2
                    have H1 := Lib.hid (And.intro (HZ.out.1.same hk1) (And.intro hv1 (And.intro hk1 (fun q (hq : Byt (Own wz.heap.size w1) w1 q) (e : F q) => (by have := HZ.out.1.duo.one.at'.lt q e; have := hq.1.1; omega : False)))))
                    clear hv1 hk1 x5
                    rcases put_how HZ.out.1.duo.one.inv l with ⟨a', m, hp⟩ | hfull
                    · have Hp := Lib.hid hp
                      clear hp
                      go_wp2_with fail
                      refine (t_put H1.out.1 hN H1.out.2.1 H1.out.2.2.2 Hp.out).mono ?_
                      rintro e w2 ⟨rfl, ⟨F1, hH⟩, hk2⟩
                      have x5 : w2.cell? ⟨wr.heap.size, 5, none⟩ = some (.slice po lb cb) := (hk2.cell (p := ⟨wr.heap.size, 5, none⟩) (Nat.lt_of_lt_of_le HZ.out.2.2.2.2.2.1 H1.out.2.2.1.size) HZ.out.2.2.2.2.2.2.1).trans ((H1.out.2.2.1.cell (p := ⟨wr.heap.size, 5, none⟩) HZ.out.2.2.2.2.2.1 (fun e => e)).trans HZ.out.2.2.2.2.2.2.2.2.2)
                      have H2 := Lib.hid hH
                      clear hH hk2
                      go_wp2_with fail
                      refine (x_put H2.out HZ.out.1.duo.one.inv hN (by omega) Ho.out.1 Hp.out).mono ?_
                      rintro e w3 ⟨rfl, G1, hT3⟩
                      have H3 := Lib.hid hT3
                      clear hT3 x5
                      go_wp2_with fail
                      refine (ref_any [] _ _ _ (by simp) rfl rfl).mono ?_
                      rintro e w4 ⟨rfl, hk4⟩
                      have hT4 := H3.out.same hk4
                      obtain ⟨i0, hi, hz0, hz1, hz2⟩ := info_parts Try.infoInt
                      have hoA : ∀ o, (w4.alloc o).ownsRow w.heap.size 3 1 (.slice pl ls.length cl) ls.length (nats ls) := fun o => hT4.row.alloc o
                      have hnA : ∀ j u, [Value.int .i64 m][j]? = some u → (w4.alloc (.cells #[.int .i64 m] 3)).cell? ((⟨w4.heap.size, 0, none⟩ : Addr).add j) = some u := World.news_of_block (cs := #[.int .i64 m]) (heap_alloc_new w4 _)
                      have hone : ∀ u ∈ [Value.int .i64 m], u.oneCell' = true := by intro u hu; simp at hu; subst hu; rfl
                      have hcap1 : ls.length + 1 ≤ maxLen := by have := HZ.out.2.1; unfold maxLen; omega
                      have hcap2 : (ls.length + 1) * 8 ≤ 140737488355328 := by have := HZ.out.2.1; omega
                      have hbase : ∀ o, w.heap.size ≤ (w4.alloc o).heap.size := fun o => by have := hT4.kp.size; simp; omega
                      have Hc := Lib.hid (And.intro hcap1 (And.intro hcap2 hT4))
                      clear hcap1 hcap2 hT4 hk4
                      go_wp2_with (at_builtin; refine wpList_append_lies _ rfl _ _ 34 rfl w.heap.size 3 i0 (.int .i64 0) 1 8 Try.underlying34 hi hz0 hz1 hz2 rfl (by omega) (.slice pl ls.length cl) ls.length _ rfl (hoA _) ⟨w4.heap.size, 0, none⟩ 1 1 [.int .i64 m] rfl rfl hnA hone (by omega) Hc.out.1 Hc.out.2.1 (hbase _) (w4.heap.size + 1) (by simp) ?_; intro g1 cap1 w5 hown hgrow hat hlt5)
                      go_meet
                      refine ⟨rfl, a', F1, G1, some ⟨g1, 0, none⟩, cap1, ls ++ [m], ?_, ?_, ?_, ?_⟩
                      rotate_left 3
                      · have := Hc.out.2.2.push m hown hgrow hat
                        rw [show ls.length + 1 = (ls ++ [m]).length by simp] at this
                        exact this
                      · simp
                      · have := HZ.out.2.1; simp; omega
                      · intro x hx
                        rcases List.mem_append.1 hx with hx | hx
                        · exact HZ.out.2.2.1 x hx
                        · simp at hx
                          subst hx
                          exact Hp.out.small HZ.out.1.duo.one.inv hN
                    · have Hp := Lib.hid hfull
                      clear hfull
                      rw [Ho.out.2] at Hp
                      go_wp2_with fail
                      refine (t_putF H1.out.1 p1 lb c1 hlb3 Hp.out).mono ?_
                      rintro e w2 ⟨v1, rfl, hT2, hk2⟩
                      have x5 : w2.cell? ⟨wr.heap.size, 5, none⟩ = some (.slice po lb cb) := (hk2.cell (p := ⟨wr.heap.size, 5, none⟩) (Nat.lt_of_lt_of_le HZ.out.2.2.2.2.2.1 H1.out.2.2.1.size) (fun e => e)).trans ((H1.out.2.2.1.cell (p := ⟨wr.heap.size, 5, none⟩) HZ.out.2.2.2.2.2.1 (fun e => e)).trans HZ.out.2.2.2.2.2.2.2.2.2)
                      obtain ⟨gf, rfl⟩ := Chain.form hT2.1
                      have H1b := Lib.hid hT2
                      clear hT2 hk2
                      go_wp2_with fail
                      refine (x_putF H1b.out po lb cb hlb3 Hp.out).mono ?_
                      rintro e w3 ⟨v2, rfl, hT3⟩
                      have H2 := Lib.hid hT3
                      clear hT3 x5 H1b
                      go_wp2_with fail
                      refine (ref_any [Lk.fault putS lb, Lk.kind 2] _ _ _ (by simp) H2.out.1 H2.out.2.1).mono ?_
                      rintro e w3 ⟨rfl, hk3⟩
                      have H3 := Lib.hid ((H2.out.2.2.same hk3).mono (Nat.le_succ _))
                      clear hk3 H2 H1
                      go_wp2_with fail
                      go_meet
                      exact ⟨rfl, _, _, _, _, _, _, rfl, by have := HZ.out.2.1; omega, HZ.out.2.2.1, H3.out⟩
                · as_aux_lemma =>
                    clear x2 x3 x5
                    rcases found_any A nn with ⟨i, s, hf⟩ | ⟨kd, hf⟩
                    · have Hf := Lib.hid hf
                      clear hf
                      go_wp2_with fail
                      refine (t_keep HZ.out.1 hN Hf.out n2).mono ?_
                      rintro e w1 ⟨rfl, F1, hH⟩
                      have H1 := Lib.hid hH
                      clear hH
                      go_wp2_with fail
                      refine (x_keep H1.out HZ.out.1.duo.one.inv hN Hf.out n2).mono ?_
                      rintro e w2 ⟨rfl, G1, hT2⟩
                      have H2 := Lib.hid hT2
                      clear hT2
                      go_wp2_with fail
                      refine (ref_any [] _ _ _ (by simp) rfl rfl).mono ?_
                      rintro e w3 ⟨rfl, hk3⟩
                      have H3 := Lib.hid (H2.out.same hk3)
                      clear hk3 H2 H1
                      go_wp2_with fail
                      go_meet
                      exact ⟨rfl, _, _, _, _, _, _, rfl, by have := HZ.out.2.1; omega, HZ.out.2.2.1, H3.out⟩
                    · have Hf := Lib.hid hf
                      clear hf
                      go_wp2_with fail
                      refine (t_bad1 HZ.out.1 Hf.out n1 n2).mono ?_
                      rintro e w1 ⟨v1, rfl, hT1⟩
                      have H1 := Lib.hid hT1
                      clear hT1
                      go_wp2_with fail
                      refine (x_bad1 H1.out hN Hf.out n1 n2).mono ?_
                      rintro e w2 ⟨v2, rfl, hT2⟩
                      have H2 := Lib.hid hT2
                      clear hT2
                      go_wp2_with fail
                      refine (ref_any [Lk.fault keepS nn, Lk.kind kd] _ _ _ (by simp) H2.out.1 H2.out.2.1).mono ?_
                      rintro e w3 ⟨rfl, hk3⟩
                      have H3 := Lib.hid ((H2.out.2.2.same hk3).mono (Nat.le_succ _))
                      clear hk3 H2 H1
                      go_wp2_with fail
                      go_meet
                      exact ⟨rfl, _, _, _, _, _, _, rfl, by have := HZ.out.2.1; omega, HZ.out.2.2.1, H3.out⟩
                · as_aux_lemma =>
                    clear x2 x3 x5
                    rcases found_any A nn with ⟨i, s, hf⟩ | ⟨kd, hf⟩
                    · have Hf := Lib.hid hf
                      clear hf
                      by_cases hc1 : s.count = 1
                      · have Hc1 := Lib.hid hc1
                        clear hc1
                        go_wp2_with fail
                        refine (t_drop0 HZ.out.1 hN Hf.out n2 Hc1.out).mono ?_
                        rintro e w1 ⟨rfl, F1, hH⟩
                        have H1 := Lib.hid hH
                        clear hH
                        go_wp2_with fail
                        refine (x_drop0 H1.out HZ.out.1.duo.one.inv hN Hf.out n2 Hc1.out).mono ?_
                        rintro e w2 ⟨rfl, G1, hT2⟩
                        have H2 := Lib.hid hT2
                        clear hT2
                        go_wp2_with fail
                        refine (ref_any [] _ _ _ (by simp) rfl rfl).mono ?_
                        rintro e w3 ⟨rfl, hk3⟩
                        have H3 := Lib.hid (H2.out.same hk3)
                        clear hk3 H2 H1
                        go_wp2_with fail
                        go_meet
                        exact ⟨rfl, _, _, _, _, _, _, rfl, by have := HZ.out.2.1; omega, HZ.out.2.2.1, H3.out⟩
                      · obtain ⟨c', hc', hc0⟩ : ∃ c', s.count = c' + 1 ∧ 0 < c' := ⟨s.count - 1, by have := Hf.out.held; omega, by have := Hf.out.held; omega⟩
                        have Hc1 := Lib.hid (And.intro hc' hc0)
                        clear hc1 hc' hc0
                        go_wp2_with fail
                        refine (t_drop1 HZ.out.1 hN Hf.out n2 Hc1.out.1 Hc1.out.2).mono ?_
                        rintro e w1 ⟨rfl, F1, hH⟩
                        have H1 := Lib.hid hH
                        clear hH
                        go_wp2_with fail
                        refine (x_drop1 H1.out HZ.out.1.duo.one.inv hN Hf.out n2 Hc1.out.1 Hc1.out.2).mono ?_
                        rintro e w2 ⟨rfl, G1, hT2⟩
                        have H2 := Lib.hid hT2
                        clear hT2
                        go_wp2_with fail
                        refine (ref_any [] _ _ _ (by simp) rfl rfl).mono ?_
                        rintro e w3 ⟨rfl, hk3⟩
                        have H3 := Lib.hid (H2.out.same hk3)
                        clear hk3 H2 H1
                        go_wp2_with fail
                        go_meet
                        exact ⟨rfl, _, _, _, _, _, _, rfl, by have := HZ.out.2.1; omega, HZ.out.2.2.1, H3.out⟩
                    · have Hf := Lib.hid hf
                      clear hf
                      go_wp2_with fail
                      refine (t_bad2 HZ.out.1 Hf.out n1 n2).mono ?_
                      rintro e w1 ⟨v1, rfl, hT1⟩
                      have H1 := Lib.hid hT1
                      clear hT1
                      go_wp2_with fail
                      refine (x_bad2 H1.out hN Hf.out n1 n2).mono ?_
                      rintro e w2 ⟨v2, rfl, hT2⟩
                      have H2 := Lib.hid hT2
                      clear hT2
                      go_wp2_with fail
                      refine (ref_any [Lk.fault dropS nn, Lk.kind kd] _ _ _ (by simp) H2.out.1 H2.out.2.1).mono ?_
                      rintro e w3 ⟨rfl, hk3⟩
                      have H3 := Lib.hid ((H2.out.2.2.same hk3).mono (Nat.le_succ _))
                      clear hk3 H2 H1
                      go_wp2_with fail
                      go_meet
                      exact ⟨rfl, _, _, _, _, _, _, rfl, by have := HZ.out.2.1; omega, HZ.out.2.2.1, H3.out⟩
                · as_aux_lemma =>
                    clear x2 x3 x5
                    rcases found_any A nn with ⟨i, s, hf⟩ | ⟨kd, hf⟩
                    · have Hf := Lib.hid hf
                      clear hf
                      go_wp2_with fail
                      refine (t_bytes HZ.out.1 Hf.out n2).mono ?_
                      rintro e w1 ⟨v1, rfl, hT1⟩
                      have H1 := Lib.hid hT1
                      clear hT1
                      go_wp2_with fail
                      refine (x_get bytesS H1.out hN Hf.out n2).mono ?_
                      rintro e w2 ⟨v2, rfl, hT2⟩
                      obtain ⟨p1, c1, rfl⟩ := hT2.1.form' (m := s.bs.length) rfl
                      obtain ⟨p2, c2, rfl⟩ := hT2.2.1.form' (m := s.bs.length) rfl
                      have q1 := conv_any hT2.1
                      have q2 := conv_any hT2.2.1
                      have H2 := Lib.hid hT2.2.2
                      clear hT2 H1
                      go_wp2_with fail
                      clear q1 q2
                      refine (ref_any [] _ _ _ (by simp) rfl rfl).mono ?_
                      rintro e w3 ⟨rfl, hk3⟩
                      have H3 := Lib.hid ((H2.out.same hk3).mono (Nat.le_succ _))
                      clear hk3 H2
                      go_wp2_with fail
                      go_meet
                      exact ⟨rfl, _, _, _, _, _, _, rfl, by have := HZ.out.2.1; omega, HZ.out.2.2.1, H3.out⟩
                    · have Hf := Lib.hid hf
                      clear hf
                      go_wp2_with fail
                      refine (t_bad3 HZ.out.1 Hf.out n1 n2).mono ?_
                      rintro e w1 ⟨v1, rfl, hT1⟩
                      have H1 := Lib.hid hT1
                      clear hT1
                      go_wp2_with fail
                      refine (x_badG bytesS H1.out hN Hf.out n1 n2).mono ?_
                      rintro e w2 ⟨v2, rfl, hT2⟩
                      have q1 := conv_any (w := w2) (bytesAt_nil (fun _ => False) w2)
                      have H2 := Lib.hid hT2
                      clear hT2
                      go_wp2_with fail
                      clear q1
                      refine (ref_any [Lk.fault bytesS nn, Lk.kind kd] _ _ _ (by simp) H2.out.1 H2.out.2.1).mono ?_
                      rintro e w3 ⟨rfl, hk3⟩
                      have H3 := Lib.hid ((H2.out.2.2.same hk3).mono (Nat.le_succ _))
                      clear hk3 H2 H1
                      go_wp2_with fail
                      go_meet
                      exact ⟨rfl, _, _, _, _, _, _, rfl, by have := HZ.out.2.1; omega, HZ.out.2.2.1, H3.out⟩
                · as_aux_lemma =>
                    clear x5
                    rcases part_how A nn xx yy with ⟨i, s, x', y', hf, rfl, rfl, hxy⟩ | ⟨kd, hf⟩
                    · have Hf := Lib.hid hf
                      have Hxy := Lib.hid hxy
                      have hlen' : ((s.bs.drop x').take y').length = y' := by rw [List.length_take, List.length_drop]; omega
                      have Hlen := Lib.hid hlen'
                      clear hf hxy hlen'
                      go_wp2_with fail
                      refine (t_part HZ.out.1 Hf.out n2 x' y' Hxy.out).mono ?_
                      rintro e w1 ⟨v1, rfl, hT1, hk1⟩
                      clear x2 x3
                      have x2 : w1.cell? ⟨wr.heap.size, 2, none⟩ = _ := (hk1.cell (p := ⟨wr.heap.size, 2, none⟩) HZ.out.2.2.2.2.2.1 (fun e => e)).trans HZ.out.2.2.2.2.2.2.2.1
                      have x3 : w1.cell? ⟨wr.heap.size, 3, none⟩ = _ := (hk1.cell (p := ⟨wr.heap.size, 3, none⟩) HZ.out.2.2.2.2.2.1 (fun e => e)).trans HZ.out.2.2.2.2.2.2.2.2.1
                      have H1 := Lib.hid hT1
                      clear hT1 hk1
                      go_wp2_with fail
                      refine (x_part H1.out hN Hf.out n2 x' y' Hxy.out).mono ?_
                      rintro e w2 ⟨v2, rfl, hT2⟩
                      obtain ⟨p1, c1, rfl⟩ := hT2.1.form' (m := y') Hlen.out
                      obtain ⟨p2, c2, rfl⟩ := hT2.2.1.form' (m := y') Hlen.out
                      have q1 := conv_any hT2.1
                      have q2 := conv_any hT2.2.1
                      have H2 := Lib.hid hT2.2.2
                      clear hT2 H1
                      go_wp2_with fail
                      clear q1 q2
                      refine (ref_any [] _ _ _ (by simp) rfl rfl).mono ?_
                      rintro e w3 ⟨rfl, hk3⟩
                      have H3 := Lib.hid ((H2.out.same hk3).mono (Nat.le_succ _))
                      clear hk3 H2
                      go_wp2_with fail
                      go_meet
                      exact ⟨rfl, _, _, _, _, _, _, rfl, by have := HZ.out.2.1; omega, HZ.out.2.2.1, H3.out⟩
                    · have Hf := Lib.hid hf
                      clear hf
                      go_wp2_with fail
                      refine (t_bad4 HZ.out.1 Hf.out n1 n2 ⟨c4, c5⟩ ⟨c6, c7⟩).mono ?_
                      rintro e w1 ⟨v1, rfl, hT1, hk1⟩
                      clear x2 x3
                      have x2 : w1.cell? ⟨wr.heap.size, 2, none⟩ = _ := (hk1.cell (p := ⟨wr.heap.size, 2, none⟩) HZ.out.2.2.2.2.2.1 (fun e => e)).trans HZ.out.2.2.2.2.2.2.2.1
                      have x3 : w1.cell? ⟨wr.heap.size, 3, none⟩ = _ := (hk1.cell (p := ⟨wr.heap.size, 3, none⟩) HZ.out.2.2.2.2.2.1 (fun e => e)).trans HZ.out.2.2.2.2.2.2.2.2.1
                      have H1 := Lib.hid hT1
                      clear hT1 hk1
                      go_wp2_with fail
                      refine (x_bad4 H1.out hN Hf.out n1 n2 ⟨c4, c5⟩ ⟨c6, c7⟩).mono ?_
                      rintro e w2 ⟨v2, rfl, hT2⟩
                      have q1 := conv_any (w := w2) (bytesAt_nil (fun _ => False) w2)
                      have H2 := Lib.hid hT2
                      clear hT2
                      go_wp2_with fail
                      clear q1
                      refine (ref_any [Lk.fault partS nn, Lk.kind kd] _ _ _ (by simp) H2.out.1 H2.out.2.1).mono ?_
                      rintro e w3 ⟨rfl, hk3⟩
                      have H3 := Lib.hid ((H2.out.2.2.same hk3).mono (Nat.le_succ _))
                      clear hk3 H2 H1
                      go_wp2_with fail
                      go_meet
                      exact ⟨rfl, _, _, _, _, _, _, rfl, by have := HZ.out.2.1; omega, HZ.out.2.2.1, H3.out⟩
                · as_aux_lemma =>
                    clear x2 x3 x5
                    rcases found_any A nn with ⟨i, s, hf⟩ | ⟨kd, hf⟩
                    · have Hf := Lib.hid hf
                      clear hf
                      go_wp2_with fail
                      refine (t_count HZ.out.1 Hf.out n2).mono ?_
                      rintro e w' ⟨rfl, rfl⟩
                      go_wp2_with fail
                      refine (x_get countS (l1 := []) (v1 := .slice none 0 0) ⟨bytesAt_nil _ _, HZ.out.1⟩ hN Hf.out n2).mono ?_
                      rintro e w2 ⟨v2, rfl, hT2⟩
                      obtain ⟨p2, c2, rfl⟩ := hT2.2.1.form' (m := s.bs.length) rfl
                      have H2 := Lib.hid hT2.2.2
                      clear hT2
                      go_wp2_with fail
                      refine (ref_any [] _ _ _ (by simp) rfl rfl).mono ?_
                      rintro e w3 ⟨rfl, hk3⟩
                      have H3 := Lib.hid ((H2.out.same hk3).mono (Nat.le_succ _))
                      clear hk3 H2
                      go_wp2_with fail
                      go_meet
                      exact ⟨rfl, _, _, _, _, _, _, rfl, by have := HZ.out.2.1; omega, HZ.out.2.2.1, H3.out⟩
                    · have Hf := Lib.hid hf
                      clear hf
                      go_wp2_with fail
                      refine (t_bad5 HZ.out.1 Hf.out n1 n2).mono ?_
                      rintro e w1 ⟨v1, rfl, hT1⟩
                      have H1 := Lib.hid hT1
                      clear hT1
                      go_wp2_with fail
                      refine (x_badG countS H1.out hN Hf.out n1 n2).mono ?_
                      rintro e w2 ⟨v2, rfl, hT2⟩
                      have H2 := Lib.hid hT2
                      clear hT2
                      go_wp2_with fail
                      refine (ref_any [Lk.fault countS nn, Lk.kind kd] _ _ _ (by simp) H2.out.1 H2.out.2.1).mono ?_
                      rintro e w3 ⟨rfl, hk3⟩
                      have H3 := Lib.hid ((H2.out.2.2.same hk3).mono (Nat.le_succ _))
                      clear hk3 H2 H1
                      go_wp2_with fail
                      go_meet
                      exact ⟨rfl, _, _, _, _, _, _, rfl, by have := HZ.out.2.1; omega, HZ.out.2.2.1, H3.out⟩
              case rest =>
                as_aux_lemma =>
                  obtain ⟨rfl, A', F', G', pl', cl', ls', rfl, hls', hlb', hT'⟩ := hcut
                  have hN2 : k + 1 + 1 ≤ 100000000000000 := by omega
                  have HT := Lib.hid (And.intro hT' (And.intro hls' hlb'))
                  clear hT' hls' hlb' hq x2 x3 x5
                  go_wp2_with fail
                  refine (t_used HT.out.1).mono ?_
                  rintro e w' ⟨rfl, rfl⟩
                  go_wp2_with fail
                  refine (x_used HT.out.1).mono ?_
                  rintro e w' ⟨rfl, rfl⟩
                  go_wp2_with fail
                  refine (t_handles HT.out.1 hN2).mono ?_
                  rintro e w1 ⟨s1, rfl, hh1⟩
                  have HH1 := Lib.hid hh1
                  clear hh1
                  go_wp2_with fail
                  refine (x_handles HH1.out hN2).mono ?_
                  rintro e w2 ⟨s2, rfl, hh2⟩
                  have HH2 := Lib.hid hh2
                  clear hh2
                  go_wp2_with fail
                  refine (sameInts_any A'.held _ _ _ 0 (by have := heldN_le A'.slots A'.slots.length; have := HT.out.1.duo.one.inv.lenL; unfold Bn.held; omega) HH2.out.1 HH2.out.2.1).mono ?_
                  rintro e w3 ⟨rfl, hk3⟩
                  have H3 := Lib.hid (HH2.out.2.2.same hk3)
                  clear hk3 HH2 HH1
                  go_wp2_with fail
                  go_roundg (len2 - (k + 1))
                  case measure => omega
                  case rel => exact ⟨k + 1, A', F', G', ls', by omega, rfl, by go_num, HT.out.2.1, HT.out.2.2, H3.out⟩
      · obtain rfl : k = len2 := by omega
        have HD := Lib.hid hT
        clear hT hls hlb
        go_wp2_with (go_at_call 9; refine (awake_any _).mono ?_; rintro e wg ⟨rfl, hk7⟩)
        go_ret
        exact ⟨rfl, (HD.out.kp.trans' hk7).below _ (Nat.le_refl _) (fun _ e => e.elim)⟩

set_option maxRecDepth 100000 in
theorem lifted (os : Os) (started : os.Started) (H : Type) (enc : TypeId × Value → H) :
    ReturnsInHanded {} Try.checked os 3 .any (Rows.binaryPlaysSpec.pre6 enc Try.prog Try.f3 Rows.binaryPlaysRow.domain false) (Rows.binaryPlaysSpec.post enc Try.prog Try.f3 false true false false) := by
  refine returnsInHanded_of_change_sized (C := Try.checked) own started (by kernel_rfl) Try.func3
    (ChangeSpec.witness6 (enc := enc) (C := Try.checked) false ⟨#[], #[.int .i64 0, .int .i64 0, .slice none 0 0], []⟩ 8 (by kernel_rfl) (by kernel_rfl) (by kernel_rfl) (by kernel_rfl)) ?_
  intro W base args ds gs before hval0 hW hcnd hsz0 _
  have hval : ∀ (j : Nat) t v, Try.f3.params[j]? = some t → args[j]? = some v → Value.okWide Try.prog W .any base t v := hval0
  have hW' := hW
  obtain ⟨p, q, hA0, hV, rfl, hfz, hnd⟩ := hW
  have hA : DataW.TrodAll enc Try.prog W 0 (fun _ => true) true Try.f3.params.toList args.toList ds p := hA0
  rw [Try.params3] at hA hval
  obtain ⟨v0, vs0, d0, ds0, p0, q0, hargs, rfl, rfl, h0, r0⟩ := trodAll_cons hA
  obtain ⟨v1, vs1, d1, ds1, p1, q1, rfl, rfl, rfl, h1, r1⟩ := trodAll_cons r0
  obtain ⟨v2, vs2, d2, ds2, p2, q2, rfl, rfl, rfl, h2, r2⟩ := trodAll_cons r1
  obtain ⟨rfl, rfl, rfl⟩ := trodAll_nil r2
  obtain rfl : args = #[v0, v1, v2] := by cases args; simp_all
  obtain ⟨rfl, rfl⟩ := trodVars_none hV
  have hsz : ∀ (j : Nat) t d, ((Try.f3.params.toList) : List TypeId)[j]? = some t → [d0, d1, d2][j]? = some d → ∀ n ∈ d.weights Try.prog t, n ≤ reachBytes := fun j t d ht hd n hn => of_decide_eq_true (List.all_eq_true.1 hsz0 n (DataW.weights_mem_each (j := j) (List.getElem?_append_left (List.getElem?_eq_some_iff.1 ht).1 ▸ ht) (List.getElem?_append_left (List.getElem?_eq_some_iff.1 hd).1 ▸ hd) n hn))
  clear hsz0
  obtain ⟨a0, rfl, rfl, rfl, w0⟩ := open_int Try.underlying3 (hval 0 3 v0 rfl rfl) h0
  obtain ⟨a1, rfl, rfl, rfl, w1⟩ := open_int Try.underlying3 (hval 1 3 v1 rfl rfl) h1
  obtain ⟨a2, len2, cap2, rfl⟩ := okWide_slice Try.underlying22 (hval 2 22 v2 rfl rfl)
  have k2 := h2
  have lt2 : ∀ x ∈ p2, x.block < W.heap.size := by obtain ⟨m, hm⟩ := k2; exact DataW.trod_lt m _ _ _ hm
  have w2 : OpsIn W a2 len2 cap2 := by
    obtain ⟨fuel, hf⟩ := h2
    obtain ⟨po, l, c, hcs, ho⟩ := opened_ops Try.underlying22 Try.underlying37 (by kernel_rfl) (by kernel_rfl) Try.underlying3 Try.underlying3 Try.underlying3 Try.underlying3 Try.underlying4 Try.underlying35 Try.underlying5 (by kernel_rfl) (by kernel_rfl) (by kernel_rfl) (hsz 2 _ _ rfl rfl) hf
    simp [Value.cells] at hcs
    obtain ⟨rfl, rfl, rfl⟩ := hcs
    exact ho
  clear hA0 hval0
  simp only [List.nil_append] at hW'
  refine (walk a0 a1 a2 len2 cap2 W w0 w1 w2).mono fun e W' ⟨he, bel⟩ => ?_
  subst he
  exact ⟨_, rfl, _, _, _, [], _, [], hW', trodAll_mk1 (shut_bool Try.underlying4 _), (trodAll_cons_mk (shut_int Try.underlying3 w0) (trodAll_cons_mk (shut_int Try.underlying3 w1) (trodAll_cons_mk (Below.trod laidOut (by kernel_rfl) (of_decide_eq_true (by kernel_rfl)) k2 bel lt2) trodAll_mk0))), rfl, bel.frame _, fun h => by cases h⟩

theorem over : Rows.binaryPlaysRow.holds Try.pinned (OpenSpec.ofChange Rows.binaryPlaysSpec) :=
  OpenClaim.holds_of_wide 3 Try.f3 rfl rfl rfl rfl rfl rfl rfl ⟨rfl, rfl, rfl, rfl, rfl⟩ rfl rfl rfl rfl rfl (by kernel_rfl) Try.func3 (by kernel_rfl)
    (of_decide_eq_true (by kernel_rfl)) (by unfold Func.isWrapper; first | (rw [if_pos (by decide +kernel)]; kernel_rfl) | (rw [if_neg (by decide +kernel)]; exact ⟨rfl, rfl⟩))
    (fun os started H enc _ => lifted os started H enc)

theorem proved : Rows.BinaryPlaysSaid := over
#print axioms proved
end Go.Proofs.Ytlnckpjpoaokjaa.binaryPlays
