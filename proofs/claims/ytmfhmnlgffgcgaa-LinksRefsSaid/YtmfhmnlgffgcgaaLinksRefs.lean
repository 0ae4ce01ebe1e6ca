/- References are given one after the other, never again, and each is its watcher's alone to take back, for any lists. -/
import Derived.Test.YtmfhmnlgffgcgaaRows
import Derived.Test.YtmfhmnlgffgcgaaLkRefs
import Derived.Test.YtmfhmnlgffgcgaaLkIn
import Derived.WalkKit
import Derived.ProofKit
import Derived.OpenShut
import Derived.ShutString
import Derived.ChangeOld
import Derived.Below
import Derived.Deep.Strs
namespace Go.Proofs.Ytmfhmnlgffgcgaa.linksRefs
open Go.ChangeShapes Go.WideShapes Go.ChangeAt Go.RowKit
open Go.ChangeMaps (open_string shut_string)
set_option linter.unusedVariables false

theorem own : ownKnob Try.prog.godebug = none := by kernel_rfl
theorem laidOut : laidOutB Try.prog = true := by kernel_rfl

theorem rf_end {w0 w w' : World} {b next : Nat} {lv : Value} {ms : List Mo} {L : List Int} (h : Rf w0 w b lv ms next L) (hk : Kp (fun _ => False) w w') : Below w0.heap.size w0 w' :=
  (h.ns.kp0.trans' hk).below w0.heap.size (Nat.le_refl _) (fun _ e => e.elim)
set_option maxHeartbeats 8000000 in
set_option maxRecDepth 100000 in
theorem walk (a0 : Option Addr) (len0 cap0 : Nat) (z0 : Nat → Int) (a1 : Option Addr) (len1 cap1 : Nat) (z1 : Nat → Int) (w : World) (h0 : InRowZ w a0 len0 z0) (h1 : InRow w a1 len1 z1) :
    Calls Try.prog 3 #[.slice a0 len0 cap0, .slice a1 len1 cap1] w fun e w' => e = .returned (.bool true) ∧ Below w.heap.size w w' := by
  obtain ⟨hr0, hz0⟩ := h0
  have HI0 := Lib.hid hr0
  have HI1 := Lib.hid h1
  have hl0 := hr0.1
  have hl1 := h1.1
  obtain ⟨b, hb⟩ : ∃ b, w.heap.size = b := ⟨_, rfl⟩
  have HS : Hid (∃ L : List Int, L.length = 0 ∧ (∀ x ∈ L, 0 ≤ x ∧ x < 9) ∧ Rf w (w.alloc (.cells #[.map none, .map none, .map none, .map none, .map none, .map none, .map none, .int .i64 0] 31)) b (.slice none 0 0) (lvs L) 0 L) :=
    Lib.hid ⟨[], rfl, by simp, by rw [← hb]; exact ⟨ns_new w (fun q e => by cases e), Lw.nil _, fun g hg => by cases hg⟩⟩
  have HB := Lib.hid hb
  clear hr0 h1
  go_enter Try.func3, Try.ntmps3
  go_wp2_with fail
  clear hb
  go_loopg [6, 7, 8] len0 (fun gk s6 s7 s8 wr => ∃ (i : Nat) (lv y8 : Value), i ≤ len0 ∧ gk = len0 - i ∧ s6 = lv ∧ s7 = .int .i64 (i : Nat) ∧ s8 = y8 ∧ Hid (∃ L : List Int, L.length = i ∧ (∀ x ∈ L, 0 ≤ x ∧ x < 9) ∧ Rf w wr b lv (lvs L) i L))
  case atStart => exact ⟨0, _, _, by omega, rfl, rfl, rfl, rfl, HS⟩
  case round =>
    obtain ⟨i, lv, y8, hi, rfl, hlv, rfl, rfl, HR⟩ := hrel
    obtain rfl := hlv.symm
    clear HS
    obtain ⟨L, hL, hx, hR⟩ := HR.out
    clear HR
    obtain ⟨po, cp, hlf⟩ := hR.row.form
    rw [hL] at hlf
    subst hlf
    by_cases hlt : i < len0
    · have hli : (i : Int) < len0 := by omega
      obtain ⟨b0, off0, rfl, c0, c1, c2⟩ := HI0.out.at' hR.ns.kp0 i hlt
      obtain ⟨v, hv⟩ : ∃ v, z0 i = v := ⟨_, rfl⟩
      rw [hv] at c0 c1 c2
      have HP := Lib.hid (place_any wr v 9 c1 c2 (by omega) (by omega))
      obtain ⟨x, hxx, hx1, hx2⟩ : ∃ x, v % 9 = x ∧ 0 ≤ x ∧ x < 9 := ⟨_, rfl, by omega, by omega⟩
      rw [hxx] at HP
      have HM := Lib.hid (ns_monitor hR.ns (a := x) (x := 3) (by unfold I64; omega) (by unfold I64; omega) (by omega))
      have HQ := Lib.hid (And.intro hR (And.intro hL (And.intro hx (And.intro hx1 hx2))))
      clear hv hxx hR hx hx1 hx2 c1 c2 hL
      go_wp2_with fail
      refine HP.out.mono ?_
      rintro e w' ⟨rfl, rfl⟩
      clear HP
      go_wp2_with fail
      refine HM.out.mono ?_
      rintro e w2 ht
      obtain ⟨rfl, -⟩ := id ht
      obtain ⟨g, cap, w3, hr3, hR3⟩ := (HQ.out.1.step ht).push (by rw [HQ.out.2.1]; omega) x
      rw [HQ.out.2.1] at hr3
      have HR3 := Lib.hid hr3
      have HF : Hid (∃ L : List Int, L.length = i + 1 ∧ (∀ x ∈ L, 0 ≤ x ∧ x < 9) ∧ Rf w w3 b (.slice (some ⟨g, 0, none⟩) (i + 1) cap) (lvs L) (i + 1) L) := by
        obtain ⟨h1, h2, h3, h4, h5⟩ := HQ.out
        refine Lib.hid ⟨L ++ [x], by rw [List.length_append, h2]; rfl, fun y hy => ?_, ?_⟩
        · rcases List.mem_append.1 hy with hy | hy
          · exact h3 y hy
          · simp at hy
            rw [hy]
            exact ⟨h4, h5⟩
        · rw [lvs_push h4, h2]
          rw [h2] at hR3
          exact hR3
      clear ht hr3 hR3 HM HQ c0
      have hii : ((i : Int) == (i : Int)) = true := by simp
      go_wp2_with (at_builtin; refine wpList_run rfl _ _ 32 rfl (.slice po i cp) (.slice (some ⟨w2.heap.size, 0, none⟩) 1 1) rfl rfl _ w3 HR3.out ?_)
      go_roundg (len0 - (i + 1))
      case measure => omega
      case rel => exact ⟨i + 1, _, _, by omega, rfl, rfl, by go_num, rfl, HF⟩
    · obtain rfl : i = len0 := by omega
      have hG : i ≤ 17592186043904 := hz0
      have HT : Hid (∃ L : List Int, L.length = i ∧ (∀ x ∈ L, -1 ≤ x ∧ x < 9) ∧ (lvs L).length = i ∧ Rf w wr b (.slice po i cp) (lvs L) i L) := by
        refine Lib.hid ⟨L, hL, fun x h => ⟨by have := hx x h; omega, (hx x h).2⟩, ?_, hR⟩
        unfold lvs
        rw [List.filter_eq_self.2, List.length_mapIdx, hL]
        intro m hm
        obtain ⟨j, hj, rfl⟩ := List.mem_mapIdx.1 hm
        have := hx _ (List.getElem_mem hj)
        simpa using this.1
      clear hR hx hL
      go_wp2_with fail
      go_loopg [9, 10, 11] len1 (fun gk s9 s10 s11 wr => ∃ (j ll : Nat) (y11 : Value), j ≤ len1 ∧ ll ≤ i ∧ gk = len1 - j ∧ s9 = .int .i64 (ll : Nat) ∧ s10 = .int .i64 (j : Nat) ∧ s11 = y11 ∧ Hid (∃ L : List Int, L.length = i ∧ (∀ x ∈ L, -1 ≤ x ∧ x < 9) ∧ (lvs L).length = ll ∧ Rf w wr b (.slice po i cp) (lvs L) i L))
      case atStart => exact ⟨0, i, _, by omega, Nat.le_refl _, rfl, rfl, rfl, rfl, HT⟩
      case round =>
        obtain ⟨j, ll, y11, hj, hll, rfl, rfl, rfl, rfl, HX⟩ := hrel
        clear HT
        obtain ⟨L, hL, hx, hlen, hR⟩ := HX.out
        clear HX
        by_cases hlt2 : j < len1 ∧ 0 < i
        · obtain ⟨hj1, hi0⟩ := hlt2
          have hji : (j : Int) < len1 := by omega
          have hi0i : (0 : Int) < i := by omega
          obtain ⟨b0, off0, rfl, c0, c1, c2⟩ := HI1.out.at' hR.ns.kp0 j hj1
          obtain ⟨v, hv⟩ : ∃ v, z1 j = v := ⟨_, rfl⟩
          rw [hv] at c0 c1 c2
          have HP := Lib.hid (place_vast wr v i c1 c2 (by omega) (by omega))
          obtain ⟨K, hK, hKi⟩ : ∃ K : Nat, v % i = K ∧ K < i := ⟨(v % i).toNat, by have := Int.emod_nonneg v (b := i) (by omega); omega, by have := Int.emod_lt_of_pos v hi0i; have := Int.emod_nonneg v (b := i) (by omega); omega⟩
          rw [hK] at HP
          obtain ⟨x, hxK⟩ : ∃ x, L[K]? = some x := ⟨_, List.getElem?_eq_getElem (by omega)⟩
          obtain ⟨hx1, hx2⟩ := hx x (List.mem_of_getElem? hxK)
          obtain ⟨g, cap, eg, q1, q2, q3⟩ := hR.row.get hxK
          obtain ⟨rfl, rfl⟩ : po = some ⟨g, 0, none⟩ ∧ cp = cap := by
            injection eg with eg1 _ eg2
            exact ⟨eg1, eg2⟩
          have hKii : (K : Int) < i := by omega
          have hfz := lk_row_fz hR.row
          have hKI : I64 (K : Nat) := by unfold I64; omega
          by_cases hneg : x < 0
          · have hd : demKind (lvs L) (K : Nat) 5 = 3 := by unfold demKind; rw [lvs_none hxK hneg]
            have HD := Lib.hid (ns_dem_bad hR.ns hKI 5 (by rw [hd]; decide))
            have HQ := Lib.hid (And.intro hL (And.intro hx (And.intro hlen hR)))
            clear hv hK c1 c2 hL hx hlen hR hxK eg q1 q2 hd hKI hx1 hx2
            go_wp2_with fail
            refine HP.out.mono ?_
            rintro e w' ⟨rfl, rfl⟩
            clear HP
            go_wp2_with fail
            refine HD.out.mono ?_
            rintro e w2 ⟨u, rfl, hu, hk2⟩
            obtain ⟨gu, rfl⟩ := hu.out.form
            have HF : Hid (∃ L : List Int, L.length = i ∧ (∀ x ∈ L, -1 ≤ x ∧ x < 9) ∧ (lvs L).length = ll ∧ Rf w w2 b (.slice (some ⟨g, 0, none⟩) i cp) (lvs L) i L) := Lib.hid ⟨L, HQ.out.1, HQ.out.2.1, HQ.out.2.2.1, HQ.out.2.2.2.same hk2⟩
            clear hu hk2 HD HQ c0 q3
            go_wp2_with fail
            go_roundg (len1 - (j + 1))
            case measure => omega
            case rel => exact ⟨j + 1, ll, _, by omega, hll, rfl, rfl, by go_num, rfl, HF⟩
          · have hx0 : 0 ≤ x := by omega
            have hmo := lvs_of hxK hx0 hR.ns.mok
            have hd : demKind (lvs L) (K : Nat) (x + 1) = 1 := by unfold demKind; rw [hmo]; exact if_neg (by show ¬ x = x + 1; omega)
            have HD := Lib.hid (ns_dem_bad hR.ns hKI (x + 1) (by rw [hd]; decide))
            have HD2 : Hid (∀ w2, Kp (fun _ => False) wr w2 → Calls Try.prog 9 #[.pointer (some ⟨b, 0, none⟩), .int .i64 (K : Nat), .int .i64 x] w2 (NsTo w (fun q => Value.ownBlock (.slice (some ⟨g, 0, none⟩) i cp) = some q) w2 b [] (butRef (lvs L) (K : Nat)) i .nilIface)) :=
              Lib.hid fun w2 hk2 => ns_dem_ok (m := ⟨(K : Nat), x, 3⟩) (hR.ns.same hk2) hKI hmo
            have hlc : (lvs (L.set K (-1))).length + 1 = ll := by
              rw [lvs_set hxK hx0, ← hlen]
              exact butRef_len hR.ns.mok (m := ⟨(K : Nat), x, 3⟩) (moOf_some hmo).1
            obtain ⟨l2, rfl⟩ : ∃ l2, ll = l2 + 1 := ⟨ll - 1, by omega⟩
            have HQ := Lib.hid (And.intro hL (And.intro hx (And.intro hlc (And.intro hR (And.intro hxK hx0)))))
            clear hv hK c1 c2 hL hx hlen hR hxK eg q1 q2 hd hKI hmo hlc
            go_wp2_with fail
            refine HP.out.mono ?_
            rintro e w' ⟨rfl, rfl⟩
            clear HP
            go_wp2_with fail
            refine HD.out.mono ?_
            rintro e w2 ⟨u, rfl, hu, hk2⟩
            obtain ⟨gu, rfl⟩ := hu.out.form
            have q4 : w2.cell? ⟨g, K, none⟩ = some (.int .i64 x) := (hk2.cell (p := ⟨g, K, none⟩) (World.block_lt_of_cell? _ _ q3) (fun e => e)).trans q3
            have HD3 := Lib.hid (HD2.out w2 hk2)
            have HK2 := Lib.hid hk2
            clear hu hk2 HD HD2 c0 q3 hfz
            go_wp2_with fail
            refine HD3.out.mono ?_
            rintro e w3 ht
            obtain ⟨rfl, -⟩ := id ht
            have hR3 := (HQ.out.2.2.2.1.same HK2.out).step ht
            rw [← lvs_set HQ.out.2.2.2.2.1 HQ.out.2.2.2.2.2] at hR3
            have hrow := hR3.row
            have hfz := lk_row_fz hrow
            have q5 : w3.cell? ⟨g, K, none⟩ = some (.int .i64 x) := by
              obtain ⟨g2, cap2, eg2, -, -, q6⟩ := hrow.get HQ.out.2.2.2.2.1
              injection eg2 with eg2
              injection eg2 with eg2
              injection eg2 with eg2
              rw [eg2]; exact q6
            have HF : Hid (∃ L : List Int, L.length = i ∧ (∀ x ∈ L, -1 ≤ x ∧ x < 9) ∧ (lvs L).length = l2 ∧ Rf w (w3.setCell ⟨g, K, none⟩ (.int .i64 (-1))) b (.slice (some ⟨g, 0, none⟩) i cp) (lvs L) i L) := by
              refine Lib.hid ⟨L.set K (-1), by rw [List.length_set]; exact HQ.out.1, fun y hy => ?_, by have := HQ.out.2.2.1; omega, ?_⟩
              · rcases List.mem_or_eq_of_mem_set hy with hy | hy
                · exact HQ.out.2.1 y hy
                · omega
              · have h5 := HQ.out.1
                subst h5
                exact hR3.set K (-1)
            clear ht hR3 hrow q4 HD3 HQ HK2
            go_wp2_with fail
            go_roundg (len1 - (j + 1))
            case measure => omega
            case rel => exact ⟨j + 1, l2, _, by omega, by omega, rfl, by go_num, by go_num, rfl, HF⟩
        · by_cases hj1 : j < len1
          · obtain rfl : i = 0 := by omega
            have hji : (j : Int) < len1 := by omega
            have HL := Lib.hid (ns_len hR.ns)
            rw [hlen] at HL
            have HQ := Lib.hid (And.intro hL (And.intro hlen hR))
            have hzi := hz0
            clear hL hx hlen hR hlt2
            go_wp2_with fail
            refine HL.out.mono ?_
            rintro e w2 ⟨rfl, hk2⟩
            have HW := Lib.hid (ns_watchers (HQ.out.2.2.ns.same hk2) (a := 3) (by unfold I64; omega))
            have HR2 := Lib.hid (HQ.out.2.2.same hk2)
            clear hk2 HL
            go_wp2_with fail
            refine HW.out.mono ?_
            rintro e w3 ⟨u, rfl, u1, u2, u3⟩
            obtain ⟨pu, cu, rfl⟩ := u1.form
            have hul : (obs (lvs L) 3).length = ll := (lvs_obs_len L).trans HQ.out.2.1
            rw [hul]
            have HM := Lib.hid (ns_monitor (HR2.out.ns.same u3) (a := 1) (x := 3) (by unfold I64; omega) (by unfold I64; omega) (by omega))
            have HR3 := Lib.hid (HR2.out.same u3)
            clear u1 u2 u3 hul HW HR2
            go_wp2_with fail
            refine HM.out.mono ?_
            rintro e w4 ht
            obtain ⟨rfl, -⟩ := id ht
            have HR4 := Lib.hid (HR3.out.step ht)
            have HA := Lib.hid (lkAwake_any w4)
            clear ht HM HR3
            go_wp2_with fail
            refine HA.out.mono ?_
            rintro e w5 ⟨rfl, hk5⟩
            have HF := Lib.hid (rf_end HR4.out hk5)
            clear hk5 HA HR4 HQ
            go_wp2_with fail
            go_ret
            exact ⟨rfl, HF.out⟩
          · have hji : ¬ (j : Int) < len1 := by omega
            have HL := Lib.hid (ns_len hR.ns)
            rw [hlen] at HL
            have HQ := Lib.hid (And.intro hL (And.intro hlen hR))
            have hzi := hz0
            clear hL hx hlen hR hlt2
            go_wp2_with fail
            refine HL.out.mono ?_
            rintro e w2 ⟨rfl, hk2⟩
            have HW := Lib.hid (ns_watchers (HQ.out.2.2.ns.same hk2) (a := 3) (by unfold I64; omega))
            have HR2 := Lib.hid (HQ.out.2.2.same hk2)
            clear hk2 HL
            go_wp2_with fail
            refine HW.out.mono ?_
            rintro e w3 ⟨u, rfl, u1, u2, u3⟩
            obtain ⟨pu, cu, rfl⟩ := u1.form
            have hul : (obs (lvs L) 3).length = ll := (lvs_obs_len L).trans HQ.out.2.1
            rw [hul]
            have HM := Lib.hid (ns_monitor (HR2.out.ns.same u3) (a := 1) (x := 3) (by unfold I64; omega) (by unfold I64; omega) (by omega))
            have HR3 := Lib.hid (HR2.out.same u3)
            clear u1 u2 u3 hul HW HR2
            go_wp2_with fail
            refine HM.out.mono ?_
            rintro e w4 ht
            obtain ⟨rfl, -⟩ := id ht
            have HR4 := Lib.hid (HR3.out.step ht)
            have HA := Lib.hid (lkAwake_any w4)
            clear ht HM HR3
            go_wp2_with fail
            refine HA.out.mono ?_
            rintro e w5 ⟨rfl, hk5⟩
            have HF := Lib.hid (rf_end HR4.out hk5)
            clear hk5 HA HR4 HQ
            go_wp2_with fail
            go_ret
            exact ⟨rfl, HF.out⟩

set_option maxRecDepth 100000 in
theorem lifted (os : Os) (started : os.Started) (H : Type) (enc : TypeId × Value → H) :
    ReturnsInHanded {} Try.checked os 3 .any (Rows.linksRefsSpec.pre6 enc Try.prog Try.f3 Rows.linksRefsRow.domain false) (Rows.linksRefsSpec.post enc Try.prog Try.f3 false true false false) := by
  refine returnsInHanded_of_change_sized (C := Try.checked) own started (by kernel_rfl) Try.func3
    (ChangeSpec.witness6 (enc := enc) (C := Try.checked) false ⟨#[], #[.slice none 0 0, .slice none 0 0], []⟩ 8 (by kernel_rfl) (by kernel_rfl) (by kernel_rfl) (by kernel_rfl)) ?_
  intro W base args ds gs before hval0 hW hcnd hsz0 _
  have hval : ∀ (j : Nat) t v, Try.f3.params[j]? = some t → args[j]? = some v → Value.okWide Try.prog W .any base t v := hval0
  have hW' := hW
  obtain ⟨p, q, hA0, hV, rfl, hfz, hnd⟩ := hW
  have hA : DataW.TrodAll enc Try.prog W 0 (fun _ => true) true Try.f3.params.toList args.toList ds p := hA0
  rw [Try.params3] at hA hval
  obtain ⟨v0, vs0, d0, ds0, p0, q0, hargs, rfl, rfl, h0, r0⟩ := trodAll_cons hA
  obtain ⟨v1, vs1, d1, ds1, p1, q1, rfl, rfl, rfl, h1, r1⟩ := trodAll_cons r0
  obtain ⟨rfl, rfl, rfl⟩ := trodAll_nil r1
  obtain rfl : args = #[v0, v1] := by cases args; simp_all
  obtain ⟨rfl, rfl⟩ := trodVars_none hV
  have hsz : ∀ (j : Nat) t d, ((Try.f3.params.toList) : List TypeId)[j]? = some t → [d0, d1][j]? = some d → ∀ n ∈ d.weights Try.prog t, n ≤ reachBytes := fun j t d ht hd n hn => of_decide_eq_true (List.all_eq_true.1 hsz0 n (DataW.weights_mem_each (j := j) (List.getElem?_append_left (List.getElem?_eq_some_iff.1 ht).1 ▸ ht) (List.getElem?_append_left (List.getElem?_eq_some_iff.1 hd).1 ▸ hd) n hn))
  clear hsz0
  obtain ⟨a0, len0, cap0, rfl⟩ := okWide_slice Try.underlying22 (hval 0 22 v0 rfl rfl)
  have k0 := h0
  have lt0 : ∀ x ∈ p0, x.block < W.heap.size := by obtain ⟨m, hm⟩ := k0; exact DataW.trod_lt m _ _ _ hm
  obtain ⟨z0, w0⟩ : ∃ zs : Nat → Int, InRowZ W a0 len0 zs := by
    obtain ⟨fuel, hf⟩ := h0
    obtain ⟨po, l, cc, zs, hcs, hle⟩ := opened_intsz Try.underlying22 Try.underlying3 (by kernel_rfl) (by kernel_rfl) (hsz 0 _ _ rfl rfl) hf
    injection hcs with e1 e2 e3
    subst e1 e2 e3
    exact ⟨zs, hle⟩
  obtain ⟨a1, len1, cap1, rfl⟩ := okWide_slice Try.underlying22 (hval 1 22 v1 rfl rfl)
  have k1 := h1
  have lt1 : ∀ x ∈ p1, x.block < W.heap.size := by obtain ⟨m, hm⟩ := k1; exact DataW.trod_lt m _ _ _ hm
  obtain ⟨z1, w1⟩ : ∃ zs : Nat → Int, InRow W a1 len1 zs := by
    obtain ⟨fuel, hf⟩ := h1
    rcases open_ints Try.underlying22 Try.underlying3 (by kernel_rfl) hf with ⟨hcs, _⟩ | ⟨x, l, c, zs, hcs, _, hl, hm, hz, _, hcell, hwz⟩
    · simp [Value.cells] at hcs
      obtain ⟨rfl, rfl, rfl⟩ := hcs
      exact ⟨fun _ => 0, by unfold InRow; exact ⟨by omega, fun k hk => by omega⟩⟩
    · simp [Value.cells] at hcs
      obtain ⟨rfl, rfl, rfl⟩ := hcs
      exact ⟨_, inRow_of (zs := zs) (.inr ⟨_, rfl, hl, hm, by simpa using hz, hcell, hwz⟩)⟩
  clear hA0 hval0
  refine (walk a0 len0 cap0 z0 a1 len1 cap1 z1 W w0 w1).mono fun e W' ⟨he, bel⟩ => ?_
  subst he
  exact ⟨_, rfl, _, _, _, [], _, [], hW', trodAll_mk1 (shut_bool Try.underlying4 _), (trodAll_cons_mk (Below.trod laidOut (by kernel_rfl) (of_decide_eq_true (by kernel_rfl)) k0 bel lt0) (trodAll_cons_mk (Below.trod laidOut (by kernel_rfl) (of_decide_eq_true (by kernel_rfl)) k1 bel lt1) trodAll_mk0)), rfl, bel.frame _, fun h => by cases h⟩

theorem over : Rows.linksRefsRow.holds Try.pinned (OpenSpec.ofChange Rows.linksRefsSpec) :=
  OpenClaim.holds_of_wide 3 Try.f3 rfl rfl rfl rfl rfl rfl rfl ⟨rfl, rfl, rfl, rfl, rfl⟩ rfl rfl rfl rfl rfl (by kernel_rfl) Try.func3 (by kernel_rfl)
    (of_decide_eq_true (by kernel_rfl)) (by unfold Func.isWrapper; first | (rw [if_pos (by decide +kernel)]; kernel_rfl) | (rw [if_neg (by decide +kernel)]; exact ⟨rfl, rfl⟩))
    (fun os started H enc _ => lifted os started H enc)

theorem proved : Rows.LinksRefsSaid := over
#print axioms proved
end Go.Proofs.Ytmfhmnlgffgcgaa.linksRefs
