/- skerryref16.Order: every list of texts. (Written by tools/gen_vrord.py.) -/
import Derived.Test.YtghhlcacnggjhaaVLL
import Derived.Test.YtghhlcacnggjhaaVIns
import Derived.Test.YtghhlcacnggjhaaVRAbo
import Derived.Test.YtghhlcacnggjhaaVKeeps
namespace Go.Proofs.Ytghhlcacnggjhaa
open Go.RowKit Go.Shelf
set_option linter.unusedVariables false
set_option maxRecDepth 100000

theorem getD_mem {α : Type} {l : List (List α)} {j : Nat} (h : j < l.length) : l[j]?.getD [] ∈ l := by
  rw [List.getElem?_eq_getElem h]
  exact List.getElem_mem _

theorem take_jn (l : List (List (List UInt8))) {t : Nat} (h : t < l.length) : (l.map jn).take t ++ [jn (l[t]?.getD [])] = (l.map jn).take (t + 1) := by
  rw [List.take_add_one, List.getElem?_map, List.getElem?_eq_getElem h]
  rfl

/-- The last step of a round: the rest of the elder list behind the new one. -/
theorem rest_app {w u0 : World} {a : Option Addr} {n c Bm : Nat} {zs : List (Value × List (List UInt8))} (hz : LLI u0 a n c zs) (hB : u0.heap.size = Bm) {ax : Option Addr} {cx : Nat} {ns : List (List UInt8)} (hx : HasS u0 ax ns.length ns) {w1 : World} {a1 : Option Addr} {c1 k k' : Nat}
    (ho : OwnL Bm w1 a1 (k + 1) c1 ((zs.map (·.1)).take k ++ [.slice ax ns.length cx])) (hb : Below Bm u0 w1) (hw : Below w.heap.size w u0) (hk : k' ≤ n) (hn : k + 1 + (n - k') ≤ 8796093022208) (q : Nat) :
    ∃ a4 c4 a3 c3 w3, (∀ w, (Instr.slice 49 (.slice a n c) (some (.int .i64 (k' : Int))) none none).run Try.prog w = .ok (.slice a4 (n - k') c4) w) ∧ (∀ ty, (Builtin.append_ #[49, 49] ty #[.slice a1 (k + 1) c1, .slice a4 (n - k') c4]).run Try.prog (w1.drewN q) = .ok (.slice a3 (k + 1 + (n - k')) c3) w3) ∧ LLI w3 a3 (k + 1 + (n - k')) c3 (zs.take k ++ (.slice ax ns.length cx, ns) :: zs.drop k') ∧ Below w.heap.size w w3 := by
  have hbd : Below Bm u0 (w1.drewN q) := ⟨hb.os, hb.tape, hb.output, hb.size, hb.block⟩
  have hz1 := hz.below hbd (by omega)
  obtain ⟨a4, c4, R4, h4⟩ := run_cutL hz1.2.1 hz1.1 hk
  have ho1 : OwnL Bm (w1.drewN q) a1 (k + 1) c1 ((zs.map (·.1)).take k ++ [.slice ax ns.length cx]) := ho
  obtain ⟨a3, c3, w3, R3, o3, b3⟩ := run_appL ho1 (by have := hbd.size; omega) c4 h4 (fun v hv => hz.one v (List.mem_of_mem_drop hv)) hn
  have hb3 : Below u0.heap.size u0 w3 := by rw [hB]; exact hbd.trans b3
  exact ⟨a4, c4, a3, c3, w3, R4, R3, hz.ins hb3 hx o3, hw.trans (hb3.mono hw.size)⟩

set_option maxHeartbeats 8000000 in
theorem rorder_any (a0 : Option Addr) (N c0 : Nat) (xs : List (List UInt8)) (w : World) (h : HasS w a0 N xs) (hN : N ≤ 8796093021952) (hm : ∀ j : Nat, (xs[j]?.getD []).length ≤ 9223372036854775807) :
    Calls Try.prog 19 #[.slice a0 N c0] w fun e w' => (∃ a' c' ys E, e = .returned (.tuple #[.slice a' ys.length c', .int .i64 E]) ∧ OrdR xs ys E ∧ HasS w' a' ys.length ys) ∧ Below w.heap.size w w' := by
  have HH := hide h
  have HM := hide hm
  have hlen := h.1
  have HO : Hid (LLI w none 0 0 [] ∧ RoI xs 0 [] ∧ (∀ j, j < 0 → okP (xs[j]?.getD [])) ∧ Below w.heap.size w w) := ⟨⟨Nat.le_refl _, ⟨rfl, fun h => by omega⟩, fun z hz => by cases hz⟩, RoI.start xs, fun j hj => by omega, Below.refl _ _⟩
  clear h hm
  go_enter Try.func19, Try.ntmps19
  go_wp2_with fail
  go_loopw [4, 5] (fun l iv wr => ∃ a n c i zs, l = .slice a n c ∧ iv = .int .i64 ((i : Nat) : Int) ∧ i ≤ N ∧ Hid (LLI wr a n c zs ∧ RoI xs i (zs.map (·.2)) ∧ (∀ j, j < i → okP (xs[j]?.getD [])) ∧ Below w.heap.size w wr)) (fun _ iv _ => N - (intOf iv).toNat)
  case atStart => exact ⟨none, 0, 0, 0, [], rfl, rfl, Nat.zero_le _, HO⟩
  case round =>
    clear HO
    obtain ⟨a, n, c, i, zs, rfl, rfl, hi, hI⟩ := hrel
    obtain ⟨hZ, hR, hOK, hBw⟩ := hI.out
    have hzl := hZ.len
    have hni : n ≤ i := by have := hR.2.2.2; simp at this; omega
    by_cases hlt : i < N
    · obtain ⟨bx0, ox0, ha0, hcx⟩ := (HH.out.below hBw (Nat.le_refl _)).cell hlt
      unfold sv at hcx
      have hp := HM.out i
      have hlt' : (i : Int) < (N : Int) := by omega
      cases hsp : spl (xs[i]?.getD []) with
      | none =>
        have K := hide (rsplit_no wr hp hsp)
        have hno : ¬ ∀ p ∈ xs, okP p := fun hall => by
          have := hall (xs[i]?.getD []) (getD_mem (by omega))
          unfold okP at this
          rw [hsp] at this
          cases this
        have HF : Hid (OrdR xs [] 16) := .inr ⟨hno, rfl, rfl⟩
        have HB := hide hBw
        clear hI hZ hR hOK hBw hsp HH HM hp hzl
        subst ha0
        generalize St (xs[i]?.getD []) = sx at *
        go_wp2_with fail
        refine (unhide K).mono ?_
        rintro e w1 ⟨⟨y, cy, rfl⟩, hb⟩
        have HB := hide (HB.out.trans (hb.mono HB.out.size))
        clear K hb hcx
        go_wp2_with fail
        go_ret2
        exact ⟨⟨none, 0, [], 16, rfl, HF.out, HasS.nil _ _⟩, HB.out⟩
      | some ns =>
        have K := hide (rsplit_yes wr hsp)
        have hn16 : ns.length ≤ 16 := ((okN_iff ns).1 (spl_some hsp).1).1
        have HOK' : Hid (∀ j, j < i + 1 → okP (xs[j]?.getD [])) := by
          intro j hj
          by_cases e : j = i
          · subst e; unfold okP; rw [hsp]; rfl
          · exact hOK j (by omega)
        have HI0 : Hid (LLI wr a n c zs ∧ Below w.heap.size w wr) := ⟨hZ, hBw⟩
        have HR := hide hR
        have hsp' := hide hsp
        clear hI hZ hR hOK hBw hp hsp
        subst ha0
        generalize St (xs[i]?.getD []) = sx at *
        go_wp2_with fail
        refine (unhide K).mono ?_
        rintro e u0 ⟨ax, cx, rfl, ho, hb⟩
        have HZ := hide (HI0.out.1.below hb (Nat.le_refl _))
        have HNS := hide ho.has
        have HBw : Hid (Below w.heap.size w u0) := HI0.out.2.trans (hb.mono HI0.out.2.size)
        clear K hb ho HI0 hcx
        generalize hBm : u0.heap.size = Bm at *
        have HS0 : Hid (OwnL Bm u0 none 0 0 ((zs.map (·.1)).take 0) ∧ Below Bm u0 u0 ∧ ∀ j, j < 0 → cmN ((zs.map (·.2))[j]?.getD []) ns < 0) := ⟨OwnL.nil _ _, Below.refl _ _, fun j hj => by omega⟩
        have hBm' := hide hBm
        clear hBm
        go_wp2_with fail
        go_loopw [8, 9] (fun mv kv wi => ∃ am cm k, mv = .slice am k cm ∧ kv = .int .i64 ((k : Nat) : Int) ∧ k ≤ n ∧ Hid (OwnL Bm wi am k cm ((zs.map (·.1)).take k) ∧ Below Bm u0 wi ∧ ∀ j, j < k → cmN ((zs.map (·.2))[j]?.getD []) ns < 0)) (fun _ kv _ => n - (intOf kv).toNat)
        case atStart => exact ⟨none, 0, 0, rfl, rfl, Nat.zero_le _, HS0⟩
        case round =>
          clear HS0
          obtain ⟨am, cm, k, rfl, rfl, hk, HX⟩ := hrel
          have hBm := hBm'.out
          have hsp := hsp'.out
          by_cases hkn0 : k < n
          · obtain ⟨g, o, b, kk, d, hal, hcell, hhs, hvs⟩ := (HZ.out.below (hBm ▸ HX.out.2.1) (Nat.le_refl _)).cell hkn0
            have hkk : kk ≤ 16 := by
              rw [← hhs.1]
              exact ((okN_iff _).1 (HR.out.2.1 _ (getD_mem (by simp; omega)))).1
            have KB := before_any b ax kk d ns.length cx ((zs.map (·.2))[k]?.getD []) ns _ hhs (HNS.out.below (hBm ▸ HX.out.2.1) (Nat.le_refl _)) (by omega) (by omega)
            have hkn0' : (k : Int) < (n : Int) := by omega
            cases hq : decide (cmN ((zs.map (·.2))[k]?.getD []) ns < 0) with
            | true =>
              rw [hq] at KB
              have KB := hide KB
              subst hal
              have hlow : ∀ j, j < k + 1 → cmN ((zs.map (·.2))[j]?.getD []) ns < 0 := by
                intro j hj
                by_cases e : j = k
                · subst e; simpa using hq
                · exact HX.out.2.2 j (by omega)
              have HA : Hid (∀ q, ∃ a2 c2 w2, (∀ ty, (Builtin.append_ #[49, 49] ty #[.slice am k cm, .slice (some ⟨(wr.drewN q).heap.size, 0, none⟩) 1 1]).run Try.prog ((wr.drewN q).alloc (.cells #[.slice b kk d] 22)) = .ok (.slice a2 (k + 1) c2) w2) ∧ OwnL Bm w2 a2 (k + 1) c2 ((zs.map (·.1)).take (k + 1)) ∧ Below Bm u0 w2) := by
                intro q
                have hO : OwnL Bm (wr.drewN q) am k cm ((zs.map (·.1)).take k) := HX.out.1
                have hB : Below Bm u0 (wr.drewN q) := ⟨HX.out.2.1.os, HX.out.2.1.tape, HX.out.2.1.output, HX.out.2.1.size, HX.out.2.1.block⟩
                obtain ⟨a2, c2, w2, r, o2, b2⟩ := app1L hO (by have := hB.size; omega) b kk d (by omega)
                have e : (zs.map (·.1)).take k ++ [.slice b kk d] = (zs.map (·.1)).take (k + 1) := by rw [List.take_add_one, hvs]; rfl
                rw [e] at o2
                exact ⟨a2, c2, w2, r, o2, hB.trans b2⟩
              have HL := hide hlow
              clear hhs hkk HX hq hlow hvs hBm hsp
              go_wp2_with fail
              refine (unhide KB).mono ?_
              rintro e w2 ⟨rfl, q, rfl⟩
              obtain ⟨a2, c2, w3, R2, o2, b2⟩ := HA.out q
              have R2 := hide R2
              have HN : Hid (OwnL Bm w3 a2 (k + 1) c2 ((zs.map (·.1)).take (k + 1)) ∧ Below Bm u0 w3 ∧ ∀ j, j < k + 1 → cmN ((zs.map (·.2))[j]?.getD []) ns < 0) := ⟨o2, b2, HL.out⟩
              have hcell' : (wr.drewN q).cell? ⟨g, o + k, none⟩ = some (.slice b kk d) := hcell
              clear KB HA o2 b2 HL hcell
              generalize wr.drewN q = w2 at *
              go_wp2_with (at_builtin; refine wpList_append_run 49 rfl _ _ rfl _ _ _ rfl rfl (unhide R2) ?_; clear R2)
              go_roundw
              case rel => exact ⟨a2, c2, k + 1, rfl, by go_num, by omega, HN⟩
              case measure => simp [intOf]; omega
            | false =>
              rw [hq] at KB
              have KB := hide KB
              have HEX : Hid (k < n → ¬ cmN ((zs.map (·.2))[k]?.getD []) ns < 0) := fun _ => by simpa using hq
              subst hal
              clear hhs hkk hq hvs
              go_wp2_with fail
              refine (unhide KB).mono ?_
              rintro e w2 ⟨rfl, q, rfl⟩
              have HX : Hid (OwnL Bm (wr.drewN q) am k cm ((zs.map (·.1)).take k) ∧ Below Bm u0 (wr.drewN q) ∧ ∀ j, j < k → cmN ((zs.map (·.2))[j]?.getD []) ns < 0) := ⟨HX.out.1, ⟨HX.out.2.1.os, HX.out.2.1.tape, HX.out.2.1.output, HX.out.2.1.size, HX.out.2.1.block⟩, HX.out.2.2⟩
              clear KB hcell
              generalize wr.drewN q = w2 at *
              have hkn := hkn0
              -- behind the inner loop: mark HX : OwnL, Below, low; HEX: the list ends here, or its next does not stand ahead
              obtain ⟨a1, c1, w1, R1, o1, b1⟩ := app1L HX.out.1 (by have := HX.out.2.1.size; omega) ax ns.length cx (by omega)
              have hb1 : Below Bm u0 w1 := HX.out.2.1.trans b1
              have H1 : Hid (OwnL Bm w1 a1 (k + 1) c1 ((zs.map (·.1)).take k ++ [.slice ax ns.length cx]) ∧ Below Bm u0 w1) := ⟨o1, hb1⟩
              have R1 := hide R1
              clear o1 b1 hb1
              obtain ⟨g', o', b', kk', d', hal', hcell', hhs', _⟩ := (HZ.out.below (hBm ▸ H1.out.2) (Nat.le_refl _)).cell hkn
              cases hal'
              have hkk' : kk' ≤ 16 := by
                rw [← hhs'.1]
                exact ((okN_iff _).1 (HR.out.2.1 _ (getD_mem (by simp; omega)))).1
              have KB := before_any ax b' ns.length cx kk' d' ns ((zs.map (·.2))[k]?.getD []) w1 (HNS.out.below (hBm ▸ H1.out.2) (Nat.le_refl _)) hhs' (by omega) (by omega)
              have hkn' : (k : Int) < (n : Int) := by omega
              cases hq : decide (cmN ns ((zs.map (·.2))[k]?.getD []) < 0) with
              | true =>
                rw [hq] at KB
                have KB := hide KB
                have h3 : (k = k + 1 ∧ k < (zs.map (·.2)).length ∧ ¬ cmN ns ((zs.map (·.2))[k]?.getD []) < 0) ∨ (k = k ∧ (k < (zs.map (·.2)).length → cmN ns ((zs.map (·.2))[k]?.getD []) < 0)) := .inr ⟨rfl, fun _ => by simpa using hq⟩
                have HN := hide (HR.out.next (by omega) hsp (k := k) (k' := k) (by simp; omega) HX.out.2.2 (fun h => by have := HEX.out (by simpa [hzl] using h); omega) h3)
                have HA : Hid (∀ q, ∃ a4 c4 a3 c3 w3, (∀ w, (Instr.slice 49 (.slice (some ⟨g, o, none⟩) n c) (some (.int .i64 (k : Int))) none none).run Try.prog w = .ok (.slice a4 (n - k) c4) w) ∧ (∀ ty, (Builtin.append_ #[49, 49] ty #[.slice a1 (k + 1) c1, .slice a4 (n - k) c4]).run Try.prog (w1.drewN q) = .ok (.slice a3 (k + 1 + (n - k)) c3) w3) ∧ LLI w3 a3 (k + 1 + (n - k)) c3 (zs.take k ++ (.slice ax ns.length cx, ns) :: zs.drop k) ∧ Below w.heap.size w w3) := fun q => rest_app HZ.out hBm HNS.out H1.out.1 H1.out.2 HBw.out (by omega) (by omega) q
                clear hhs' hkk' HX HEX h3 hq HR HZ HNS H1
                go_wp2_with (at_builtin; refine wpList_append_run 49 rfl _ _ rfl _ _ _ rfl rfl (unhide R1) ?_; clear R1)
                refine (unhide KB).mono ?_
                rintro e w2 ⟨rfl, q, rfl⟩
                obtain ⟨a4, c4, a3, c3, w3, R4, R3, hll, hbw⟩ := HA.out q
                have R3 := hide R3
                have hcut := R4
                clear KB HA R4
                generalize w1.drewN q = w2 at *
                go_wp2_with (at_builtin; refine wpList_append_run 49 rfl _ _ rfl _ _ _ rfl rfl (unhide R3) ?_; clear R3)
                go_roundw
                case rel => exact ⟨a3, k + 1 + (n - k), c3, i + 1, _, rfl, by go_num, by omega, hll, by simpa [List.map_take, List.map_drop] using HN.out, HOK'.out, hbw⟩
                case measure => simp [intOf]; omega
              | false =>
                rw [hq] at KB
                have KB := hide KB
                have h3 : (k + 1 = k + 1 ∧ k < (zs.map (·.2)).length ∧ ¬ cmN ns ((zs.map (·.2))[k]?.getD []) < 0) ∨ (k + 1 = k ∧ (k < (zs.map (·.2)).length → cmN ns ((zs.map (·.2))[k]?.getD []) < 0)) := .inl ⟨rfl, by simp; omega, by simpa using hq⟩
                have HN := hide (HR.out.next (by omega) hsp (k := k) (k' := k + 1) (by simp; omega) HX.out.2.2 (fun h => by have := HEX.out (by simpa [hzl] using h); omega) h3)
                have HA : Hid (∀ q, ∃ a4 c4 a3 c3 w3, (∀ w, (Instr.slice 49 (.slice (some ⟨g, o, none⟩) n c) (some (.int .i64 ((k + 1 : Nat) : Int))) none none).run Try.prog w = .ok (.slice a4 (n - (k + 1)) c4) w) ∧ (∀ ty, (Builtin.append_ #[49, 49] ty #[.slice a1 (k + 1) c1, .slice a4 (n - (k + 1)) c4]).run Try.prog (w1.drewN q) = .ok (.slice a3 (k + 1 + (n - (k + 1))) c3) w3) ∧ LLI w3 a3 (k + 1 + (n - (k + 1))) c3 (zs.take k ++ (.slice ax ns.length cx, ns) :: zs.drop (k + 1)) ∧ Below w.heap.size w w3) := fun q => rest_app HZ.out hBm HNS.out H1.out.1 H1.out.2 HBw.out (by omega) (by omega) q
                clear hhs' hkk' HX HEX h3 hq HR HZ HNS H1
                go_wp2_with (at_builtin; refine wpList_append_run 49 rfl _ _ rfl _ _ _ rfl rfl (unhide R1) ?_; clear R1)
                refine (unhide KB).mono ?_
                rintro e w2 ⟨rfl, q, rfl⟩
                obtain ⟨a4, c4, a3, c3, w3, R4, R3, hll, hbw⟩ := HA.out q
                have R3 := hide R3
                have hcut : ∀ w, (Instr.slice 49 (.slice (some ⟨g, o, none⟩) n c) (some (.int .i64 ((k : Int) + 1))) none none).run Try.prog w = .ok (.slice a4 (n - (k + 1)) c4) w := R4
                clear KB HA R4
                generalize w1.drewN q = w2 at *
                go_wp2_with (at_builtin; refine wpList_append_run 49 rfl _ _ rfl _ _ _ rfl rfl (unhide R3) ?_; clear R3)
                go_roundw
                case rel => exact ⟨a3, k + 1 + (n - (k + 1)), c3, i + 1, _, rfl, by go_num, by omega, hll, by simpa [List.map_take, List.map_drop] using HN.out, HOK'.out, hbw⟩
                case measure => simp [intOf]; omega
          · have HEX : Hid (k < n → ¬ cmN ((zs.map (·.2))[k]?.getD []) ns < 0) := fun h => absurd h hkn0
            -- behind the inner loop: mark HX : OwnL, Below, low; HEX: the list ends here, or its next does not stand ahead
            obtain ⟨a1, c1, w1, R1, o1, b1⟩ := app1L HX.out.1 (by have := HX.out.2.1.size; omega) ax ns.length cx (by omega)
            have hb1 : Below Bm u0 w1 := HX.out.2.1.trans b1
            have H1 : Hid (OwnL Bm w1 a1 (k + 1) c1 ((zs.map (·.1)).take k ++ [.slice ax ns.length cx]) ∧ Below Bm u0 w1) := ⟨o1, hb1⟩
            have R1 := hide R1
            clear o1 b1 hb1
            obtain rfl : k = n := by omega
            have hkn' : decide ((k : Int) < (k : Int)) = false := by simp
            have h3 : (k = k + 1 ∧ k < (zs.map (·.2)).length ∧ ¬ cmN ns ((zs.map (·.2))[k]?.getD []) < 0) ∨ (k = k ∧ (k < (zs.map (·.2)).length → cmN ns ((zs.map (·.2))[k]?.getD []) < 0)) := .inr ⟨rfl, fun h => by simp at h; omega⟩
            have HN := hide (HR.out.next (by omega) hsp (k := k) (k' := k) (by simp; omega) HX.out.2.2 (fun h => by simp [hzl] at h) h3)
            obtain ⟨a4, c4, a3, c3, w3, R4, R3, hll, hbw⟩ := rest_app (k' := k) HZ.out hBm HNS.out H1.out.1 H1.out.2 HBw.out (by omega) (by omega) 0
            have R3 : Hid (∀ ty, (Builtin.append_ #[49, 49] ty #[.slice a1 (k + 1) c1, .slice a4 (k - k) c4]).run Try.prog w1 = .ok (.slice a3 (k + 1 + (k - k)) c3) w3) := R3
            clear HX HEX h3 HR HZ HNS H1
            generalize hkk : k - k = k0 at *
            go_wp2_with (at_builtin; first | (refine wpList_append_run 49 rfl _ _ rfl _ _ _ rfl rfl (unhide R1) ?_; clear R1) | (refine wpList_append_run 49 rfl _ _ rfl _ _ _ rfl rfl (unhide R3) ?_; clear R3))
            go_roundw
            case rel => exact ⟨a3, k + 1 + k0, c3, i + 1, _, rfl, by go_num, by omega, hll, by simpa [List.map_take, List.map_drop] using HN.out, HOK'.out, hbw⟩
            case measure => simp [intOf]; omega
    · obtain rfl : i = N := by omega
      have hall : ∀ p ∈ xs, okP p := by
        intro p hp
        obtain ⟨j, hj, rfl⟩ := List.getElem_of_mem hp
        have := hOK j (by omega)
        rwa [List.getElem?_eq_getElem hj] at this
      have hR' : RoI xs xs.length (zs.map (·.2)) := by rw [hlen]; exact hR
      have HD : Hid (OrdR xs ((zs.map (·.2)).map jn) 0) := .inl ⟨hall, hR'.done hall, rfl⟩
      have HZ := hide hZ
      have HBw := hide hBw
      have HK := hide hR.2.1
      have HS0 : Hid (OwnS wr.heap.size wr none 0 0 (((zs.map (·.2)).map jn).take 0) ∧ Below wr.heap.size wr wr) := ⟨OwnS.nil _ _, Below.refl _ _⟩
      have hyl : ((zs.map (·.2)).map jn).length = n := by simpa using hzl
      clear hI hZ hR hOK hBw hall hR' HH HM
      obtain ⟨U0, hU0⟩ : ∃ U0, U0 = wr := ⟨_, rfl⟩
      rw [← hU0] at HS0 HZ HBw
      rw [← hU0]
      clear hU0
      generalize hBo : U0.heap.size = Bo at HS0
      go_wp2_with fail
      go_loopw [10, 11] (fun l iv wt => ∃ ao co t, l = .slice ao t co ∧ iv = .int .i64 ((t : Nat) : Int) ∧ t ≤ n ∧ Hid (OwnS Bo wt ao t co (((zs.map (·.2)).map jn).take t) ∧ Below Bo U0 wt)) (fun _ iv _ => n - (intOf iv).toNat)
      case atStart => exact ⟨none, 0, 0, rfl, rfl, Nat.zero_le _, HS0⟩
      case round =>
        clear HS0
        obtain ⟨ao, co, t, rfl, rfl, ht, HX⟩ := hrel
        by_cases htn : t < n
        · obtain ⟨g, o, b, kk, d, hal, hcell, hhs, _⟩ := (HZ.out.below (hBo ▸ HX.out.2) (Nat.le_refl _)).cell htn
          subst hal
          have htl : t < (zs.map (·.2)).length := by rw [List.length_map]; omega
          have hok := HK.out _ (getD_mem htl)
          have KJ := rjoin_ok b d _ hok (by rw [hhs.1]; exact hhs)
          rw [hhs.1] at KJ
          have hye : ((zs.map (·.2)).map jn).take t ++ [jn ((zs.map (·.2))[t]?.getD [])] = ((zs.map (·.2)).map jn).take (t + 1) := by
            exact take_jn _ htl
          have HA : Hid (∀ w1, Below wr.heap.size wr w1 → ∃ a2 c2 w2, (∀ ty, (Builtin.append_ #[22, 22] ty #[.slice ao t co, .slice (some ⟨w1.heap.size, 0, none⟩) 1 1]).run Try.prog (w1.alloc (.cells #[.string (St (jn ((zs.map (·.2))[t]?.getD [])))] 9)) = .ok (.slice a2 (t + 1) c2) w2) ∧ OwnS Bo w2 a2 (t + 1) c2 (((zs.map (·.2)).map jn).take (t + 1)) ∧ Below Bo U0 w2) := by
            intro w1 hb
            have hs2 := HX.out.2.size
            have hO := HX.out.1.below hb (Nat.le_refl _)
            have hB : Below Bo U0 w1 := HX.out.2.trans (hb.mono (by omega))
            obtain ⟨a2, c2, w2, r, o2, _, b2⟩ := app1S hO (by have := hB.size; omega) (jn ((zs.map (·.2))[t]?.getD [])) (by omega)
            rw [hye] at o2
            exact ⟨a2, c2, w2, r, o2, hB.trans b2⟩
          have KJ := hide KJ
          have htn' : (t : Int) < (n : Int) := by omega
          have hBo' := hide hBo
          clear hhs hok hye HX hBo
          generalize St (jn ((zs.map (·.2))[t]?.getD [])) = sj at *
          go_wp2_with fail
          refine (unhide KJ).mono ?_
          rintro e w1 ⟨rfl, hb⟩
          obtain ⟨a2, c2, w2, R2, o2, b2⟩ := HA.out w1 hb
          have R2 := hide R2
          have HN : Hid (OwnS Bo w2 a2 (t + 1) c2 (((zs.map (·.2)).map jn).take (t + 1)) ∧ Below Bo U0 w2) := ⟨o2, b2⟩
          clear KJ hb HA o2 b2 hcell
          go_wp2_with (at_builtin; refine wpList_append_run 22 rfl _ _ rfl _ _ _ rfl rfl (unhide R2) ?_; clear R2)
          go_roundw
          case rel => exact ⟨a2, c2, t + 1, rfl, by go_num, by omega, HN⟩
          case measure => simp [intOf]; omega
        · obtain rfl : t = n := by omega
          have hO := HX.out.1
          rw [List.take_of_length_le (by omega)] at hO
          have HE : Hid (HasS wr ao t ((zs.map (·.2)).map jn) ∧ Below w.heap.size w wr) := ⟨hO.has, HBw.out.trans ((hBo ▸ HX.out.2).mono HBw.out.size)⟩
          clear hO HX HZ HK HBw hBo
          have hyl' := hide hyl
          clear hyl
          go_wp2_with fail
          go_ret2
          refine ⟨⟨ao, co, (zs.map (·.2)).map jn, 0, ?_, HD.out, ?_⟩, HE.out.2⟩
          · exact congrArg (fun m => Ending.returned (.tuple #[.slice ao m co, .int .i64 0])) hyl'.out.symm
          · rw [hyl'.out]; exact HE.out.1

end Go.Proofs.Ytghhlcacnggjhaa
