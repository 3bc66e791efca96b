/- Joined: KOut, KAll. -/
import Derived.Test.YtdkicniciciobaaGreatDoorOkKNew
import Derived.Test.YtdkicniciciobaaGreatDoorOkKVals
import Derived.Test.YtdkicniciciobaaGreatDoorOkGScope
/- The contracts of Out and All. -/
namespace Go.Proofs.YtdkicniciciobaaGreatDoor
open Go.RowKit Go.Shelf Go.Maps
set_option linter.unusedVariables false

def outE : List Nat → Cac → Dev → Int
  | [], _, _ => 0
  | b :: r, C, D => if C.wbE D b = 0 then outE r (C.wbC D b) (C.wbD D b) else C.wbE D b

def outC : List Nat → Cac → Dev → Cac
  | [], C, _ => C
  | b :: r, C, D => if C.wbE D b = 0 then outC r (C.wbC D b) (C.wbD D b) else C.wbC D b

def outD : List Nat → Cac → Dev → Dev
  | [], _, D => D
  | b :: r, C, D => if C.wbE D b = 0 then outD r (C.wbC D b) (C.wbD D b) else C.wbD D b

def nums (zs : List Int) : List Nat := (srt zs).map Int.toNat

structure OutI (w : World) (S : Nat → Prop) (g dg n : Nat) (eE : Int) (eC : Cac) (eD : Dev) (av : Option Addr) (lv cv : Nat) (w' : World) (S' : Nat → Prop) (s : List Nat) (C : Cac) (D : Dev) : Prop where
  kv : Kv w' S' g dg C D
  nx : Nx S w S' w'
  ih : IHas w' av lv (s.map (fun b : Nat => (b : Int)))
  cp : lv ≤ cv ∧ cv ≤ 9223372036854775807
  ou : ∀ x, av = some x → ¬ S' x.block ∧ x.block < w'.heap.size
  nn : D.n = n
  si : ∀ b ∈ s, b < n
  rE : outE s C D = eE
  rC : outC s C D = eC
  rD : outD s C D = eD

theorem OutI.len {w : World} {S : Nat → Prop} {g dg n : Nat} {eE : Int} {eC : Cac} {eD : Dev} {av : Option Addr} {lv cv : Nat} {w' : World} {S' : Nat → Prop} {s : List Nat} {C : Cac} {D : Dev} (h : OutI w S g dg n eE eC eD av lv cv w' S' s C D) : lv = s.length := by
  have := h.ih.1
  simpa using this.symm

def OutJ (w : World) (S : Nat → Prop) (g dg n : Nat) (eE : Int) (eC : Cac) (eD : Dev) (a' : Act) (w' : World) : Prop :=
  ∃ av lv cv S' s C D, OutI w S g dg n eE eC eD av lv cv w' S' s C D ∧ ∃ u1 u2 u3 u4 u5 u6 u7 u9 u10 u11 u12 u13 u14 u15 u16 u17 u18 u19 u20 u21 u22 u23 u24 u25 u26 u27 u28 u29 u30 u31 u32 u33 u34 u35 u36 u37 u38 u39 u40 : Value,
    a' = { tmps := #[.pointer (some ⟨g, 0, none⟩), u1, u2, u3, u4, u5, u6, u7, .slice av lv cv, u9, u10, u11, u12, u13, u14, u15, u16, u17, u18, u19, u20, u21, u22, u23, u24, u25, u26, u27, u28, u29, u30, u31, u32, u33, u34, u35, u36, u37, u38, u39, u40], defers := [] }

theorem OutJ.mk {w : World} {S : Nat → Prop} {g dg n : Nat} {eE : Int} {eC : Cac} {eD : Dev} {w' : World} {av : Option Addr} {lv cv : Nat} {S' : Nat → Prop} {s : List Nat} {C : Cac} {D : Dev} (h : OutI w S g dg n eE eC eD av lv cv w' S' s C D) {u1 u2 u3 u4 u5 u6 u7 u9 u10 u11 u12 u13 u14 u15 u16 u17 u18 u19 u20 u21 u22 u23 u24 u25 u26 u27 u28 u29 u30 u31 u32 u33 u34 u35 u36 u37 u38 u39 u40 : Value} :
    OutJ w S g dg n eE eC eD { tmps := #[.pointer (some ⟨g, 0, none⟩), u1, u2, u3, u4, u5, u6, u7, .slice av lv cv, u9, u10, u11, u12, u13, u14, u15, u16, u17, u18, u19, u20, u21, u22, u23, u24, u25, u26, u27, u28, u29, u30, u31, u32, u33, u34, u35, u36, u37, u38, u39, u40], defers := [] } w' :=
  ⟨av, lv, cv, S', s, C, D, h, _, _, _, _, _, _, _, _, _, _, _, _, _, _, _, _, _, _, _, _, _, _, _, _, _, _, _, _, _, _, _, _, _, _, _, _, _, _, _, rfl⟩

def outMu (a' : Act) (_ : World) : Nat := lenOf (a'.tmps.getD 8 undef)

theorem OutI.step {w : World} {S : Nat → Prop} {g dg n : Nat} {eE : Int} {eC : Cac} {eD : Dev} {av : Option Addr} {lv cv : Nat} {w' : World} {S' : Nat → Prop} {b : Nat} {s : List Nat} {C : Cac} {D : Dev} (h : OutI w S g dg n eE eC eD av lv cv w' S' (b :: s) C D) :
    (∃ k off, av = some ⟨k, off, none⟩ ∧ w'.cell? ⟨k, off, none⟩ = some (.int .i64 (b : Int))) ∧
      Hid (Calls Tryz.prog 155 #[.pointer (some ⟨g, 0, none⟩), .int .i64 (b : Int)] w' fun e w2 => e = .returned (.int .i64 (C.wbE D b)) ∧
        (C.wbE D b = 0 → Hid (∃ S2, OutI w S g dg n eE eC eD (cutAt av cv 1) (lv - 1) (cv - 1) w2 S2 s (C.wbC D b) (C.wbD D b))) ∧
        (C.wbE D b ≠ 0 → Hid (C.wbE D b = eE ∧ ∃ S2, Kv w2 S2 g dg eC eD ∧ Nx S w S2 w2))) := by
  have hl := h.len
  have hp : 0 < lv := by rw [hl]; simp
  obtain ⟨k, off, rfl, hc⟩ := h.ih.2 hp
  refine ⟨⟨k, off, rfl, (hc 0 hp).trans (by simp)⟩, ?_⟩
  have hb : b < D.n := by rw [h.nn]; exact h.si b (by simp)
  refine (writeBack_any g dg b S' C D w' h.kv hb).mono ?_
  rintro e w2 ⟨rfl, S2, k2, x2⟩
  have ho : ∀ len, Out S' len (some ⟨k, off, none⟩) := fun _ _ x e => by cases e; exact (h.ou _ rfl).1
  refine ⟨rfl, fun e0 => ⟨S2, k2, h.nx.trans x2, ?_, by have := h.cp; omega, fun x ex => ?_, (wbD_n C D b).1.trans h.nn, fun c hc => h.si c (by simp [hc]), ?_, ?_, ?_⟩, fun e0 => ⟨?_, S2, ?_, h.nx.trans x2⟩⟩
  · have := (h.ih.nx x2 (ho _)).cut1 h.cp.1 hp
    simpa using this
  · have hk : x.block = k := by
      unfold cutAt at ex
      split at ex
      · cases ex; rfl
      · simp [Addr.add] at ex; rw [← ex]
    rw [hk]
    have := x2.keep (h.ou _ rfl).2 (h.ou _ rfl).1
    exact ⟨this.2.1, this.2.2⟩
  · have := h.rE; unfold outE at this; rwa [if_pos e0] at this
  · have := h.rC; unfold outC at this; rwa [if_pos e0] at this
  · have := h.rD; unfold outD at this; rwa [if_pos e0] at this
  · have := h.rE; unfold outE at this; rwa [if_neg e0] at this
  · have e1 := h.rC
    have e2 := h.rD
    unfold outC at e1
    unfold outD at e2
    rw [if_neg e0] at e1 e2
    rw [← e1, ← e2]
    exact k2

set_option maxRecDepth 100000 in
set_option maxHeartbeats 4000000 in
theorem out_good (g dg : Nat) (S Sc Sd : Nat → Prop) (C : Cac) (D : Dev) (m : KMem) (w : World) (h : KvM w S Sc Sd g dg C D m) (a : Option Addr) (cap : Nat) (zs : List Int) (hreach : zs.length * 8 ≤ 140737488351232) (hI : IHas w a zs.length zs) (hz : ∀ z ∈ zs, 0 ≤ z ∧ z < D.n) :
    Calls Tryz.prog 99 #[.pointer (some ⟨g, 0, none⟩), .slice a zs.length cap] w fun e w' => e = .returned (.int .i64 (outE (nums zs) C D)) ∧ ∃ S', Kv w' S' g dg (outC (nums zs) C D) (outD (nums zs) C D) ∧ Nx S w S' w' := by
  have KR : Hid (∀ j, j < zs.length → Calls Tryz.prog 153 #[.pointer (some ⟨g, 0, none⟩), .int .i64 (zs[j]?.getD 0)] w fun e w' => e = .returned (.int .i64 0) ∧ w = w') := by
    intro j hj
    have := refuses_cc g dg (zs[j]?.getD 0) Sc Sd C D m w h.cc h.dd
    have hm : zs[j]?.getD 0 ∈ zs := by rw [List.getElem?_eq_getElem hj]; exact List.getElem_mem _
    unfold rangeE at this
    rwa [if_neg (by have := hz _ hm; omega)] at this
  have KC : Hid (∀ j, j < zs.length → ∃ k off, a = some ⟨k, off, none⟩ ∧ w.cell? ⟨k, off + j, none⟩ = some (.int .i64 (zs[j]?.getD 0))) := by
    intro j hj
    obtain ⟨k, off, e, hc⟩ := hI.2 (by omega)
    exact ⟨k, off, e, hc j hj⟩
  have KV := hide (values_sorted a cap zs hreach w hI)
  have K0 : Hid (∀ w2 v, Gr w.heap.size w2 v (srt zs) → Below w.heap.size w w2 → ∃ av lv cv, v = .slice av lv cv ∧ Hid (OutI w S g dg D.n (outE (nums zs) C D) (outC (nums zs) C D) (outD (nums zs) C D) av lv cv w2 S (nums zs) C D)) := by
    intro w2 v g2 b2
    obtain ⟨av, cv, rfl, i2, i3, i4⟩ := g2.ihas
    have hin : ∀ z ∈ srt zs, 0 ≤ z ∧ z < D.n := fun z hz' => hz z ((srt_perm zs).mem_iff.1 hz')
    have en : (nums zs).map (fun b : Nat => (b : Int)) = srt zs := by
      unfold nums
      rw [List.map_map]
      conv => rhs; rw [← List.map_id (srt zs)]
      refine List.map_congr_left (fun z hz' => ?_)
      exact Int.toNat_of_nonneg (hin z hz').1
    refine ⟨av, _, cv, rfl, h.kv.below b2, (Nx.refl S w).below' b2, by rw [en]; exact i2, ⟨i3, by unfold maxLen at i4; omega⟩, fun x ex => ?_, rfl, fun b hb => ?_, rfl, rfl, rfl⟩
    · obtain ⟨a', c', e', io⟩ := g2.own
      cases e'
      rcases io.2.2.2 with ⟨e, _⟩ | ⟨k, cur, e, hk, hh, _⟩
      · rw [e] at ex; cases ex
      · rw [e] at ex
        cases ex
        exact ⟨fun hs => by have : k < w.heap.size := h.kv.lt hs; omega, (Array.getElem?_eq_some_iff.1 hh).1⟩
    · unfold nums at hb
      obtain ⟨z, hz', rfl⟩ := List.mem_map.1 hb
      have := hin z hz'
      omega
  generalize outE (nums zs) C D = eE at *
  generalize outC (nums zs) C D = eC at *
  generalize outD (nums zs) C D = eD at *
  generalize D.n = nn at *
  have hlen : zs.length ≤ 17592186043904 := by omega
  generalize zs.length = len at *
  clear h hI hz hreach
  go_enter Tryz.func99, Tryz.ntmps99
  go_wp2
  refine wp_scope_one 0 (OutJ w S g dg nn eE eC eD) outMu rfl ?_ ?_
  · intro a' w' hJ
    clear KR KC KV K0
    obtain ⟨av, lv, cv, S', s, C', D', hO, u1, u2, u3, u4, u5, u6, u7, u9, u10, u11, u12, u13, u14, u15, u16, u17, u18, u19, u20, u21, u22, u23, u24, u25, u26, u27, u28, u29, u30, u31, u32, u33, u34, u35, u36, u37, u38, u39, u40, rfl⟩ := hJ
    have hl := hO.len
    have hcp := hO.cp
    cases s with
    | nil =>
      obtain rfl : lv = 0 := hl
      have X : Hid (0 = eE ∧ ∃ S', Kv w' S' g dg eC eD ∧ Nx S w S' w') := by
        have e1 := hO.rE
        have e2 := hO.rC
        have e3 := hO.rD
        unfold outE at e1
        unfold outC at e2
        unfold outD at e3
        exact ⟨e1, S', by rw [← e2, ← e3]; exact hO.kv, hO.nx⟩
      clear hO
      go_wp2_with fail
      simp only [Exit.jump]
      go_ret
      have e4 := (unhide X).1
      subst e4
      exact ⟨rfl, (unhide X).2⟩
    | cons b s =>
      obtain ⟨⟨k, off, rfl, ck⟩, KW⟩ := hO.step
      obtain ⟨l1, rfl⟩ : ∃ l1, lv = l1 + 1 := ⟨s.length, by rw [hl]; rfl⟩
      have hr : ∀ w : World, (Instr.slice 22 (.slice (some ⟨k, off, none⟩) (l1 + 1) cv) (some (.int .i64 1)) none none).run Tryz.prog w = .ok (.slice (cutAt (some ⟨k, off, none⟩) cv 1) (l1 + 1 - 1) (cv - 1)) w := fun w => run_icut (some ⟨k, off, none⟩) (l1 + 1) cv (by omega) w
      rw [Nat.add_sub_cancel] at hr KW
      have hE : C'.wbE D' b = 0 ∨ C'.wbE D' b ≠ 0 := by omega
      generalize C'.wbC D' b = C3 at *
      generalize C'.wbD D' b = D3 at *
      generalize C'.wbE D' b = e3 at *
      generalize cutAt (some ⟨k, off, none⟩) cv 1 = av2 at *
      clear hO hl
      rcases hE with rfl | hE
      · go_wp2_with fail
        go_at_call 155
        refine (unhide KW).mono ?_
        rintro e w2 ⟨rfl, X, _⟩
        obtain ⟨S2, X2⟩ := unhide (X trivial)
        have X3 := hide X2
        clear KW X X2 ck
        go_wp2_with fail
        go_step3
        exact ⟨rfl, OutJ.mk (unhide X3), by simp [outMu, lenOf]⟩
      · have d1 : (e3 != 0) = true := by simpa using hE
        go_wp2_with fail
        go_at_call 155
        refine (unhide KW).mono ?_
        rintro e w2 ⟨rfl, _, X⟩
        have X2 := hide (unhide (X hE))
        clear KW X ck
        go_wp2_with fail
        simp only [Exit.jump]
        go_ret
        have e4 := (unhide X2).1
        subst e4
        exact ⟨rfl, (unhide X2).2⟩
  · intro N
    have N1 := hide N
    clear N
    go_wp2
    go_loop [14] (fun i => ∃ k : Nat, k ≤ len ∧ i = .int .i64 (k : Int)) (fun i => len - (intOf i).toNat)
    case atStart => exact ⟨0, Nat.zero_le _, rfl⟩
    case round =>
      obtain ⟨k, hk, rfl⟩ := hrel
      by_cases hlt : k < len
      · obtain ⟨kb, off, rfl, ck⟩ := unhide KC k hlt
        have K1 := hide (unhide KR k hlt)
        clear KV K0 KR KC
        generalize zs[k]?.getD 0 = z at *
        go_wp2_with (go_at_call 153; refine (unhide K1).mono ?_; rintro e w' ⟨rfl, rfl⟩; clear K1)
        go_round
        case rel => exact ⟨k + 1, by omega, by go_num⟩
        case measure => simp [intOf]; omega
      · clear KC KR
        go_wp2_with fail
        go_at_call 154
        refine (unhide KV).mono ?_
        rintro e w1 ⟨rfl, KS⟩
        clear KV
        go_wp2_with fail
        go_at_call 101
        refine (unhide KS).mono ?_
        rintro e w2 ⟨v, rfl, X⟩
        obtain ⟨av, lv, cv, rfl, X1⟩ := unhide K0 w2 v (unhide X).1 (unhide X).2
        clear KS K0 X
        go_wp2_with fail
        go_step3
        rename_i hK
        refine hK _ _ ?_
        exact unhide N1 _ _ (OutJ.mk (unhide X1))

end Go.Proofs.YtdkicniciciobaaGreatDoor

/- The contracts of Out where a number is no block, and of All. -/
namespace Go.Proofs.YtdkicniciciobaaGreatDoor
open Go.RowKit Go.Shelf Go.Maps
set_option linter.unusedVariables false

theorem out_kv (g dg : Nat) (S : Nat → Prop) (C : Cac) (D : Dev) (w : World) (h : Kv w S g dg C D) (a : Option Addr) (len cap : Nat) (zs : List Int) (hl : zs.length = len) (hreach : len * 8 ≤ 140737488351232) (hI : IHas w a len zs) (hz : ∀ z ∈ zs, 0 ≤ z ∧ z < D.n) :
    Calls Tryz.prog 99 #[.pointer (some ⟨g, 0, none⟩), .slice a len cap] w fun e w' => e = .returned (.int .i64 (outE (nums zs) C D)) ∧ ∃ S', Kv w' S' g dg (outC (nums zs) C D) (outD (nums zs) C D) ∧ Nx S w S' w' := by
  subst hl
  obtain ⟨Sc, Sd, m, km⟩ := h.open
  exact out_good g dg S Sc Sd C D m w km a cap zs hreach hI hz

theorem list_nums (C : Cac) (n : Nat) (f : Ln → Bool) : nums (C.list n f) = C.those n f := by
  unfold nums
  have hr : (C.list n f).Pairwise (· ≤ ·) := by
    unfold Cac.list
    rw [List.pairwise_map]
    exact (C.those_rising n f).imp (fun h => by omega)
  rw [srt_eq (List.Perm.refl _) hr]
  unfold Cac.list
  rw [List.map_map]
  conv => rhs; rw [← List.map_id (C.those n f)]
  exact List.map_congr_left (fun z _ => by simp)

theorem list_in (C : Cac) (n : Nat) (f : Ln → Bool) : ∀ z ∈ C.list n f, 0 ≤ z ∧ z < n := by
  intro z hz
  obtain ⟨b, hb, rfl⟩ := List.mem_map.1 hz
  have := (Cac.mem_those.1 hb).1
  omega

set_option maxRecDepth 100000 in
theorem all_kv (g dg : Nat) (S : Nat → Prop) (C : Cac) (D : Dev) (w : World) (h : Kv w S g dg C D) :
    Calls Tryz.prog 134 #[.pointer (some ⟨g, 0, none⟩)] w fun e w' => e = .returned (.int .i64 (outE (C.those D.n fDirty) C D)) ∧ ∃ S', Kv w' S' g dg (outC (C.those D.n fDirty) C D) (outD (C.those D.n fDirty) C D) ∧ Nx S w S' w' := by
  have K : Hid (Calls Tryz.prog 188 #[.pointer (some ⟨g, 0, none⟩)] w fun e w1 => ∃ v, e = .returned v ∧ Hid (Calls Tryz.prog 99 #[.pointer (some ⟨g, 0, none⟩), v] w1 fun e w' => e = .returned (.int .i64 (outE (C.those D.n fDirty) C D)) ∧ Hid (∃ S', Kv w' S' g dg (outC (C.those D.n fDirty) C D) (outD (C.those D.n fDirty) C D) ∧ Nx S w S' w'))) := by
    refine (dirty_kv g dg S C D w h).mono ?_
    rintro e w1 ⟨v, rfl, g1, b1⟩
    obtain ⟨a, c, rfl, i1, i2, i3⟩ := g1.ihas
    refine ⟨_, rfl, ?_⟩
    have hn := h.ok.n2
    have hl : (C.list D.n fDirty).length ≤ D.n := by
      have := C.those_len D.n fDirty
      simpa [Cac.list] using this
    have := out_kv g dg S C D w1 (h.below b1) a _ c (C.list D.n fDirty) rfl (by omega) i1 (list_in C D.n fDirty)
    rw [list_nums] at this
    refine this.mono ?_
    rintro e w2 ⟨rfl, S', k2, x2⟩
    exact ⟨rfl, S', k2, ((Nx.refl S w).below' b1).trans x2⟩
  clear h
  generalize outE (C.those D.n fDirty) C D = eE at *
  generalize outC (C.those D.n fDirty) C D = eC at *
  generalize outD (C.those D.n fDirty) C D = eD at *
  go_enter Tryz.func134, Tryz.ntmps134
  go_wp2_with fail
  go_at_call 188
  refine (unhide K).mono ?_
  rintro e w1 ⟨v, rfl, K1⟩
  clear K
  go_wp2_with fail
  go_at_call 99
  refine (unhide K1).mono ?_
  rintro e w2 ⟨rfl, X⟩
  clear K1
  go_wp2_with fail
  go_ret
  exact ⟨rfl, unhide X⟩

end Go.Proofs.YtdkicniciciobaaGreatDoor

