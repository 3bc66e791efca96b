/- Joined: WParts, WParts2. -/
import Derived.Test.YtadnlljknocbbaaGreatDoorWcJ41
import Derived.Test.YtadnlljknocbbaaGreatDoorWcGScope
/- The contract of writeParts. -/
namespace Go.Proofs.YtadnlljknocbbaaGreatDoor
open Go.RowKit Go.Shelf Go.Maps
set_option linter.unusedVariables false
set_option maxRecDepth 100000

theorem sizeOfW (w : World) : (sizeOf (Tryz.prog.elem 39)).run Tryz.prog w = .ok 2 w := by kernel_rfl

theorem elemW : Tryz.prog.underlying 39 = some (.slice (Tryz.prog.elem 39)) := by kernel_rfl

/-- Where a list goes on. -/
def cutW (a : Option Addr) (cap l : Nat) : Option Addr := if cap = l then a else a.map (·.add (l * 2))

theorem run_wcut (a : Option Addr) (len cap l : Nat) (h : l ≤ len) (w : World) :
    (Instr.slice 39 (.slice a len cap) (some (.int .i64 (l : Int))) none none).run Tryz.prog w = .ok (.slice (cutW a cap l) (len - l) (cap - l)) w := by
  rw [run_slice_l (P := Tryz.prog) (w := w) 39 a len cap elemW .i64 l (by omega) (by omega), sizeOfW]
  simp only [Result.andThen, sliced]
  have e1 : (l : Int).toNat = l := by omega
  rw [e1]
  simp [cutW]

theorem run_whead (a : Option Addr) (len cap k : Nat) (h : k ≤ cap) (w : World) :
    (Instr.slice 39 (.slice a len cap) none (some (.int .i64 (k : Int))) none).run Tryz.prog w = .ok (.slice (cutW a cap 0) k cap) w := by
  rw [run_slice_h (P := Tryz.prog) (w := w) 39 a len cap elemW .i64 k (by omega) (by omega), sizeOfW]
  simp only [Result.andThen, sliced]
  have e1 : (k : Int).toNat = k := by omega
  rw [e1]
  simp [cutW]

theorem wat_drop (V : List Wr) (l j : Nat) : wat (V.drop l) j = wat V (l + j) := by simp [wat, List.getElem?_drop]

theorem wat_take {V : List Wr} {n j : Nat} (h : j < n) : wat (V.take n) j = wat V j := by simp [wat, List.getElem?_take_of_lt h]

/-- A part of a list. -/
theorem WHas.part {u : World} {a : Option Addr} {len cap : Nat} {V : List Wr} (h : WHas u a len V) (l k : Nat) (hc : len ≤ cap) (hl : l + k ≤ len) : WHas u (cutW a cap l) k ((V.drop l).take k) := by
  refine ⟨by simp [h.ln]; omega, fun hp => ?_, fun j hj => ?_⟩
  · obtain ⟨kb, off, rfl, hk, hcs⟩ := h.cel (by omega)
    refine ⟨kb, off + l * 2, ?_, hk, fun j hj => ?_⟩
    · unfold cutW
      rw [if_neg (by omega), Option.map_some, World.add_zero_spot]
    · rw [wat_take hj, wat_drop]
      have e : off + l * 2 + j * 2 = off + (l + j) * 2 := by omega
      rw [e]
      exact hcs (l + j) (by omega)
  · rw [wat_take hj, wat_drop]
    exact h.row (l + j) (by omega)

theorem WOut.part {S : Nat → Prop} {a : Option Addr} {len cap : Nat} {V : List Wr} (h : WOut S a len V) (l k : Nat) (hc : len ≤ cap) (hl : l + k ≤ len) : WOut S (cutW a cap l) k ((V.drop l).take k) := by
  refine ⟨fun hp x e hs => ?_, fun j hj hp x e hs => ?_⟩
  · unfold cutW at e
    rw [if_neg (by omega)] at e
    cases a with
    | none => simp at e
    | some y =>
      simp at e
      refine h.1 (by omega) y rfl ?_
      rw [← e] at hs
      unfold Addr.add at hs
      split at hs <;> exact hs
  · rw [wat_take hj, wat_drop] at e hp
    exact h.2 (l + j) (by omega) hp x e hs

/-- At the label. -/
structure WQ (w : World) (S : Nat → Prop) (g dg : Nat) (P : Nat → Int) (G : Geo) (L : Lg) (b4 b6 : Nat) (Hf : Hd) (eE : Int) (eD : Dev) (a : Option Addr) (len cap : Nat) (V : List Wr) (H : Hd) (D : Dev) (u : World) (Su : Nat → Prop) : Prop where
  lv : Lv u Su g dg P G L D
  nx : Nx S w Su u
  z4 : Bl u b4 #[.int .i64 0, .int .i64 0, .int .i64 0] 57
  o4 : ¬ Su b4
  z6 : Bl u b6 (Hc H.fn) 57
  o6 : ¬ Su b6
  ne : b4 ≠ b6
  ge : w.heap.size ≤ b4 ∧ w.heap.size ≤ b6
  has0 : WHas w a len V
  out0 : WOut S a len V
  w0 : 0 < w.heap.size
  cp : len ≤ cap ∧ cap ≤ 9223372036854775807
  vok : VOk G V
  sq : H.seq + G.parts len ≤ 4294967295
  us : H.tail + H.used + G.uses len ≤ 10000
  rE : runE (partsS G H.seq (H.tail + H.used) (wl V)) D = eE
  rD : runD (partsS G H.seq (H.tail + H.used) (wl V)) D = eD
  rH : G.after H len = Hf

theorem WQ.ok {w : World} {S : Nat → Prop} {g dg : Nat} {P : Nat → Int} {G : Geo} {L : Lg} {b4 b6 : Nat} {Hf : Hd} {eE : Int} {eD : Dev} {a : Option Addr} {len cap : Nat} {V : List Wr} {H : Hd} {D : Dev} {u : World} {Su : Nat → Prop} (h : WQ w S g dg P G L b4 b6 Hf eE eD a len cap V H D u Su) : G.Ok := by
  obtain ⟨_, _, _, x⟩ := h.lv
  exact x.ll.pg.ok

theorem WQ.has {w : World} {S : Nat → Prop} {g dg : Nat} {P : Nat → Int} {G : Geo} {L : Lg} {b4 b6 : Nat} {Hf : Hd} {eE : Int} {eD : Dev} {a : Option Addr} {len cap : Nat} {V : List Wr} {H : Hd} {D : Dev} {u : World} {Su : Nat → Prop} (h : WQ w S g dg P G L b4 b6 Hf eE eD a len cap V H D u Su) : WHas u a len V := (h.has0.nx h.nx h.out0).1

theorem WQ.out {w : World} {S : Nat → Prop} {g dg : Nat} {P : Nat → Int} {G : Geo} {L : Lg} {b4 b6 : Nat} {Hf : Hd} {eE : Int} {eD : Dev} {a : Option Addr} {len cap : Nat} {V : List Wr} {H : Hd} {D : Dev} {u : World} {Su : Nat → Prop} (h : WQ w S g dg P G L b4 b6 Hf eE eD a len cap V H D u Su) : WOut Su a len V := (h.has0.nx h.nx h.out0).2

/-- A store into memory that came since. -/
theorem Nx.since {S S' : Nat → Prop} {w u : World} (h : Nx S w S' u) {p : Addr} (hp : w.heap.size ≤ p.block) (v : Value) : Nx S w S' (u.setCell p v) :=
  ⟨⟨h.fr.os, h.fr.tape, h.fr.output, by simpa [World.setCell] using h.fr.size, fun k hk hn => (Below.heap_setCell u p v k (by omega)).trans (h.fr.block k hk hn)⟩, h.sub⟩

theorem VOk.sub {G : Geo} {V V' : List Wr} (h : VOk G V) (hs : ∀ v ∈ V', v ∈ V) : VOk G V' := fun v hv => h v (hs v hv)

/-- The header behind a part. -/
def Hd.next (H : Hd) (n : Nat) : Hd := ⟨H.seq + 1, H.tail, H.used + (1 + n)⟩

theorem wl_take (V : List Wr) (n : Nat) : wl (V.take n) = (wl V).take n := by simp [wl, List.map_take]

theorem wl_drop' (V : List Wr) (n : Nat) : wl (V.drop n) = (wl V).drop n := by simp [wl, List.map_drop]

/-- One part more. -/
theorem WQ.part {w : World} {S : Nat → Prop} {g dg : Nat} {P : Nat → Int} {G : Geo} {L : Lg} {b4 b6 : Nat} {Hf : Hd} {eE : Int} {eD : Dev} {a : Option Addr} {len cap : Nat} {V : List Wr} {H : Hd} {D : Dev} {u : World} {Su : Nat → Prop} (h : WQ w S g dg P G L b4 b6 Hf eE eD a len cap V H D u Su) (hp : 0 < len) (n : Nat) (hn : n = min len G.most) :
    Calls Tryz.prog 122 #[.pointer (some ⟨g, 0, none⟩), Hv H.fn, .slice (cutW a cap 0) n cap] u fun e u' => ∃ q : Int, e = .returned (.int .i64 q) ∧ (q = 0 ∨ q = 7) ∧
      (q = 7 → eE = 7 ∧ Hid (∃ S', Lv u' S' g dg P G L eD ∧ Nx S w S' u' ∧ ¬ S' b4) ∧ Hid (Bl u' b4 #[.int .i64 0, .int .i64 0, .int .i64 0] 57)) ∧
      (q = 0 → u'.cell? ⟨b6, 0, none⟩ = some (.int .i64 (H.seq : Int)) ∧ u'.cell? ⟨b6, 2, none⟩ = some (.int .i64 (H.used : Int)) ∧ (∀ k, u'.frozen? ⟨b6, k, none⟩ = false) ∧
        Hid (∃ D' Su', WQ w S g dg P G L b4 b6 Hf eE eD (cutW a cap n) (len - n) (cap - n) (V.drop n) (H.next n) D' ((u'.setCell ⟨b6, 0, none⟩ (.int .i64 ((H.seq + 1 : Nat) : Int))).setCell ⟨b6, 2, none⟩ (.int .i64 ((H.used + (1 + n) : Nat) : Int))) Su')) := by
  have hG := h.ok
  have hm := hG.most
  have hnl : n ≤ len := by omega
  have hnm : n ≤ G.most := by omega
  have hcp := h.cp
  have hlen := h.has.ln
  have hh := h.has.part 0 n hcp.1 (by omega)
  have ho := h.out.part 0 n hcp.1 (by omega)
  rw [List.drop_zero] at hh ho
  have hps := Geo.parts_step hG hp
  rw [← hn] at hps
  have hus := h.us
  have hsq := h.sq
  have hvt : VOk G (V.take n) := h.vok.sub (fun v hv => List.mem_of_mem_take hv)
  have hne : wl V ≠ [] := by
    intro e
    have : V.length = 0 := by rw [← wl_len, e]; rfl
    omega
  have hmin : min (wl V).length G.most = n := by rw [wl_len, hlen]; exact hn.symm
  have htk : (wl V).take G.most = wl (V.take n) := by
    rw [wl_take]
    by_cases hl : len ≤ G.most
    · rw [List.take_of_length_le (by rw [wl_len]; omega), List.take_of_length_le (by rw [wl_len]; omega)]
    · have : n = G.most := by omega
      rw [this]
  have hdr : (wl V).drop G.most = wl (V.drop n) := by
    rw [wl_drop']
    by_cases hl : len ≤ G.most
    · rw [List.drop_of_length_le (by rw [wl_len]; omega), List.drop_of_length_le (by rw [wl_len]; omega)]
    · have : n = G.most := by omega
      rw [this]
  have hsp := partsS_cons hG H.seq (H.tail + H.used) hne
  rw [hmin, htk, hdr] at hsp
  have eE' := h.rE
  have eD' := h.rD
  rw [hsp, runE_append] at eE'
  rw [hsp, runD_append] at eD'
  refine (writePart_lj g dg Su P G L D H ⟨by omega, by omega⟩ u h.lv (cutW a cap 0) n cap (V.take n) hh ho hvt hnm).mono ?_
  rintro e u' ⟨rfl, J⟩
  refine ⟨_, rfl, runE_two _ _, fun h7 => ?_, fun h0 => ?_⟩
  · rw [if_neg (by omega)] at eE' eD'
    obtain ⟨S', l1, n1⟩ := (unhide J).fin
    have k4 := n1.keep h.z4.lt h.o4
    exact ⟨eE'.symm, ⟨S', by rw [← eD']; exact l1, h.nx.trans n1, k4.2.1⟩, k4.1.trans h.z4⟩
  · rw [if_pos h0] at eE' eD'
    obtain ⟨S', l1, n1⟩ := (unhide J).fin
    have k4 := n1.keep h.z4.lt h.o4
    have k6 := n1.keep h.z6.lt h.o6
    have z6 : Bl u' b6 (Hc H.fn) 57 := k6.1.trans h.z6
    have z4 : Bl u' b4 #[.int .i64 0, .int .i64 0, .int .i64 0] 57 := k4.1.trans h.z4
    refine ⟨z6.cell 0 _ rfl, z6.cell 2 _ rfl, z6.free, ?_⟩
    -- two stores into the box
    have hk : ∀ k, k ≠ b6 → ((u'.setCell ⟨b6, 0, none⟩ (.int .i64 ((H.seq + 1 : Nat) : Int))).setCell ⟨b6, 2, none⟩ (.int .i64 ((H.used + (1 + n) : Nat) : Int))).heap[k]? = u'.heap[k]? := fun k hk =>
      (Below.heap_setCell _ ⟨b6, 2, none⟩ _ k hk).trans (Below.heap_setCell _ ⟨b6, 0, none⟩ _ k hk)
    have hsz : ((u'.setCell ⟨b6, 0, none⟩ (.int .i64 ((H.seq + 1 : Nat) : Int))).setCell ⟨b6, 2, none⟩ (.int .i64 ((H.used + (1 + n) : Nat) : Int))).heap.size = u'.heap.size := by simp [World.setCell]
    have z6' := (z6.set 0 (.int .i64 ((H.seq + 1 : Nat) : Int))).set 2 (.int .i64 ((H.used + (1 + n) : Nat) : Int))
    have hnx := ((h.nx.trans n1).since (p := ⟨b6, 0, none⟩) h.ge.2 (.int .i64 ((H.seq + 1 : Nat) : Int))).since (p := ⟨b6, 2, none⟩) h.ge.2 (.int .i64 ((H.used + (1 + n) : Nat) : Int))
    generalize ((u'.setCell ⟨b6, 0, none⟩ (.int .i64 ((H.seq + 1 : Nat) : Int))).setCell ⟨b6, 2, none⟩ (.int .i64 ((H.used + (1 + n) : Nat) : Int))) = u2 at *
    have kS : ∀ k, S' k → u2.heap[k]? = u'.heap[k]? := fun k hs => hk k (fun e => k6.2.1 (by rw [← e]; exact hs))
    have hu1 : G.uses len = 1 + n + G.uses (len - n) := by unfold Geo.uses; omega
    have hhas := h.has0.part n (len - n) hcp.1 (by omega)
    have hout := h.out0.part n (len - n) hcp.1 (by omega)
    rw [List.take_of_length_le (by simp; omega)] at hhas hout
    have ea : H.tail + (H.used + (1 + n)) = H.tail + H.used + 1 + n := by omega
    refine ⟨runD (partS G H.seq (H.tail + H.used) (wl (V.take n))) D, S', ?_, hnx, (hk b4 h.ne).trans z4, k4.2.1, z6', k6.2.1, h.ne, h.ge, hhas, hout, h.w0, ⟨by omega, by omega⟩, h.vok.sub (fun v hv => List.mem_of_mem_drop hv), ?_, ?_, ?_, ?_, ?_⟩
    · obtain ⟨Sl, Sd, m, l1⟩ := l1
      refine (l1.keptAll kS (hk 0 (fun e => ?_)) (by omega)).lv
      have := h.ge.2
      have := h.w0
      omega
    · show H.seq + 1 + G.parts (len - n) ≤ 4294967295
      omega
    · show H.tail + (H.used + (1 + n)) + G.uses (len - n) ≤ 10000
      omega
    · show runE (partsS G (H.seq + 1) (H.tail + (H.used + (1 + n))) (wl (V.drop n))) _ = eE
      rw [ea]
      exact eE'
    · show runD (partsS G (H.seq + 1) (H.tail + (H.used + (1 + n))) (wl (V.drop n))) _ = eD
      rw [ea]
      exact eD'
    · rw [← h.rH]
      show Hd.mk (H.seq + 1 + G.parts (len - n)) H.tail (H.used + (1 + n) + G.uses (len - n)) = Hd.mk (H.seq + G.parts len) H.tail (H.used + G.uses len)
      rw [hps, hu1]
      congr 1 <;> omega

end Go.Proofs.YtadnlljknocbbaaGreatDoor

/- The contract of writeParts: the walk. -/
namespace Go.Proofs.YtadnlljknocbbaaGreatDoor
open Go.RowKit Go.Shelf Go.Maps
set_option linter.unusedVariables false
set_option maxRecDepth 100000

theorem WQ.later {w : World} {S : Nat → Prop} {g dg : Nat} {P : Nat → Int} {G : Geo} {L : Lg} {b4 b6 : Nat} {Hf : Hd} {eE : Int} {eD : Dev} {a : Option Addr} {len cap : Nat} {V : List Wr} {H : Hd} {D : Dev} {u u' : World} {Su : Nat → Prop} (h : WQ w S g dg P G L b4 b6 Hf eE eD a len cap V H D u Su) (hb : Below u.heap.size u u') : WQ w S g dg P G L b4 b6 Hf eE eD a len cap V H D u' Su :=
  ⟨h.lv.below hb, h.nx.below' hb, h.z4.call hb, h.o4, h.z6.call hb, h.o6, h.ne, h.ge, h.has0, h.out0, h.w0, h.cp, h.vok, h.sq, h.us, h.rE, h.rD, h.rH⟩

/-- The label's frame. -/
def WqJ (w : World) (S : Nat → Prop) (g dg : Nat) (P : Nat → Int) (G : Geo) (L : Lg) (b4 b6 : Nat) (Hf : Hd) (eE : Int) (eD : Dev) (a' : Act) (w' : World) : Prop :=
  ∃ a len cap V H D Su, WQ w S g dg P G L b4 b6 Hf eE eD a len cap V H D w' Su ∧ ∃ u2 u3 u7 u8 u9 u10 u11 u12 u13 u14 u15 u16 u17 u18 u19 u20 u21 u22 u23 u24 u25 u26 u27 u28 u29 u30 u31 u32 u33 u34 u35 u36 u37 u38 u39 u40 u41 u42 u43 u44 u45 u46 u47 : Value, a' = { tmps := #[.pointer (some ⟨g, 0, none⟩), .slice a len cap, u2, u3, .pointer (some ⟨b4, 0, none⟩), .int .i64 0, .pointer (some ⟨b6, 0, none⟩), u7, u8, u9, u10, u11, u12, u13, u14, u15, u16, u17, u18, u19, u20, u21, u22, u23, u24, u25, u26, u27, u28, u29, u30, u31, u32, u33, u34, u35, u36, u37, u38, u39, u40, u41, u42, u43, u44, u45, u46, u47], defers := [] }

theorem WqJ.mk {w : World} {S : Nat → Prop} {g dg : Nat} {P : Nat → Int} {G : Geo} {L : Lg} {b4 b6 : Nat} {Hf : Hd} {eE : Int} {eD : Dev} {a : Option Addr} {len cap : Nat} {V : List Wr} {H : Hd} {D : Dev} {w' : World} {Su : Nat → Prop} (h : WQ w S g dg P G L b4 b6 Hf eE eD a len cap V H D w' Su) {u2 u3 u7 u8 u9 u10 u11 u12 u13 u14 u15 u16 u17 u18 u19 u20 u21 u22 u23 u24 u25 u26 u27 u28 u29 u30 u31 u32 u33 u34 u35 u36 u37 u38 u39 u40 u41 u42 u43 u44 u45 u46 u47 : Value} :
    WqJ w S g dg P G L b4 b6 Hf eE eD { tmps := #[.pointer (some ⟨g, 0, none⟩), .slice a len cap, u2, u3, .pointer (some ⟨b4, 0, none⟩), .int .i64 0, .pointer (some ⟨b6, 0, none⟩), u7, u8, u9, u10, u11, u12, u13, u14, u15, u16, u17, u18, u19, u20, u21, u22, u23, u24, u25, u26, u27, u28, u29, u30, u31, u32, u33, u34, u35, u36, u37, u38, u39, u40, u41, u42, u43, u44, u45, u46, u47], defers := [] } w' := ⟨a, len, cap, V, H, D, Su, h, _, _, _, _, _, _, _, _, _, _, _, _, _, _, _, _, _, _, _, _, _, _, _, _, _, _, _, _, _, _, _, _, _, _, _, _, _, _, _, _, _, _, _, rfl⟩

def wqMu (a' : Act) (_ : World) : Nat := lenOf (a'.tmps.getD 1 undef)

theorem WQ.done {w : World} {S : Nat → Prop} {g dg : Nat} {P : Nat → Int} {G : Geo} {L : Lg} {b4 b6 : Nat} {Hf : Hd} {eE : Int} {eD : Dev} {a : Option Addr} {cap : Nat} {V : List Wr} {H : Hd} {D : Dev} {u : World} {Su : Nat → Prop} (h : WQ w S g dg P G L b4 b6 Hf eE eD a 0 cap V H D u Su) : 0 = eE ∧ Hf = H ∧ ∃ S', Lv u S' g dg P G L eD ∧ Nx S w S' u := by
  have hV : V = [] := List.eq_nil_of_length_eq_zero h.has0.ln
  have e1 := h.rE
  have e2 := h.rD
  have e3 := h.rH
  subst hV
  have ew : wl ([] : List Wr) = [] := rfl
  rw [ew, partsS_nil] at e1 e2
  refine ⟨e1, ?_, Su, ?_, h.nx⟩
  · rw [← e3]
    show Hd.mk (H.seq + G.parts 0) H.tail (H.used + (0 + G.parts 0)) = H
    rw [Geo.parts_zero h.ok]
    cases H
    rfl
  · rw [← e2]
    exact h.lv

theorem setAll_other {g : Nat} : ∀ (vs : List Value) (u : World) (k j : Nat), j ≠ g → (setAll u g k vs).heap[j]? = u.heap[j]? := by
  intro vs
  induction vs with
  | nil => intro u k j _; rfl
  | cons v vs ih => intro u k j hj; exact (ih _ _ _ hj).trans (Below.heap_setCell u ⟨g, k, none⟩ v j hj)

theorem setAll_size {g : Nat} : ∀ (vs : List Value) (u : World) (k : Nat), (setAll u g k vs).heap.size = u.heap.size := by
  intro vs
  induction vs with
  | nil => intro u k; rfl
  | cons v vs ih => intro u k; exact (ih _ _).trans (by simp [World.setCell])

/-- Cells beside the log are written. -/
theorem Lv.beside {u : World} {S : Nat → Prop} {g dg : Nat} {P : Nat → Int} {G : Geo} {L : Lg} {D : Dev} (h : Lv u S g dg P G L D) {b : Nat} (hb : ¬ S b) (h0 : b ≠ 0) (vs : List Value) (k : Nat) : Lv (setAll u b k vs) S g dg P G L D := by
  obtain ⟨Sl, Sd, m, h⟩ := h
  exact (h.keptAll (fun j hj => setAll_other vs u k j (fun e => hb (by rw [← e]; exact hj))) (setAll_other vs u k 0 (fun e => h0 e.symm)) (by rw [setAll_size]; exact Nat.le_refl _)).lv

theorem Nx.sinceAll {S S' : Nat → Prop} {w : World} {b : Nat} (hb : w.heap.size ≤ b) : ∀ (vs : List Value) (u : World) (k : Nat), Nx S w S' u → Nx S w S' (setAll u b k vs) := by
  intro vs
  induction vs with
  | nil => intro u k h; exact h
  | cons v vs ih => intro u k h; exact ih _ _ (h.since (p := ⟨b, k, none⟩) hb v)

theorem hd_nums2 (s u n : Nat) (h2 : u ≤ 10000) (h3 : n ≤ 100000) : ((s + 1 : Nat) : Int) = (s : Int) + 1 ∧ ((u + (1 + n) : Nat) : Int) = wrap64 ((u : Int) + wrap64 (1 + (n : Int))) := by
  refine ⟨by omega, ?_⟩
  have : wrap64 (1 + (n : Int)) = 1 + (n : Int) := by unfold wrap64; omega
  rw [this]
  unfold wrap64
  omega

theorem hd_nums (s u n : Nat) (h1 : s ≤ 4294967295) (h2 : u ≤ 10000) (h3 : n ≤ 100000) : wrap64 ((s : Int) + 1) = ((s + 1 : Nat) : Int) ∧ wrap64 (1 + (n : Int)) = ((1 + n : Nat) : Int) ∧ wrap64 ((u : Int) + ((1 + n : Nat) : Int)) = ((u + (1 + n) : Nat) : Int) := by
  refine ⟨?_, ?_, ?_⟩
  · unfold wrap64; omega
  · unfold wrap64; omega
  · unfold wrap64; omega

set_option maxHeartbeats 4000000 in
theorem writeParts_any (g dg : Nat) (S : Nat → Prop) (P : Nat → Int) (G : Geo) (L : Lg) (D : Dev) (w : World) (h : Lv w S g dg P G L D) (a : Option Addr) (len cap : Nat) (V : List Wr) (hV : WHas w a len V) (hO : WOut S a len V) (hvo : VOk G V) (hc : len ≤ cap ∧ cap ≤ 9223372036854775807) (hs : L.h.seq + G.parts len ≤ 4294967295) (hu : L.h.tail + L.h.used + G.uses len ≤ 10000) :
    Calls Tryz.prog 99 #[.pointer (some ⟨g, 0, none⟩), .slice a len cap] w fun e w' =>
      (runE (partsS G L.h.seq (L.h.tail + L.h.used) (wl V)) D = 0 → e = .returned (.tuple #[Hv (G.after L.h len).fn, .int .i64 0])) ∧ (runE (partsS G L.h.seq (L.h.tail + L.h.used) (wl V)) D ≠ 0 → e = .returned (.tuple #[Hv (fun _ => 0), .int .i64 7])) ∧
      Hid (∃ S', Lv w' S' g dg P G L (runD (partsS G L.h.seq (L.h.tail + L.h.used) (wl V)) D) ∧ Nx S w S' w') := by
  have hw0 : 0 < w.heap.size := by obtain ⟨_, _, _, x⟩ := h; exact x.tab.lt
  have b1 : Below w.heap.size w (w.alloc (.cells #[.int .i64 0, .int .i64 0, .int .i64 0] 57)) := (Below.refl _ w).alloc (Nat.le_refl _) _
  have b2 : Below (w.alloc (.cells #[.int .i64 0, .int .i64 0, .int .i64 0] 57)).heap.size (w.alloc (.cells #[.int .i64 0, .int .i64 0, .int .i64 0] 57)) ((w.alloc (.cells #[.int .i64 0, .int .i64 0, .int .i64 0] 57)).alloc (.cells (Hc L.h.fn) 57)) := (Below.refl _ _).alloc (Nat.le_refl _) _
  have s1 : (w.alloc (.cells #[.int .i64 0, .int .i64 0, .int .i64 0] 57)).heap.size = w.heap.size + 1 := by simp
  have b12 : Below w.heap.size w ((w.alloc (.cells #[.int .i64 0, .int .i64 0, .int .i64 0] 57)).alloc (.cells (Hc L.h.fn) 57)) := b1.trans (b2.mono b1.size)
  have Q0 : Hid (WQ w S g dg P G L w.heap.size (w.heap.size + 1) (G.after L.h len) (runE (partsS G L.h.seq (L.h.tail + L.h.used) (wl V)) D) (runD (partsS G L.h.seq (L.h.tail + L.h.used) (wl V)) D) a len cap V L.h D ((w.alloc (.cells #[.int .i64 0, .int .i64 0, .int .i64 0] 57)).alloc (.cells (Hc L.h.fn) 57)) S) := by
    have z6 := Bl.new (w.alloc (.cells #[.int .i64 0, .int .i64 0, .int .i64 0] 57)) (Hc L.h.fn) 57
    rw [s1] at z6
    exact ⟨h.below b12, (Nx.refl S w).below' b12, (Bl.new w _ _).alloc _, fun hs => by have := h.lt hs; omega, z6, fun hs => by have := h.lt hs; omega, by omega, ⟨Nat.le_refl _, Nat.le_succ _⟩, hV, hO, hw0, hc, hvo, hs, hu, rfl, rfl, rfl⟩
  have d3 : ∀ (u : World) (k : Nat) (v : Value), u = u := fun _ _ _ => rfl
  have K0 : Hid (∀ u Su a len cap V H D b4 b6 Hf eE eD, WQ w S g dg P G L b4 b6 Hf eE eD a len cap V H D u Su → u.cell? ⟨g, 1, none⟩ = some (.int .i64 (P 0)) ∧ u.cell? ⟨g, 2, none⟩ = some (.int .i64 (P 1)) ∧ u.cell? ⟨g, 3, none⟩ = some (.int .i64 (P 2)) ∧ u.cell? ⟨g, 4, none⟩ = some (.int .i64 (P 3)) ∧ u.cell? ⟨g, 5, none⟩ = some (.int .i64 (P 4)) ∧ u.cell? ⟨g, 6, none⟩ = some (.int .i64 (P 5)) ∧ u.cell? ⟨g, 7, none⟩ = some (.int .i64 (P 6)) ∧ u.cell? ⟨g, 8, none⟩ = some (.int .i64 (P 7)) ∧ u.cell? ⟨g, 9, none⟩ = some (.int .i64 (P 8)) ∧ u.cell? ⟨g, 10, none⟩ = some (.int .i64 (P 9)) ∧ u.cell? ⟨g, 11, none⟩ = some (.int .i64 (P 10)) ∧ u.cell? ⟨g, 12, none⟩ = some (.int .i64 (P 11))) := fun u Su a len cap V H D b4 b6 Hf eE eD hq => by
    obtain ⟨_, _, _, x⟩ := hq.lv
    exact ⟨x.ll.cells.2.1 0 (by omega), x.ll.cells.2.1 1 (by omega), x.ll.cells.2.1 2 (by omega), x.ll.cells.2.1 3 (by omega), x.ll.cells.2.1 4 (by omega), x.ll.cells.2.1 5 (by omega), x.ll.cells.2.1 6 (by omega), x.ll.cells.2.1 7 (by omega), x.ll.cells.2.1 8 (by omega), x.ll.cells.2.1 9 (by omega), x.ll.cells.2.1 10 (by omega), x.ll.cells.2.1 11 (by omega)⟩
  have KM : Hid (∀ u, Calls Tryz.prog 121 #[Pv P] u fun e w' => e = .returned (.int .i64 (G.most : Int)) ∧ Below u.heap.size u w') := fun u => by
    obtain ⟨_, _, _, x⟩ := h
    exact most_any P G x.ll.pg u
  have hm : Hid (27 ≤ G.most ∧ G.most ≤ 2043) := by
    obtain ⟨_, _, _, x⟩ := h
    exact x.ll.pg.ok.most
  have HL := hide h
  have lc : ∀ k, k < 3 → ((w.alloc (.cells #[.int .i64 0, .int .i64 0, .int .i64 0] 57)).cell? ⟨g, 13 + k, none⟩ = some (.int .i64 (L.h.fn k))) := fun k hk => by
    obtain ⟨_, _, _, x⟩ := h.below b1
    obtain ⟨_, _, c3, c4, c5, _⟩ := x.ll.cells
    have : k = 0 ∨ k = 1 ∨ k = 2 := by omega
    rcases this with rfl | rfl | rfl
    · exact c3
    · exact c4
    · exact c5
  have l0 := lc 0 (by omega)
  have l1 := lc 1 (by omega)
  have l2 := lc 2 (by omega)
  clear h hV hO hvo hc hs hu b1 b2 b12 s1 lc d3 hw0 HL
  generalize runE (partsS G L.h.seq (L.h.tail + L.h.used) (wl V)) D = eE at *
  generalize runD (partsS G L.h.seq (L.h.tail + L.h.used) (wl V)) D = eD at *
  generalize G.after L.h len = Hf at *
  go_enter Tryz.func99, Tryz.ntmps99
  go_wp2_with fail
  refine wp_scope_one 0 (WqJ w S g dg P G L w.heap.size (w.heap.size + 1) Hf eE eD) wqMu rfl ?_ ?_
  · intro a' w' hJ
    clear Q0 l0 l1 l2
    obtain ⟨a, len, cap, V, H, D, Su, hQ, u2, u3, u7, u8, u9, u10, u11, u12, u13, u14, u15, u16, u17, u18, u19, u20, u21, u22, u23, u24, u25, u26, u27, u28, u29, u30, u31, u32, u33, u34, u35, u36, u37, u38, u39, u40, u41, u42, u43, u44, u45, u46, u47, rfl⟩ := hJ
    have hw0 := hQ.w0
    have hb4 := hQ.ge
    generalize hB6 : w.heap.size + 1 = b6 at *
    have x0 := hQ.z6.cell 0 (.int .i64 (H.seq : Int)) rfl
    have x1 := hQ.z6.cell 1 (.int .i64 (H.tail : Int)) rfl
    have x2 := hQ.z6.cell 2 (.int .i64 (H.used : Int)) rfl
    have y0 := hQ.z4.cell 0 (.int .i64 0) rfl
    have y1 := hQ.z4.cell 1 (.int .i64 0) rfl
    have y2 := hQ.z4.cell 2 (.int .i64 0) rfl
    have y3 := hQ.z4.free
    have HW := hide (⟨hw0, hb4⟩ : 0 < w.heap.size ∧ _)
    clear hw0 hb4
    have HB6 := hide hB6
    clear hB6
    by_cases hl : len = 0
    · subst hl
      have ZD := hide hQ.done
      have Z4 := hide hQ.z4
      have O4 := hide hQ.o4
      have L1 := hide hQ.lv
      have N1 := hide hQ.nx
      have R1 := hide hQ.rD
      have X : Hid (∃ S', Lv (setAll w' w.heap.size 0 [.int .i64 (H.seq : Int), .int .i64 (H.tail : Int), .int .i64 (H.used : Int)]) S' g dg P G L eD ∧ Nx S w S' (setAll w' w.heap.size 0 [.int .i64 (H.seq : Int), .int .i64 (H.tail : Int), .int .i64 (H.used : Int)])) := by
        have hd := hQ.rD
        have hV : V = [] := List.eq_nil_of_length_eq_zero hQ.has0.ln
        rw [hV] at hd
        have ew : wl ([] : List Wr) = [] := rfl
        rw [ew, partsS_nil] at hd
        exact ⟨Su, by rw [← hd]; exact hQ.lv.beside hQ.o4 (by have := (unhide HW).1; omega) _ _, Nx.sinceAll (unhide HW).2.1 _ _ _ hQ.nx⟩
      have hA := hide (setAll_whole [.int .i64 (H.seq : Int), .int .i64 (H.tail : Int), .int .i64 (H.used : Int)] _ _ hQ.z4 rfl)
      clear hQ K0 KM hm Z4 O4 L1 N1 R1
      go_wp2_with fail
      simp only [Exit.jump]
      change bodyPost _ _ _ _ _ (setAll w' w.heap.size 0 [.int .i64 (H.seq : Int), .int .i64 (H.tail : Int), .int .i64 (H.used : Int)])
      replace hA := unhide hA
      replace X := unhide X
      generalize setAll w' w.heap.size 0 [.int .i64 (H.seq : Int), .int .i64 (H.tail : Int), .int .i64 (H.used : Int)] = wf at *
      refine bodyPost_ret (v := .tuple #[.agg #[.int .i64 (H.seq : Int), .int .i64 (H.tail : Int), .int .i64 (H.used : Int)], .int .i64 0]) ?_ rfl ⟨fun _ => by rw [(unhide ZD).2.1]; rfl, fun h => False.elim (h (unhide ZD).1.symm), X⟩
      simp [results, Tryz.results99, go_sem, hA.cell 0 _ rfl, hA.cell 1 _ rfl, hA.cell 2 _ rfl]
    · have hp : 0 < len := by omega
      obtain ⟨n, hn⟩ : ∃ n, n = min len G.most := ⟨_, rfl⟩
      have hcp := hQ.cp
      have hus := hQ.us
      have hsq := hQ.sq
      have hmo := unhide hm
      have KP := hide (fun u' (hb : Below w'.heap.size w' u') => (hQ.later hb).part hp n hn)
      have r1 : ∀ w : World, _ := fun w => run_whead a len cap n (by omega) w
      have r2 : ∀ w : World, _ := fun w => run_wcut a len cap n (by omega) w
      obtain ⟨q0, q1, q2, q3, q4, q5, q6, q7, q8, q9, q10, q11⟩ := unhide K0 _ _ _ _ _ _ _ _ _ _ _ _ _ hQ
      have KX : Hid (∀ u', Below w'.heap.size w' u' → u'.cell? ⟨b6, 0, none⟩ = some (.int .i64 (H.seq : Int)) ∧ u'.cell? ⟨b6, 1, none⟩ = some (.int .i64 (H.tail : Int)) ∧ u'.cell? ⟨b6, 2, none⟩ = some (.int .i64 (H.used : Int))) := fun u' hb => ⟨(hQ.z6.call hb).cell 0 _ rfl, (hQ.z6.call hb).cell 1 _ rfl, (hQ.z6.call hb).cell 2 _ rfl⟩
      have hlI : ¬ (len : Int) = 0 := by omega
      have hmin : min (len : Int) (G.most : Int) = (n : Int) := by omega
      have HN := hide hn
      have hMu : Hid (len - n < len) := by show _ < _; omega
      have hl0 : ((len : Int) == 0) = false := by simpa using hl
      have HD := hide (hd_nums2 H.seq H.used n (by omega) (by omega))
      have hsq2 : H.seq ≤ 4294967295 := by omega
      clear hQ K0 hl hn hmo hcp hus hsq
      go_wp2_with fail
      go_at_call 121
      refine (unhide KM _).mono ?_
      rintro e u1 ⟨rfl, hb1⟩
      obtain ⟨f0, f1, f2⟩ := unhide KX _ hb1
      have B1 := hide hb1
      clear KM q0 q1 q2 q3 q4 q5 q6 q7 q8 q9 q10 q11 x0 x1 x2 y0 y1 y2 y3 hb1
      clear KX
      go_upto_region 5 with fail
      go_cut [8] (fun c wx => ∃ q : Int, c = .int .i64 q ∧ (q = 0 ∨ q = 7) ∧ Hid ((q = 7 → eE = 7 ∧ Hid (∃ S', Lv wx S' g dg P G L eD ∧ Nx S w S' wx ∧ ¬ S' w.heap.size) ∧ Hid (Bl wx w.heap.size #[.int .i64 0, .int .i64 0, .int .i64 0] 57)) ∧
        (q = 0 → wx.cell? ⟨b6, 0, none⟩ = some (.int .i64 (H.seq : Int)) ∧ wx.cell? ⟨b6, 2, none⟩ = some (.int .i64 (H.used : Int)) ∧ (∀ k, wx.frozen? ⟨b6, k, none⟩ = false) ∧
        Hid (∃ D' Su', WQ w S g dg P G L w.heap.size b6 Hf eE eD (cutW a cap n) (len - n) (cap - n) (V.drop n) (H.next n) D' ((wx.setCell ⟨b6, 0, none⟩ (.int .i64 ((H.seq + 1 : Nat) : Int))).setCell ⟨b6, 2, none⟩ (.int .i64 ((H.used + (1 + n) : Nat) : Int))) Su'))))
      case first =>
        clear hmin hMu HN HW HB6 r2 HD hsq2
        go_region_with (go_at_call 122; refine (unhide KP _ (unhide B1).drew).mono ?_; rintro e u2 ⟨q, rfl, hq, h7, h0⟩; have H7 := hide h7; have H0 := hide h0; clear h7 h0)
        all_goals
          go_wp2_with fail
          go_meet
          exact ⟨q, rfl, hq, unhide H7, unhide H0⟩
      case rest =>
        obtain ⟨q, rfl, hq, HQ⟩ := hcut
        clear KP B1 f0 f1 f2 r1 hmin
        rcases hq with rfl | rfl
        · obtain ⟨c0, c2, fr, X⟩ := (unhide HQ).2 rfl
          obtain ⟨D', Su', XX⟩ := unhide X
          rw [(unhide HD).1, (unhide HD).2] at XX
          have X2 := hide XX
          clear HQ X XX
          go_wp2_with fail
          go_step3
          exact ⟨rfl, WqJ.mk (unhide X2), by simp [wqMu, lenOf]; have := unhide hMu; omega⟩
        · obtain ⟨z1, X, Z⟩ := (unhide HQ).1 rfl
          have Z1 := hide z1
          have y0 := (unhide Z).cell 0 (.int .i64 0) rfl
          have y1 := (unhide Z).cell 1 (.int .i64 0) rfl
          have y2 := (unhide Z).cell 2 (.int .i64 0) rfl
          have y3 := (unhide Z).free
          clear HQ z1 r2 HD
          go_wp2_with fail
          simp only [Exit.jump]
          change bodyPost _ _ _ _ _ (setAll wc w.heap.size 0 [.int .i64 0, .int .i64 0, .int .i64 0])
          have hA := setAll_whole [.int .i64 0, .int .i64 0, .int .i64 0] _ _ (unhide Z) rfl
          have hX : ∃ S', Lv (setAll wc w.heap.size 0 [.int .i64 0, .int .i64 0, .int .i64 0]) S' g dg P G L eD ∧ Nx S w S' (setAll wc w.heap.size 0 [.int .i64 0, .int .i64 0, .int .i64 0]) := by
            obtain ⟨S', l1, n1, o1⟩ := unhide X
            exact ⟨S', l1.beside o1 (by have := (unhide HW).1; omega) _ _, Nx.sinceAll (unhide HW).2.1 _ _ _ n1⟩
          generalize setAll wc w.heap.size 0 [.int .i64 0, .int .i64 0, .int .i64 0] = wf at *
          refine bodyPost_ret (v := .tuple #[.agg #[.int .i64 0, .int .i64 0, .int .i64 0], .int .i64 7]) ?_ rfl ⟨fun h => False.elim (by rw [unhide Z1] at h; omega), fun _ => rfl, hX⟩
          simp [results, Tryz.results99, go_sem, hA.cell 0 _ rfl, hA.cell 1 _ rfl, hA.cell 2 _ rfl]
  · intro N
    have N1 := hide N
    clear N K0 KM hm
    go_wp2_with fail
    go_step3
    rename_i hK
    refine hK _ _ ?_
    exact unhide N1 _ _ (WqJ.mk (unhide Q0))

end Go.Proofs.YtadnlljknocbbaaGreatDoor

