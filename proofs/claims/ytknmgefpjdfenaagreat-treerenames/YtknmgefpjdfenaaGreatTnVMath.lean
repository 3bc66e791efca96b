/- Paths as lists of bytes: what a path is, its names, and the path that names make. Nothing of a program. -/
import Derived.Test.YtknmgefpjdfenaaGreatTnVName
import Derived.Lib.Join
namespace Go.Proofs.YtknmgefpjdfenaaGreat
set_option linter.unusedVariables false
set_option maxRecDepth 100000

/-- A text as a string. -/
def St (l : List UInt8) : ByteArray := ⟨l.toArray⟩

theorem St_data (s : ByteArray) : St s.data.toList = s := by cases s; simp [St]

theorem data_St (l : List UInt8) : (St l).data.toList = l := by simp [St]

theorem St_size (l : List UInt8) : (St l).size = l.length := by simp [St, ByteArray.size]

theorem St_inj {a b : List UInt8} (h : St a = St b) : a = b := by rw [← data_St a, h, data_St]

theorem St_toList (l : List UInt8) : (St l).toList = l := by rw [Lib.toList_data, data_St]

/-- Up to the first /, and what is behind it. -/
def cutN : List UInt8 → List UInt8 × List UInt8
  | [] => ([], [])
  | b :: l => if b = 47 then ([], l) else (b :: (cutN l).1, (cutN l).2)

/-- All parts between the signs /. -/
def segs : List UInt8 → List (List UInt8)
  | [] => [[]]
  | b :: l => if b = 47 then [] :: segs l else (b :: ((segs l).head?.getD [])) :: (segs l).tail

theorem segs_cons (b : UInt8) (l : List UInt8) : segs (b :: l) = if b = 47 then [] :: segs l else (b :: ((segs l).head?.getD [])) :: (segs l).tail := rfl

theorem cutN_cons (b : UInt8) (l : List UInt8) : cutN (b :: l) = if b = 47 then ([], l) else (b :: (cutN l).1, (cutN l).2) := rfl

theorem segs_ne (l : List UInt8) : segs l ≠ [] := by cases l with
  | nil => simp [segs]
  | cons b l => unfold segs; split <;> simp

theorem segs_head (l : List UInt8) : (segs l).head? = some (cutN l).1 := by
  induction l with
  | nil => rfl
  | cons b l ih => unfold segs cutN; split <;> simp [ih]

/-- The names from here on, up to the first empty one. -/
def nm (l : List UInt8) : List (List UInt8) := (segs l).takeWhile (fun x => !x.isEmpty)

theorem segs_tail (l : List UInt8) : (47 ∈ l ∧ (segs l).tail = segs (cutN l).2) ∨ (47 ∉ l ∧ (segs l).tail = [] ∧ (cutN l).2 = [] ∧ (cutN l).1 = l) := by
  induction l with
  | nil => right; simp [segs, cutN]
  | cons b l ih =>
    rw [segs_cons, cutN_cons]
    by_cases hb : b = 47
    · left; simp [hb]
    · simp only [hb, if_false, List.tail_cons, List.mem_cons]
      rcases ih with ⟨h1, h2⟩ | ⟨h1, h2, h3, h4⟩
      · left; exact ⟨.inr h1, h2⟩
      · right
        refine ⟨fun h => ?_, h2, h3, by rw [h4]⟩
        rcases h with h | h
        · exact hb h.symm
        · exact h1 h

theorem nm_step (l : List UInt8) : nm l = if (cutN l).1 = [] then [] else (cutN l).1 :: nm (cutN l).2 := by
  unfold nm
  have hh := segs_head l
  have ht := segs_tail l
  cases hs : segs l with
  | nil => exact absurd hs (segs_ne l)
  | cons x r =>
    rw [hs] at hh ht
    simp only [List.head?_cons, Option.some.injEq] at hh
    subst hh
    simp only [List.tail_cons] at ht
    by_cases h0 : (cutN l).1 = []
    · rw [if_pos h0, h0]; rfl
    · rw [if_neg h0, List.takeWhile_cons, if_pos (by cases h : (cutN l).1 with
        | nil => exact absurd h h0
        | cons _ _ => rfl)]
      rcases ht with ⟨_, h⟩ | ⟨_, h, h2, _⟩
      · rw [h]
      · rw [h, h2]; rfl

theorem cutN_len (l : List UInt8) : (cutN l).1.length + (cutN l).2.length ≤ l.length := by
  induction l with
  | nil => simp [cutN]
  | cons b l ih => unfold cutN; split <;> simp; omega

/-- Without its first sign, if that is a /. -/
def drop1 : List UInt8 → List UInt8
  | [] => []
  | b :: l => if b = 47 then l else b :: l

theorem drop1_len (p : List UInt8) : (drop1 p).length ≤ p.length := by
  cases p with
  | nil => simp [drop1]
  | cons b l =>
    show (if b = 47 then l else b :: l).length ≤ _
    split <;> simp

/-- The names of a text. -/
def nms (p : List UInt8) : List (List UInt8) := nm (drop1 p)

theorem segs_len (l : List UInt8) : ∀ x ∈ segs l, x.length ≤ l.length := by
  induction l with
  | nil => intro x hx; simp [segs] at hx; subst hx; simp
  | cons b l ih =>
    intro x hx
    rw [segs_cons] at hx
    by_cases hb : b = 47
    · rw [if_pos hb, List.mem_cons] at hx
      rcases hx with rfl | hx
      · simp
      · have := ih x hx; simp; omega
    · rw [if_neg hb, List.mem_cons] at hx
      rcases hx with rfl | hx
      · have h1 := segs_head l
        have := ih (cutN l).1 (List.mem_of_mem_head? h1)
        rw [h1]; simp; omega
      · have := ih x (List.mem_of_mem_tail hx); simp; omega

theorem nms_len (p : List UInt8) : ∀ x ∈ nms p, x.length ≤ p.length := by
  intro x hx
  unfold nms nm at hx
  have := segs_len (drop1 p) x ((List.takeWhile_sublist _).mem hx)
  have := drop1_len p
  omega

theorem nms_get (p : List UInt8) (hp : p.length ≤ 9223372036854775807) (j : Nat) : ((nms p)[j]?.getD []).length ≤ 9223372036854775807 := by
  cases h : (nms p)[j]? with
  | none => simp
  | some x => have := nms_len p x (List.mem_of_getElem? h); simp; omega

def flat (ns : List (List UInt8)) : List UInt8 := ns.flatMap (fun n => 47 :: n)

/-- The path that has these names. -/
def jn (ns : List (List UInt8)) : List UInt8 := if ns = [] then [47] else flat ns

theorem jn_join (ns : List (List UInt8)) : 47 :: Lib.join ns [47] = jn ns := by
  cases ns with
  | nil => rfl
  | cons x r =>
    rw [Lib.join_cons]
    unfold jn flat Lib.joinTail
    rw [if_neg (by simp), List.flatMap_cons]
    simp [List.flatMap]

def nmB (n : List UInt8) : Bool := nameB (St n)

theorem nmB_len {n : List UInt8} (h : nmB n = true) : 1 ≤ n.length ∧ n.length ≤ 13 := by
  unfold nmB nameB at h
  simp only [Bool.and_eq_true, decide_eq_true_eq, St_size] at h
  exact h.1.1.1

theorem nmB_no {n : List UInt8} (h : nmB n = true) : 47 ∉ n := by
  unfold nmB nameB at h
  simp only [Bool.and_eq_true, decide_eq_true_eq, List.all_eq_true] at h
  intro hm
  have := h.2 47 (by unfold byts; rw [data_St]; exact List.mem_map.2 ⟨47, hm, by decide⟩)
  revert this
  decide

/-- Do these names make a path? -/
def okN (ns : List (List UInt8)) : Bool := decide (ns.length ≤ 16) && ns.all nmB && decide ((jn ns).length ≤ 200)

theorem okN_iff (ns : List (List UInt8)) : okN ns = true ↔ ns.length ≤ 16 ∧ (∀ n ∈ ns, nmB n = true) ∧ (jn ns).length ≤ 200 := by
  unfold okN
  simp [and_assoc]

/-- The names of a path; none, if it is no path. -/
def spl (p : List UInt8) : Option (List (List UInt8)) := if okN (nms p) = true ∧ jn (nms p) = p then some (nms p) else none

theorem segs_names (x : List UInt8) (r : List (List UInt8)) (hx : 47 ∉ x) (hr : ∀ n ∈ r, 47 ∉ n) : segs (x ++ flat r) = x :: r := by
  induction x with
  | nil =>
    cases r with
    | nil => rfl
    | cons y r =>
      have : segs (y ++ flat r) = y :: r := by
        induction r generalizing y with
        | nil =>
          have hy := hr y (by simp)
          clear hr
          simp only [flat, List.flatMap_nil, List.append_nil]
          induction y with
          | nil => rfl
          | cons b y ih =>
            unfold segs
            rw [if_neg (by intro e; exact hy (by simp [e])), ih (by intro h; exact hy (by simp [h]))]
            rfl
        | cons z r ih2 =>
          have hy := hr y (by simp)
          have hz := ih2 z (by intro n hn; exact hr n (by simp only [List.mem_cons] at hn ⊢; exact .inr hn))
          clear hr ih2
          induction y with
          | nil =>
            show segs (47 :: (z ++ flat r)) = _
            unfold segs
            rw [if_pos rfl, hz]
          | cons b y ih =>
            show segs (b :: (y ++ flat (z :: r))) = _
            unfold segs
            rw [if_neg (by intro e; exact hy (by simp [e])), ih (by intro h; exact hy (by simp [h]))]
            rfl
      show segs (47 :: (y ++ flat r)) = _
      unfold segs
      rw [if_pos rfl, this]
  | cons b x ih =>
    show segs (b :: (x ++ flat r)) = _
    unfold segs
    rw [if_neg (by intro e; exact hx (by simp [e])), ih (by intro h; exact hx (by simp [h]))]
    rfl

theorem takeWhile_all {α : Type} (p : α → Bool) (l : List α) (h : ∀ x ∈ l, p x = true) : l.takeWhile p = l := by
  induction l with
  | nil => rfl
  | cons x l ih => rw [List.takeWhile_cons, if_pos (h x (by simp)), ih (fun y hy => h y (by simp [hy]))]

theorem nms_jn {ns : List (List UInt8)} (h : ∀ n ∈ ns, nmB n = true) : nms (jn ns) = ns := by
  cases ns with
  | nil => rfl
  | cons x r =>
    have e : drop1 (jn (x :: r)) = x ++ flat r := by
      unfold jn
      rw [if_neg (by simp)]
      rfl
    unfold nms nm
    rw [e, segs_names x r (nmB_no (h x (by simp))) (fun n hn => nmB_no (h n (by simp [hn])))]
    refine takeWhile_all _ _ (fun y hy => ?_)
    have := (nmB_len (h y hy)).1
    cases y with
    | nil => simp at this
    | cons _ _ => rfl

theorem spl_jn {ns : List (List UInt8)} (h : okN ns = true) : spl (jn ns) = some ns := by
  have hn := ((okN_iff ns).1 h).2.1
  unfold spl
  rw [nms_jn hn, if_pos ⟨h, rfl⟩]

theorem spl_some {p : List UInt8} {ns : List (List UInt8)} (h : spl p = some ns) : okN ns = true ∧ p = jn ns ∧ nms p = ns := by
  unfold spl at h
  split at h
  · rename_i hc
    simp only [Option.some.injEq] at h
    subst h
    exact ⟨hc.1, hc.2.symm, rfl⟩
  · cases h

theorem jn_inj {a b : List (List UInt8)} (ha : okN a = true) (hb : okN b = true) (h : jn a = jn b) : a = b := by
  have := spl_jn ha
  rw [h, spl_jn hb] at this
  simpa using this.symm

theorem spl_len {p : List UInt8} {ns : List (List UInt8)} (h : spl p = some ns) : p.length ≤ 200 := by
  obtain ⟨h1, h2, _⟩ := spl_some h
  rw [h2]
  exact ((okN_iff ns).1 h1).2.2

theorem flat_append (a b : List (List UInt8)) : flat (a ++ b) = flat a ++ flat b := by simp [flat]

theorem jn_len (ns : List (List UInt8)) : (jn ns).length = if ns = [] then 1 else (flat ns).length := by unfold jn; split <;> simp

theorem okN_take {ns : List (List UInt8)} (h : okN ns = true) (k : Nat) : okN (ns.take k) = true := by
  rw [okN_iff] at h ⊢
  refine ⟨by rw [List.length_take]; omega, fun n hn => h.2.1 n (List.mem_of_mem_take hn), ?_⟩
  rw [jn_len]
  split
  · omega
  · have h3 := h.2.2
    rw [jn_len] at h3
    have hne : ns ≠ [] := by intro e; subst e; simp_all
    rw [if_neg hne] at h3
    have : flat ns = flat (ns.take k) ++ flat (ns.drop k) := by rw [← flat_append, List.take_append_drop]
    rw [this, List.length_append] at h3
    omega

/-- The error of Split. -/
def splE (p : List UInt8) : Int := if (spl p).isSome = true then 0 else 16

end Go.Proofs.YtknmgefpjdfenaaGreat
