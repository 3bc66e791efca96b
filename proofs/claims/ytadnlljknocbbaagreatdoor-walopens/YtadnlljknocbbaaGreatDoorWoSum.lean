/- The sum of bytes as numbers: plain mathematics, of no function of the program. -/
import Derived.Laws.BitsAllLaws
namespace Go.Proofs.YtadnlljknocbbaaGreatDoor
set_option linter.unusedVariables false

/-- One step of the sum. -/
def st (c : Nat) : Nat := c / 2 ^^^ (if c % 2 = 1 then 3988292384 else 0)

theorem xor_div (a b k : Nat) : (a ^^^ b) / 2 ^ k = a / 2 ^ k ^^^ b / 2 ^ k := by
  rw [← Nat.shiftRight_eq_div_pow, ← Nat.shiftRight_eq_div_pow, ← Nat.shiftRight_eq_div_pow, Nat.shiftRight_xor_distrib]

theorem xor_two (a b : Nat) : (a ^^^ b) / 2 = a / 2 ^^^ b / 2 := xor_div a b 1

theorem xor_sixteen (a b : Nat) : (a ^^^ b) / 16 = a / 16 ^^^ b / 16 := xor_div a b 4

theorem xor_mod (a b k : Nat) : (a ^^^ b) % 2 ^ k = (a % 2 ^ k) ^^^ (b % 2 ^ k) := Nat.xor_mod_two_pow

theorem xor_cancel_left {a b c : Nat} (h : a ^^^ b = a ^^^ c) : b = c := by
  have : a ^^^ (a ^^^ b) = a ^^^ (a ^^^ c) := by rw [h]
  rwa [← Nat.xor_assoc, ← Nat.xor_assoc, Nat.xor_self, Nat.zero_xor, Nat.zero_xor] at this

theorem xor_zero_eq {a b : Nat} (h : a ^^^ b = 0) : a = b := by
  have : a ^^^ b = a ^^^ a := by rw [h, Nat.xor_self]
  exact (xor_cancel_left this).symm

theorem xor_twice (a b : Nat) : (a ^^^ b) ^^^ b = a := by rw [Nat.xor_assoc, Nat.xor_self, Nat.xor_zero]

theorem xor_swap (a b c d : Nat) : (a ^^^ b) ^^^ (c ^^^ d) = (a ^^^ c) ^^^ (b ^^^ d) := by
  rw [Nat.xor_assoc, ← Nat.xor_assoc b c d, Nat.xor_comm b c, Nat.xor_assoc c b d, ← Nat.xor_assoc]

theorem st_xor (a b : Nat) : st (a ^^^ b) = st a ^^^ st b := by
  unfold st
  rw [xor_two, xor_swap]
  congr 1
  have h := xor_mod a b 1
  rw [Nat.pow_one] at h
  rcases Nat.mod_two_eq_zero_or_one a with ha | ha <;> rcases Nat.mod_two_eq_zero_or_one b with hb | hb <;> rw [h, ha, hb] <;> decide

theorem lt_xor {a b : Nat} (ha : a < 4294967296) (hb : b < 4294967296) : a ^^^ b < 4294967296 := Nat.xor_lt_two_pow (n := 32) ha hb

theorem st_lt {c : Nat} (h : c < 4294967296) : st c < 4294967296 := by
  unfold st
  refine lt_xor (by omega) ?_
  split <;> omega

theorem st_zero {c : Nat} (h : c < 4294967296) (h0 : st c = 0) : c = 0 := by
  unfold st at h0
  have := xor_zero_eq h0
  split at this <;> omega

theorem st_inj {a b : Nat} (ha : a < 4294967296) (hb : b < 4294967296) (h : st a = st b) : a = b :=
  xor_zero_eq (st_zero (lt_xor ha hb) (by rw [st_xor, h, Nat.xor_self]))

theorem st_even (q : Nat) : st (2 * q) = q := by
  unfold st
  rw [if_neg (by omega), Nat.xor_zero]
  omega

/-- Four steps. -/
def st4 (c : Nat) : Nat := st (st (st (st c)))

theorem st4_xor (a b : Nat) : st4 (a ^^^ b) = st4 a ^^^ st4 b := by simp only [st4, st_xor]

theorem st4_sixteen (q : Nat) : st4 (16 * q) = q := by
  have h : 16 * q = 2 * (2 * (2 * (2 * q))) := by omega
  rw [st4, h, st_even, st_even, st_even, st_even]

/-- What four steps make of four bits. -/
def tab (r : Nat) : Nat := ([0, 498536548, 997073096, 651767980, 1994146192, 1802195444, 1303535960, 1342533948, 3988292384, 4027552580, 3604390888, 3412177804, 2607071920, 2262029012, 2685067896, 3183342108][r]?).getD 0

theorem st4_small (r : Nat) (h : r < 16) : st4 r = tab r := by
  have : ∀ r : Fin 16, st4 r.1 = tab r.1 := by decide +kernel
  exact this ⟨r, h⟩

theorem tab_lt (r : Nat) : tab r < 4294967296 := by
  by_cases h : r < 16
  · have : ∀ r : Fin 16, tab r.1 < 4294967296 := by decide +kernel
    exact this ⟨r, h⟩
  · rw [tab, List.getElem?_eq_none (by simp; omega)]
    decide

theorem sixteen_xor (q r : Nat) (h : r < 16) : 16 * q ^^^ r = 16 * q + r := by
  have h1 := xor_sixteen (16 * q) r
  have h2 := xor_mod (16 * q) r 4
  have e1 : 16 * q / 16 = q := by omega
  have e2 : r / 16 = 0 := by omega
  have e3 : 16 * q % 2 ^ 4 = 0 := by omega
  have e4 : r % 2 ^ 4 = r := by omega
  rw [e1, e2, Nat.xor_zero] at h1
  rw [e3, e4, Nat.zero_xor] at h2
  omega

/-- Four steps by one look. -/
theorem st4_look (c : Nat) : st4 c = c / 16 ^^^ tab (c % 16) := by
  have h : c = 16 * (c / 16) ^^^ (c % 16) := by rw [sixteen_xor _ _ (by omega)]; omega
  have hr : c % 16 < 16 := by omega
  have h2 := st4_xor (16 * (c / 16)) (c % 16)
  rw [st4_sixteen, st4_small _ hr] at h2
  rw [← h2, ← h]

theorem st4_lt {c : Nat} (h : c < 4294967296) : st4 c < 4294967296 := st_lt (st_lt (st_lt (st_lt h)))

/-- Eight steps: a byte. -/
def upd (c x : Nat) : Nat := st4 (st4 (c ^^^ x))

theorem upd_lt {c x : Nat} (h : c < 4294967296) (hx : x < 256) : upd c x < 4294967296 := st4_lt (st4_lt (lt_xor h (by omega)))

theorem st4_inj {a b : Nat} (ha : a < 4294967296) (hb : b < 4294967296) (h : st4 a = st4 b) : a = b :=
  st_inj ha hb (st_inj (st_lt ha) (st_lt hb) (st_inj (st_lt (st_lt ha)) (st_lt (st_lt hb)) (st_inj (st_lt (st_lt (st_lt ha))) (st_lt (st_lt (st_lt hb))) h)))

theorem upd_inj {a b x y : Nat} (ha : a < 4294967296) (hb : b < 4294967296) (hx : x < 256) (hy : y < 256) (h : upd a x = upd b y) : a ^^^ x = b ^^^ y :=
  st4_inj (lt_xor ha (by omega)) (lt_xor hb (by omega)) (st4_inj (st4_lt (lt_xor ha (by omega))) (st4_lt (lt_xor hb (by omega))) h)

theorem upd_xor (a b x y : Nat) : upd (a ^^^ b) (x ^^^ y) = upd a x ^^^ upd b y := by
  rw [upd, xor_swap, st4_xor, st4_xor]; rfl

/-- The state behind these bytes. -/
def fol (c : Nat) (zs : List Int) : Nat := zs.foldl (fun c z => upd c z.toNat) c

/-- Bytes. -/
def Byts (zs : List Int) : Prop := ∀ z ∈ zs, 0 ≤ z ∧ z ≤ 255

theorem fol_nil (c : Nat) : fol c [] = c := rfl

theorem fol_cons (c : Nat) (z : Int) (zs : List Int) : fol c (z :: zs) = fol (upd c z.toNat) zs := rfl

theorem fol_append (c : Nat) (xs ys : List Int) : fol c (xs ++ ys) = fol (fol c xs) ys := by simp [fol]

theorem fol_lt {zs : List Int} (hz : Byts zs) : ∀ {c : Nat}, c < 4294967296 → fol c zs < 4294967296 := by
  induction zs with
  | nil => intro c h; exact h
  | cons z zs ih =>
    intro c h
    have h0 := hz z (by simp)
    rw [fol_cons]
    exact ih (fun y hy => hz y (by simp [hy])) (upd_lt h (by omega))

theorem fol_succ (c : Nat) (zs : List Int) (k : Nat) (h : k < zs.length) : fol c (zs.take (k + 1)) = upd (fol c (zs.take k)) (zs[k]?.getD 0).toNat := by
  rw [List.take_succ_eq_append_getElem h, fol_append, List.getElem?_eq_getElem h]
  rfl

theorem fol_inj {zs : List Int} (hz : Byts zs) : ∀ {a b : Nat}, a < 4294967296 → b < 4294967296 → fol a zs = fol b zs → a = b := by
  induction zs with
  | nil => intro a b _ _ h; exact h
  | cons z zs ih =>
    intro a b ha hb h
    have h0 := hz z (by simp)
    rw [fol_cons, fol_cons] at h
    have := upd_inj ha hb (by omega) (by omega) (ih (fun y hy => hz y (by simp [hy])) (upd_lt ha (by omega)) (upd_lt hb (by omega)) h)
    rw [Nat.xor_comm a, Nat.xor_comm b] at this
    exact xor_cancel_left this

/-- The sum that goes on from s. -/
def addS (s : Nat) (zs : List Int) : Nat := fol (s ^^^ 4294967295) zs ^^^ 4294967295

/-- The sum. -/
def sumS (zs : List Int) : Nat := fol 4294967295 zs ^^^ 4294967295

theorem addS_zero (zs : List Int) : addS 0 zs = sumS zs := by rw [addS, Nat.zero_xor, sumS]

theorem addS_lt {s : Nat} {zs : List Int} (hs : s < 4294967296) (hz : Byts zs) : addS s zs < 4294967296 := lt_xor (fol_lt hz (lt_xor hs (by omega))) (by omega)

theorem sumS_lt {zs : List Int} (hz : Byts zs) : sumS zs < 4294967296 := lt_xor (fol_lt hz (by omega)) (by omega)

/-- A sum goes on. -/
theorem addS_sumS (xs ys : List Int) : addS (sumS xs) ys = sumS (xs ++ ys) := by
  rw [addS, sumS, sumS, xor_twice, fol_append]

theorem sumS_nine : sumS [49, 50, 51, 52, 53, 54, 55, 56, 57] = 3421780262 := by decide +kernel

/-- Two texts xor each other, byte by byte. -/
def xorB (xs ys : List Int) : List Int := List.zipWith (fun x y => ((x.toNat ^^^ y.toNat : Nat) : Int)) xs ys

theorem fol_xor : ∀ (xs ys : List Int) (a b : Nat), xs.length = ys.length → fol (a ^^^ b) (xorB xs ys) = fol a xs ^^^ fol b ys := by
  intro xs
  induction xs with
  | nil => intro ys a b h; cases ys with | nil => rfl | cons y ys => simp at h
  | cons x xs ih =>
    intro ys a b h
    cases ys with
    | nil => simp at h
    | cons y ys =>
      simp only [List.length_cons, Nat.add_right_cancel_iff] at h
      show fol (a ^^^ b) (((x.toNat ^^^ y.toNat : Nat) : Int) :: xorB xs ys) = _
      rw [fol_cons, Int.toNat_natCast, upd_xor, ih ys _ _ h]
      rfl

theorem xorB_zero (zs : List Int) (hz : Byts zs) (n : Nat) (h : zs.length = n) : xorB zs (List.replicate n 0) = zs := by
  subst h
  induction zs with
  | nil => rfl
  | cons z zs ih =>
    have h0 := hz z (by simp)
    show ((z.toNat ^^^ (0 : Int).toNat : Nat) : Int) :: xorB zs (List.replicate zs.length 0) = _
    rw [ih (fun y hy => hz y (by simp [hy])), show (0 : Int).toNat = 0 from rfl, Nat.xor_zero, Int.toNat_of_nonneg h0.1]

theorem length_xorB (xs ys : List Int) (h : xs.length = ys.length) : (xorB xs ys).length = xs.length := by simp [xorB, h]

theorem xorB_byte (xs ys : List Int) (h1 : Byts xs) (h2 : Byts ys) : Byts (xorB xs ys) := by
  induction xs generalizing ys with
  | nil => intro z hz; simp [xorB] at hz
  | cons x xs ih =>
    cases ys with
    | nil => intro z hz; simp [xorB] at hz
    | cons y ys =>
      intro z hz
      have hz' : z = ((x.toNat ^^^ y.toNat : Nat) : Int) ∨ z ∈ xorB xs ys := by simpa [xorB] using hz
      rcases hz' with rfl | hz'
      · have a1 := h1 x (by simp)
        have a2 := h2 y (by simp)
        have : x.toNat ^^^ y.toNat < 2 ^ 8 := Nat.xor_lt_two_pow (by omega) (by omega)
        omega
      · exact ih ys (fun y hy => h1 y (by simp [hy])) (fun y hy => h2 y (by simp [hy])) z hz'

/-- Sums go over xor. -/
theorem sumS_xor (xs ys : List Int) (hx : Byts xs) (hy : Byts ys) (n : Nat) (h1 : xs.length = n) (h2 : ys.length = n) : sumS (xorB xs ys) = sumS xs ^^^ sumS ys ^^^ sumS (List.replicate n 0) := by
  have hl : (xorB xs ys).length = n := by rw [length_xorB _ _ (by omega), h1]
  have e : fol ((4294967295 ^^^ 4294967295) ^^^ 4294967295) (xorB (xorB xs ys) (List.replicate n 0)) = fol 4294967295 xs ^^^ fol 4294967295 ys ^^^ fol 4294967295 (List.replicate n 0) := by
    rw [fol_xor _ _ _ _ (by simp [hl]), fol_xor _ _ _ _ (by omega)]
  rw [xorB_zero _ (xorB_byte xs ys hx hy) n hl, show ((4294967295 ^^^ 4294967295) ^^^ 4294967295 : Nat) = 4294967295 by decide] at e
  have e3 : ∀ a b c m : Nat, (a ^^^ m) ^^^ (b ^^^ m) ^^^ (c ^^^ m) = (a ^^^ b ^^^ c) ^^^ m := by
    intro a b c m
    rw [xor_swap a m b m, Nat.xor_self, Nat.xor_zero, ← Nat.xor_assoc]
  unfold sumS
  rw [e, e3]

/-- One byte that is turned makes another state. -/
theorem fol_turned (c : Nat) (hc : c < 4294967296) (zs : List Int) (hz : Byts zs) (i : Nat) (hi : i < zs.length) (y : Int) (hy : 0 ≤ y ∧ y ≤ 255) (hne : y ≠ zs[i]?.getD 0) : fol c (zs.set i y) ≠ fol c zs := by
  intro h
  have e1 : zs = zs.take i ++ zs[i] :: zs.drop (i + 1) := by rw [← List.drop_eq_getElem_cons hi, List.take_append_drop]
  have e2 : zs.set i y = zs.take i ++ y :: zs.drop (i + 1) := by rw [List.set_eq_take_append_cons_drop, if_pos hi]
  rw [e2] at h
  have e3 : fol c zs = fol c (zs.take i ++ zs[i] :: zs.drop (i + 1)) := by rw [← e1]
  rw [e3, fol_append, fol_append, fol_cons, fol_cons] at h
  have ht : Byts (zs.take i) := fun z hz' => hz z (List.mem_of_mem_take hz')
  have hd : Byts (zs.drop (i + 1)) := fun z hz' => hz z (List.mem_of_mem_drop hz')
  have h0 := hz zs[i] (List.getElem_mem _)
  have hf := fol_lt ht hc
  have := upd_inj hf hf (by omega) (by omega) (fol_inj hd (upd_lt hf (by omega)) (upd_lt hf (by omega)) h)
  have := xor_cancel_left this
  rw [List.getElem?_eq_getElem hi, Option.getD_some] at hne
  omega

theorem sumS_turned (zs : List Int) (hz : Byts zs) (i : Nat) (hi : i < zs.length) (y : Int) (hy : 0 ≤ y ∧ y ≤ 255) (hne : y ≠ zs[i]?.getD 0) : sumS (zs.set i y) ≠ sumS zs := by
  intro h
  unfold sumS at h
  rw [Nat.xor_comm, Nat.xor_comm (fol _ zs)] at h
  exact fol_turned _ (by omega) zs hz i hi y hy hne (xor_cancel_left h)

end Go.Proofs.YtadnlljknocbbaaGreatDoor
