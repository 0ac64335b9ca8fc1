import PyProof.Rows.All
import Wide.All
import OpenK.AllK
import Wide.FinOn
import HandS.ForMost
import HandS.Evl
import HandS.Codes
import HandS.EndBits
import HandS.IsInst
import HandS.Wide
import HandS.Exc
import HandS.Star
import KE.GoesEnum
import HandS.Walk
import HandS.Rev
import HandS.Style
import HandS.RaiseMore
import PyProof.ReprRoads
import PyProof.ReprLen
import HandS.ExcOwn
import HandS.WordsExc
import HandS.TryOnly
import PySem.Challenge.RW_matedsquares_k20_whole_powers_by_the_pri
set_option Elab.async false
set_option linter.all false
set_option maxRecDepth 100000
/-! mirrors of the program's defs and of the law's, over lists of ints -/
namespace Mi
def sizeI (p : Int) : Nat → Int
  | 0 => 1
  | n + 1 => sizeI p n * p
def figs (p : Int) : Nat → Int → List Int
  | 0, _ => []
  | c + 1, n => n % p :: figs p c (n / p)
def divs (p : Int) : Nat → Int → Int
  | 0, n => n
  | c + 1, n => divs p c n / p
theorem divs_succ (p : Int) : ∀ (c : Nat) (n : Int), divs p c (n / p) = divs p (c + 1) n
  | 0, _ => rfl
  | c + 1, n => by show divs p c (n / p) / p = _; rw [divs_succ p c n]; rfl
theorem figs_snoc (p : Int) : ∀ (c : Nat) (n : Int), figs p (c + 1) n = figs p c n ++ [divs p c n % p]
  | 0, _ => rfl
  | c + 1, n => by
    show n % p :: figs p (c + 1) (n / p) = n % p :: (figs p c (n / p) ++ _)
    rw [figs_snoc p c (n / p), divs_succ]
theorem figs_len (p : Int) : ∀ (c : Nat) (n : Int), (figs p c n).length = c
  | 0, _ => rfl
  | c + 1, n => by show (figs p c (n / p)).length + 1 = c + 1; rw [figs_len]
theorem figs_mem {p : Int} (hp : 0 < p) : ∀ (c : Nat) (n : Int), ∀ x ∈ figs p c n, 0 ≤ x ∧ x < p
  | 0, _, x, h => by cases h
  | c + 1, n, x, h => by
    rcases List.mem_cons.mp h with e | e
    · subst e; exact ⟨Int.emod_nonneg _ (by omega), Int.emod_lt_of_pos _ hp⟩
    · exact figs_mem hp c _ x e
def num (p : Int) : List Int → Int
  | [] => 0
  | f :: r => num p r * p + f
end Mi
namespace Mi
def trial (n : Int) : Nat → Int → Bool
  | 0, _ => true
  | f + 1, d => if d * d ≤ n then (if n % d = 0 then false else trial n f (d + 1)) else true
def isPr (n : Int) : Bool := if n < 2 then false else trial n 1001 2
end Mi
namespace Mi
def isField (p k : Int) : Bool :=
  if k = 1 then (decide (p ≤ 1000000) && isPr p)
  else if ((decide (k < 2) || decide (12 < k)) || decide (97 < p)) = true then false else (isPr p && decide (sizeI p k.toNat ≤ 1000000000000000))
theorem isPr_two {n : Int} (h : isPr n = true) : 2 ≤ n := by
  unfold isPr at h
  split at h
  · cases h
  · omega
theorem isField_b {p k : Int} (h : isField p k = true) : 2 ≤ p ∧ p ≤ 1000000 ∧ 1 ≤ k ∧ k ≤ 12 := by
  unfold isField at h
  split at h
  · rw [Bool.and_eq_true, decide_eq_true_eq] at h
    have := isPr_two h.2
    omega
  · split at h
    · cases h
    · rename_i h1 h2
      rw [Bool.and_eq_true] at h
      have := isPr_two h.1
      simp only [Bool.or_eq_true, decide_eq_true_eq, not_or] at h2
      omega
theorem sizeI_pos {p : Int} (hp : 0 < p) : ∀ n : Nat, 0 < sizeI p n
  | 0 => by show (0 : Int) < 1; decide
  | n + 1 => Int.mul_pos (sizeI_pos hp n) hp
def wm (p f : Int) : Nat → Int → Int → Int
  | 0, _, _ => 0
  | n + 1, a, b => if 0 < a ∨ 0 < b then (a % p + f * (b % p)) % p + p * wm p f n (a / p) (b / p) else 0
end Mi
namespace Mi
def euc : Nat → Int → Int → Int → Int → Int
  | 0, _, _, bf, _ => bf
  | n + 1, b, r, bf, f => if 0 < r then euc n r (b - b / r * r) f (bf - b / r * f) else bf
def invM (x m : Int) : Int := euc m.toNat m (x % m) 0 1 % m
def dropHZ : List Int → List Int
  | [] => []
  | x :: r => if (dropHZ r).isEmpty && x == 0 then [] else x :: dropHZ r
theorem dropHZ_zero : ∀ l : List Int, dropHZ (l ++ [0]) = dropHZ l
  | [] => rfl
  | x :: r => by show (if (dropHZ (r ++ [0])).isEmpty && x == 0 then [] else x :: dropHZ (r ++ [0])) = _; rw [dropHZ_zero r]; rfl
theorem dropHZ_last {y : Int} (hy : y ≠ 0) : ∀ l : List Int, dropHZ (l ++ [y]) = l ++ [y]
  | [] => by show (if true && y == 0 then [] else [y]) = [y]; rw [if_neg (by simp [hy])]
  | x :: r => by
    show (if (dropHZ (r ++ [y])).isEmpty && x == 0 then [] else x :: dropHZ (r ++ [y])) = _
    rw [dropHZ_last hy r, if_neg (by simp)]; rfl
theorem dropHZ_len : ∀ l : List Int, (dropHZ l).length ≤ l.length
  | [] => Nat.le_refl _
  | x :: r => by
    show (if (dropHZ r).isEmpty && x == 0 then [] else x :: dropHZ r).length ≤ _
    split
    · exact Nat.zero_le _
    · exact Nat.succ_le_succ (dropHZ_len r)
theorem dropHZ_mem : ∀ (l : List Int) (x : Int), x ∈ dropHZ l → x ∈ l
  | [], _, h => h
  | y :: r, x, h => by
    have h' : x ∈ (if (dropHZ r).isEmpty && y == 0 then [] else y :: dropHZ r) := h
    split at h'
    · cases h'
    · rcases List.mem_cons.mp h' with e | e
      · exact List.mem_cons.mpr (.inl e)
      · exact List.mem_cons_of_mem _ (dropHZ_mem r x e)
/-- the row less fac times other, from a place on -/
def subL (p fac : Int) : Nat → List Int → List Int → List Int
  | _, [], rest => rest
  | pl, o :: os, rest => subL p fac (pl + 1) os (rest.set pl ((rest.getD pl 0 - fac * o) % p))
theorem subL_len (p fac : Int) : ∀ (os : List Int) (pl : Nat) (rest : List Int), (subL p fac pl os rest).length = rest.length
  | [], _, _ => rfl
  | o :: os, pl, rest => by rw [subL, subL_len p fac os, List.length_set]
theorem subL_snoc (p fac : Int) : ∀ (os : List Int) (o : Int) (pl : Nat) (rest : List Int), subL p fac pl (os ++ [o]) rest = (subL p fac pl os rest).set (pl + os.length) (((subL p fac pl os rest).getD (pl + os.length) 0 - fac * o) % p)
  | [], _, _, _ => rfl
  | o' :: os, o, pl, rest => by
    rw [List.cons_append, subL, subL_snoc p fac os]
    show _ = (subL p fac (pl + 1) os _).set (pl + (os.length + 1)) _
    rw [show pl + 1 + os.length = pl + (os.length + 1) by omega]; rfl
/-- the remainder's row: fuel, back, other, rest -/
def remR (p back : Int) (other : List Int) : Nat → List Int → List Int
  | 0, rest => rest
  | n + 1, rest => if other.length ≤ rest.length then remR p back other n ((subL p (rest.getD (rest.length - 1) 0 * back % p) (rest.length - other.length) other rest).dropLast) else rest
def remB (p : Int) (one other : List Int) : List Int := dropHZ (remR p (invM (other.getD (other.length - 1) 0) p) other (one.length + 1) one)
theorem remR_len (p back : Int) (other : List Int) (h0 : other ≠ []) : ∀ (n : Nat) (rest : List Int), rest.length < n + other.length → (remR p back other n rest).length < other.length
  | 0, rest, h => by show rest.length < _; omega
  | n + 1, rest, h => by
    have h1 : 0 < other.length := List.length_pos_iff.mpr h0
    rw [remR]
    split
    · refine remR_len p back other h0 n _ ?_
      rw [List.length_dropLast, subL_len]; omega
    · omega
theorem remB_len (p : Int) (one other : List Int) (h0 : other ≠ []) : (remB p one other).length < other.length :=
  Nat.lt_of_le_of_lt (dropHZ_len _) (remR_len p _ other h0 _ _ (by have := List.length_pos_iff.mpr h0; omega))
def gcdL (p : Int) : Nat → List Int → List Int → List Int
  | 0, one, _ => one
  | n + 1, one, other => if other.isEmpty then one else gcdL p n other (remB p one other)
def commonB (p : Int) (one other : List Int) : Bool := decide (1 < ((gcdL p (other.length + 1) (dropHZ one) (dropHZ other)).length : Int))
end Mi
namespace Mi
def addL (f : Int) : Nat → List Int → List Int → List Int
  | _, [], rest => rest
  | pl, o :: os, rest => addL f (pl + 1) os (rest.set pl (rest.getD pl 0 + f * o))
theorem addL_len (f : Int) : ∀ (os : List Int) (pl : Nat) (rest : List Int), (addL f pl os rest).length = rest.length
  | [], _, _ => rfl
  | o :: os, pl, rest => by rw [addL, addL_len f os, List.length_set]
theorem addL_snoc (f : Int) : ∀ (os : List Int) (o : Int) (pl : Nat) (rest : List Int), addL f pl (os ++ [o]) rest = (addL f pl os rest).set (pl + os.length) ((addL f pl os rest).getD (pl + os.length) 0 + f * o)
  | [], _, _, _ => rfl
  | o' :: os, o, pl, rest => by
    rw [List.cons_append, addL, addL_snoc f os]
    show _ = (addL f (pl + 1) os _).set (pl + (os.length + 1)) _
    rw [show pl + 1 + os.length = pl + (os.length + 1) by omega]; rfl
def mulA (other : List Int) : Nat → List Int → List Int → List Int
  | _, [], rest => rest
  | pl, f :: fs, rest => mulA other (pl + 1) fs (if 0 < f then addL f pl other rest else rest)
theorem mulA_len (other : List Int) : ∀ (fs : List Int) (pl : Nat) (rest : List Int), (mulA other pl fs rest).length = rest.length
  | [], _, _ => rfl
  | f :: fs, pl, rest => by
    rw [mulA, mulA_len other fs]
    split
    · exact addL_len _ _ _ _
    · rfl
theorem mulA_snoc (other : List Int) : ∀ (fs : List Int) (f : Int) (pl : Nat) (rest : List Int), mulA other pl (fs ++ [f]) rest = if 0 < f then addL f (pl + fs.length) other (mulA other pl fs rest) else mulA other pl fs rest
  | [], _, _, _ => rfl
  | f' :: fs, f, pl, rest => by
    rw [List.cons_append, mulA, mulA_snoc other fs]
    show _ = if 0 < f then addL f (pl + (fs.length + 1)) other (mulA other (pl + 1) fs _) else _
    rw [show pl + 1 + fs.length = pl + (fs.length + 1) by omega]; rfl
def lowP : Nat → List Int → List (Nat × Int)
  | _, [] => []
  | i, f :: fs => if 0 < f then (i, f) :: lowP (i + 1) fs else lowP (i + 1) fs
theorem lowP_snoc : ∀ (fs : List Int) (f : Int) (i : Nat), lowP i (fs ++ [f]) = lowP i fs ++ (if 0 < f then [(i + fs.length, f)] else [])
  | [], f, i => by show (if 0 < f then [(i, f)] else []) = [] ++ (if 0 < f then [(i + 0, f)] else []); rfl
  | f' :: fs, f, i => by
    rw [List.cons_append, lowP, lowP_snoc fs, lowP]
    rw [show i + 1 + fs.length = i + (f' :: fs).length by rw [List.length_cons]; omega]
    split
    · rfl
    · rfl
theorem lowP_mem : ∀ (fs : List Int) (i : Nat), ∀ q ∈ lowP i fs, q.1 < i + fs.length
  | [], _, _, h => by cases h
  | f :: fs, i, q, h => by
    rw [lowP] at h
    rw [List.length_cons]
    split at h
    · rcases List.mem_cons.mp h with e | e
      · rw [e]; show i < _; omega
      · have := lowP_mem fs (i + 1) q e; omega
    · have := lowP_mem fs (i + 1) q h; omega
def subP (lead : Int) (place : Nat) : List (Nat × Int) → List Int → List Int
  | [], rest => rest
  | q :: ps, rest => subP lead place ps (rest.set (place + q.1) (rest.getD (place + q.1) 0 - lead * q.2))
theorem subP_len (lead : Int) (place : Nat) : ∀ (ps : List (Nat × Int)) (rest : List Int), (subP lead place ps rest).length = rest.length
  | [], _ => rfl
  | q :: ps, rest => by rw [subP, subP_len lead place ps, List.length_set]
theorem subP_snoc (lead : Int) (place : Nat) : ∀ (ps : List (Nat × Int)) (q : Nat × Int) (rest : List Int), subP lead place (ps ++ [q]) rest = (subP lead place ps rest).set (place + q.1) ((subP lead place ps rest).getD (place + q.1) 0 - lead * q.2)
  | [], _, _ => rfl
  | q' :: ps, q, rest => by rw [List.cons_append, subP, subP_snoc lead place ps]; rfl
def redL (p : Int) (d : Nat) (low : List (Nat × Int)) : Nat → List Int → List Int
  | 0, rest => rest
  | n + 1, rest => if d < rest.length then redL p d low n (subP (rest.getD (rest.length - 1) 0 % p) (rest.length - 1 - d) low rest.dropLast) else rest
theorem redL_len (p : Int) (d : Nat) (low : List (Nat × Int)) : ∀ (n : Nat) (rest : List Int), d ≤ rest.length → rest.length ≤ n + d → (redL p d low n rest).length = d
  | 0, rest, h1, h2 => by show rest.length = d; omega
  | n + 1, rest, h1, h2 => by
    rw [redL]
    split
    · refine redL_len p d low n _ ?_ ?_
      · rw [subP_len, List.length_dropLast]; omega
      · rw [subP_len, List.length_dropLast]; omega
    · omega
def mulM (p : Int) (lower one other : List Int) : List Int :=
  (redL p lower.length (lowP 0 lower) (2 * lower.length) (mulA other 0 one (List.replicate (2 * lower.length - 1) 0))).map (· % p)
theorem mulM_len {p : Int} {lower one other : List Int} (h : 1 ≤ lower.length) : (mulM p lower one other).length = lower.length := by
  unfold mulM
  rw [List.length_map, redL_len]
  · rw [mulA_len, List.length_replicate]; omega
  · rw [mulA_len, List.length_replicate]; omega
theorem mulM_mem {p : Int} (hp : 0 < p) {lower one other : List Int} : ∀ x ∈ mulM p lower one other, 0 ≤ x ∧ x < p := by
  intro x hx
  unfold mulM at hx
  obtain ⟨y, _, rfl⟩ := List.mem_map.mp hx
  exact ⟨Int.emod_nonneg _ (by omega), Int.emod_lt_of_pos _ hp⟩
def oneL (d : Nat) : List Int := 1 :: List.replicate (d - 1) 0
def powL (p : Int) (lower : List Int) : Nat → List Int → List Int → Int → List Int
  | 0, r, _, _ => r
  | n + 1, r, f, t => if 0 < t then powL p lower n (if t % 2 = 1 then mulM p lower r f else r) (if 0 < t / 2 then mulM p lower f f else f) (t / 2) else r
def raisedL (p : Int) (lower fs : List Int) (t : Int) : List Int := powL p lower 64 (oneL lower.length) fs t
theorem powL_ok {p : Int} (hp : 0 < p) {lower : List Int} (hl : 1 ≤ lower.length) : ∀ (n : Nat) (r f : List Int) (t : Int), r.length = lower.length → (∀ x ∈ r, 0 ≤ x ∧ x < p) →
    (powL p lower n r f t).length = lower.length ∧ ∀ x ∈ powL p lower n r f t, 0 ≤ x ∧ x < p
  | 0, r, f, t, h1, h2 => ⟨h1, h2⟩
  | n + 1, r, f, t, h1, h2 => by
    rw [powL]
    split
    · refine powL_ok hp hl n _ _ _ ?_ ?_
      · split
        · exact mulM_len hl
        · exact h1
      · split
        · exact mulM_mem hp
        · exact h2
    · exact ⟨h1, h2⟩
theorem oneL_ok {p : Int} (hp : 2 ≤ p) {d : Nat} (hd : 1 ≤ d) : (oneL d).length = d ∧ ∀ x ∈ oneL d, 0 ≤ x ∧ x < p := by
  refine ⟨by unfold oneL; rw [List.length_cons, List.length_replicate]; omega, fun x hx => ?_⟩
  rcases List.mem_cons.mp hx with e | e
  · omega
  · have := List.eq_of_mem_replicate e; omega
theorem raisedL_ok {p : Int} (hp : 2 ≤ p) {lower fs : List Int} {t : Int} (hl : 1 ≤ lower.length) : (raisedL p lower fs t).length = lower.length ∧ ∀ x ∈ raisedL p lower fs t, 0 ≤ x ∧ x < p :=
  powL_ok (by omega) hl _ _ _ _ (oneL_ok hp hl).1 (oneL_ok hp hl).2
def unkL (d : Nat) : List Int := 0 :: 1 :: List.replicate (d - 2) 0
def chgL (p : Int) (a b : List Int) : List Int := List.zipWith (fun x y => (x - y) % p) a b
def irrL (p : Int) (lower : List Int) : Nat → List Int → Bool
  | 0, _ => true
  | n + 1, r => if commonB p (lower ++ [1]) (chgL p (raisedL p lower r p) (unkL lower.length)) then false else irrL p lower n (raisedL p lower r p)
def irr (p : Int) (lower : List Int) : Bool := if lower.getD 0 0 = 0 then false else irrL p lower (lower.length / 2) (unkL lower.length)
end Mi
namespace Mi
/-- the field's polynomial, as the search finds it -/
def FieldP (p k : Int) (lo : List Int) : Prop := (k = 1 ∧ lo = [0]) ∨ (2 ≤ k ∧ ∃ N : Nat, lo = figs p k.toNat (N : Int) ∧ irr p lo = true ∧ ∀ n : Nat, n < N → irr p (figs p k.toNat (n : Int)) = false)
theorem FieldP.len {p k : Int} {lo : List Int} (h : FieldP p k lo) : lo.length = k.toNat := by
  rcases h with ⟨h1, h2⟩ | ⟨h1, N, h2, _⟩
  · rw [h1, h2]; rfl
  · rw [h2, figs_len]
end Mi
namespace Mi
theorem size64 {p : Int} (h : p ≤ 1000000) : p < sizeI 2 64 := by
  have e : sizeI 2 64 = 18446744073709551616 := by decide +kernel
  omega
end Mi
namespace Mi
/-! ### the law's own reckoning -/
def lrest (p : Int) (lower : List Int) : Nat → List Int → List Int
  | 0, row => row
  | n + 1, row => lrest p lower n (if lower.length < row.length then subL p (row.getD (row.length - 1) 0) (row.length - 1 - lower.length) lower row.dropLast else row)
def lawRest (p : Int) (figures lower : List Int) : List Int := lrest p lower figures.length figures ++ List.replicate (lower.length - (lrest p lower figures.length figures).length) 0
def addM (p f : Int) : Nat → List Int → List Int → List Int
  | _, [], rest => rest
  | pl, o :: os, rest => addM p f (pl + 1) os (rest.set pl ((rest.getD pl 0 + f * o) % p))
theorem addM_len (p f : Int) : ∀ (os : List Int) (pl : Nat) (rest : List Int), (addM p f pl os rest).length = rest.length
  | [], _, _ => rfl
  | o :: os, pl, rest => by rw [addM, addM_len p f os, List.length_set]
theorem addM_snoc (p f : Int) : ∀ (os : List Int) (o : Int) (pl : Nat) (rest : List Int), addM p f pl (os ++ [o]) rest = (addM p f pl os rest).set (pl + os.length) (((addM p f pl os rest).getD (pl + os.length) 0 + f * o) % p)
  | [], _, _, _ => rfl
  | o' :: os, o, pl, rest => by
    rw [List.cons_append, addM, addM_snoc p f os]
    show _ = (addM p f (pl + 1) os _).set (pl + (os.length + 1)) _
    rw [show pl + 1 + os.length = pl + (os.length + 1) by omega]; rfl
def lmul (p : Int) (other : List Int) : Nat → List Int → List Int → List Int
  | _, [], rest => rest
  | pl, f :: fs, rest => lmul p other (pl + 1) fs (addM p f pl other rest)
theorem lmul_len (p : Int) (other : List Int) : ∀ (fs : List Int) (pl : Nat) (rest : List Int), (lmul p other pl fs rest).length = rest.length
  | [], _, _ => rfl
  | f :: fs, pl, rest => by rw [lmul, lmul_len p other fs, addM_len]
theorem lmul_snoc (p : Int) (other : List Int) : ∀ (fs : List Int) (f : Int) (pl : Nat) (rest : List Int), lmul p other pl (fs ++ [f]) rest = addM p f (pl + fs.length) other (lmul p other pl fs rest)
  | [], _, _, _ => rfl
  | f' :: fs, f, pl, rest => by
    rw [List.cons_append, lmul, lmul_snoc p other fs]
    show _ = addM p f (pl + (fs.length + 1)) other (lmul p other (pl + 1) fs _)
    rw [show pl + 1 + fs.length = pl + (fs.length + 1) by omega]
def lawTimes (p : Int) (lower : List Int) (a b : Int) : Int :=
  num p (lawRest p (lmul p (figs p lower.length b) 0 (figs p lower.length a) (List.replicate (2 * lower.length - 1) 0)) lower)
def lawPlus (p : Int) (d : Nat) (a b : Int) : Int := num p (List.zipWith (fun x y => (x + y) % p) (figs p d a) (figs p d b))
/-- the greatest of a list -/
def maxI : List Int → Int
  | [] => 0
  | [x] => x
  | x :: y :: r => if x ≤ maxI (y :: r) then maxI (y :: r) else x
theorem maxI_ok : ∀ (l : List Int), l ≠ [] → maxI l ∈ l ∧ ∀ y ∈ l, y ≤ maxI l
  | [], h => absurd rfl h
  | [x], _ => ⟨List.mem_singleton.mpr rfl, fun y hy => by rw [List.mem_singleton.mp hy]; exact Int.le_refl _⟩
  | x :: y :: r, _ => by
    have ih := maxI_ok (y :: r) (List.cons_ne_nil _ _)
    show (if x ≤ maxI (y :: r) then maxI (y :: r) else x) ∈ _ ∧ ∀ z ∈ _, z ≤ (if x ≤ maxI (y :: r) then maxI (y :: r) else x)
    by_cases h : x ≤ maxI (y :: r)
    · rw [if_pos h]
      refine ⟨List.mem_cons_of_mem _ ih.1, fun z hz => ?_⟩
      rcases List.mem_cons.mp hz with e | e
      · rw [e]; exact h
      · exact ih.2 z e
    · rw [if_neg h]
      refine ⟨List.mem_cons_self .., fun z hz => ?_⟩
      rcases List.mem_cons.mp hz with e | e
      · rw [e]; exact Int.le_refl _
      · have := ih.2 z e; omega
theorem maxI_eq {l : List Int} {m : Int} (h1 : m ∈ l) (h2 : ∀ y ∈ l, y ≤ m) : m = maxI l := by
  have ih := maxI_ok l (fun e => by rw [e] at h1; cases h1)
  have a := h2 _ ih.1
  have b := ih.2 _ h1
  omega
/-- whole, told by the others below a number -/
def wholeO (p : Int) (lower : List Int) (d : Nat) : Nat → Bool → Bool
  | 0, w => w
  | n + 1, w => (wholeO p lower d n w) && !decide (maxI (lawRest p (lower ++ [1]) (figs p d (n : Int))) = 0)
def wholeD (p : Int) (lower : List Int) : Nat → Bool
  | 0 => true
  | d + 1 => wholeO p lower (d + 1) (sizeI p (d + 1)).toNat (wholeD p lower d)
def lowerW (p : Int) (k : Nat) (n : Int) : Bool := wholeD p (figs p k n) (k / 2)
/-- the law's polynomial -/
def LowerP (p k : Int) (lo : List Int) : Prop := ∃ N : Nat, (N : Int) < sizeI p k.toNat ∧ lo = figs p k.toNat (N : Int) ∧ lowerW p k.toNat (N : Int) = true ∧ ∀ n : Nat, n < N → lowerW p k.toNat (n : Int) = false
end Mi
namespace Mi
theorem pos_mod {p x : Int} (hp : 0 < p) : 0 ≤ x % p ∧ x % p < p := ⟨Int.emod_nonneg _ (by omega), Int.emod_lt_of_pos _ hp⟩
theorem digit_mod {p x w : Int} (hx : 0 ≤ x ∧ x < p) : (x + p * w) % p = x := by
  rw [Int.add_mul_emod_self_left, Int.emod_eq_of_lt hx.1 hx.2]
theorem digit_div {p x w : Int} (hx : 0 ≤ x ∧ x < p) : (x + p * w) / p = w := by
  rw [Int.add_mul_ediv_left _ _ (by omega), Int.ediv_eq_zero_of_lt hx.1 hx.2, Int.zero_add]
theorem wm_zero (p f : Int) : ∀ d, wm p f d 0 0 = 0
  | 0 => rfl
  | d + 1 => by rw [wm, if_neg (by omega)]
theorem wm_num {p f : Int} (hp : 2 ≤ p) : ∀ (d : Nat) (a b : Int), 0 ≤ a → 0 ≤ b → wm p f d a b = num p (List.zipWith (fun x y => (x + f * y) % p) (figs p d a) (figs p d b))
  | 0, _, _, _, _ => rfl
  | d + 1, a, b, ha, hb => by
    show _ = num p (List.zipWith _ (figs p d (a / p)) (figs p d (b / p))) * p + (a % p + f * (b % p)) % p
    rw [← wm_num hp d (a / p) (b / p) (Int.ediv_nonneg ha (by omega)) (Int.ediv_nonneg hb (by omega)), wm]
    split
    · rw [Int.mul_comm p, Int.add_comm]
    · obtain rfl : a = 0 := by omega
      obtain rfl : b = 0 := by omega
      rw [Int.zero_ediv, wm_zero, Int.zero_emod, Int.mul_zero, Int.add_zero, Int.zero_mul, Int.zero_emod]; rfl
theorem num_lt {p : Int} (hp : 2 ≤ p) : ∀ l : List Int, (∀ x ∈ l, 0 ≤ x ∧ x < p) → 0 ≤ num p l ∧ num p l < sizeI p l.length
  | [], _ => ⟨Int.le_refl _, by show (0 : Int) < 1; decide⟩
  | x :: r, h => by
    have ih := num_lt hp r fun y hy => h y (List.mem_cons_of_mem _ hy)
    have hx := h x (List.mem_cons_self ..)
    show 0 ≤ num p r * p + x ∧ num p r * p + x < sizeI p r.length * p
    have h1 : 0 ≤ num p r * p := Int.mul_nonneg ih.1 (by omega)
    have h2 : (num p r + 1) * p ≤ sizeI p r.length * p := Int.mul_le_mul_of_nonneg_right (by omega) (by omega)
    rw [Int.add_mul, Int.one_mul] at h2
    omega
theorem num_figs {p : Int} (hp : 2 ≤ p) : ∀ (d : Nat) (a : Int), 0 ≤ a → a < sizeI p d → num p (figs p d a) = a
  | 0, a, h0, h1 => by
    have h2 : sizeI p 0 = 1 := rfl
    rw [h2] at h1
    show (0 : Int) = a
    omega
  | d + 1, a, h0, h1 => by
    show num p (figs p d (a / p)) * p + a % p = a
    rw [num_figs hp d (a / p) (Int.ediv_nonneg h0 (by omega)) (Int.ediv_lt_of_lt_mul (by omega) h1)]
    have := Int.mul_ediv_add_emod a p
    rw [Int.mul_comm]; exact this
theorem figs_num {p : Int} (hp : 2 ≤ p) : ∀ l : List Int, (∀ x ∈ l, 0 ≤ x ∧ x < p) → figs p l.length (num p l) = l
  | [], _ => rfl
  | x :: r, h => by
    have hx := h x (List.mem_cons_self ..)
    show (num p r * p + x) % p :: figs p r.length ((num p r * p + x) / p) = x :: r
    have e : num p r * p + x = x + p * num p r := by rw [Int.mul_comm, Int.add_comm]
    rw [e, digit_mod hx, digit_div hx, figs_num hp r fun y hy => h y (List.mem_cons_of_mem _ hy)]
theorem zip_mem {p : Int} (hp : 0 < p) {g : Int → Int → Int} : ∀ (l m : List Int), ∀ x ∈ List.zipWith (fun x y => g x y % p) l m, 0 ≤ x ∧ x < p
  | [], _, _, h => by simp at h
  | _ :: _, [], _, h => by simp at h
  | a :: l, b :: m, x, h => by
    rw [List.zipWith_cons_cons] at h
    rcases List.mem_cons.mp h with e | e
    · rw [e]; exact pos_mod hp
    · exact zip_mem hp l m x e
theorem figs_wm {p f : Int} (hp : 2 ≤ p) (d : Nat) (a b : Int) (ha : 0 ≤ a) (hb : 0 ≤ b) : figs p d (wm p f d a b) = List.zipWith (fun x y => (x + f * y) % p) (figs p d a) (figs p d b) := by
  rw [wm_num hp d a b ha hb]
  have h := figs_num hp (List.zipWith (fun x y => (x + f * y) % p) (figs p d a) (figs p d b)) (zip_mem (by omega) _ _)
  rw [List.length_zipWith, figs_len, figs_len, Nat.min_self] at h
  exact h
theorem wm_lt {p f : Int} (hp : 2 ≤ p) (d : Nat) (a b : Int) (ha : 0 ≤ a) (hb : 0 ≤ b) : 0 ≤ wm p f d a b ∧ wm p f d a b < sizeI p d := by
  rw [wm_num hp d a b ha hb]
  have h := num_lt hp (List.zipWith (fun x y => (x + f * y) % p) (figs p d a) (figs p d b)) (zip_mem (by omega) _ _)
  rw [List.length_zipWith, figs_len, figs_len, Nat.min_self] at h
  exact h
theorem added_law {p : Int} (hp : 2 ≤ p) (d : Nat) (a b : Int) (ha : 0 ≤ a) (hb : 0 ≤ b) : wm p 1 d a b = lawPlus p d a b := by
  rw [wm_num hp d a b ha hb]
  unfold lawPlus
  congr 2
  funext x y
  rw [Int.one_mul]
theorem plus_comm (p : Int) (d : Nat) (a b : Int) : lawPlus p d a b = lawPlus p d b a := by
  unfold lawPlus
  rw [List.zipWith_comm]
  congr 2
  funext x y
  rw [Int.add_comm]
theorem back_zip {p : Int} (hp : 0 < p) : ∀ (l m : List Int), l.length = m.length → (∀ x ∈ l, 0 ≤ x ∧ x < p) → List.zipWith (fun x y => (x + y) % p) (List.zipWith (fun x y => (x + -1 * y) % p) l m) m = l
  | [], [], _, _ => rfl
  | [], _ :: _, h, _ => by cases h
  | _ :: _, [], h, _ => by cases h
  | x :: l, y :: m, h, hl => by
    have hx := hl x (List.mem_cons_self ..)
    rw [List.zipWith_cons_cons, List.zipWith_cons_cons, back_zip hp l m (Nat.succ.inj h) fun z hz => hl z (List.mem_cons_of_mem _ hz)]
    rw [Int.emod_add_emod, show x + -1 * y + y = x by omega, Int.emod_eq_of_lt hx.1 hx.2]
theorem less_law {p : Int} (hp : 2 ≤ p) (d : Nat) (a b : Int) (ha : 0 ≤ a ∧ a < sizeI p d) (hb : 0 ≤ b) : lawPlus p d (wm p (-1) d a b) b = a := by
  unfold lawPlus
  rw [figs_wm hp d a b ha.1 hb, back_zip (by omega) _ _ (by rw [figs_len, figs_len]) (figs_mem (by omega) _ _)]
  exact num_figs hp d a ha.1 ha.2
/-! ### rows that are alike but for multiples of p -/
def CongL (p : Int) (r s : List Int) : Prop := r.length = s.length ∧ ∀ t : Nat, r.getD t 0 % p = s.getD t 0 % p
theorem getD_set (l : List Int) (i t : Nat) (x : Int) : (l.set i x).getD t 0 = if i = t ∧ t < l.length then x else l.getD t 0 := by
  rw [List.getD_eq_getElem?_getD, List.getD_eq_getElem?_getD, List.getElem?_set]
  by_cases h : i = t
  · subst h
    by_cases h2 : i < l.length
    · simp [h2]
    · simp [h2]
  · simp [h]
theorem CongL.set {p x y : Int} {r s : List Int} (h : CongL p r s) (i : Nat) (e : x % p = y % p) : CongL p (r.set i x) (s.set i y) := by
  refine ⟨by rw [List.length_set, List.length_set]; exact h.1, fun t => ?_⟩
  rw [getD_set, getD_set, h.1]
  split
  · exact e
  · exact h.2 t
theorem CongL.setR {p y : Int} {r s : List Int} (h : CongL p r s) (i : Nat) (e : r.getD i 0 % p = y % p) : CongL p r (s.set i y) := by
  refine ⟨by rw [List.length_set]; exact h.1, fun t => ?_⟩
  rw [getD_set]
  split
  · rename_i hh; rw [← hh.1]; exact e
  · exact h.2 t
theorem CongL.add {p f : Int} : ∀ (os : List Int) (pl : Nat) {r s : List Int}, CongL p r s → CongL p (addL f pl os r) (addM p f pl os s)
  | [], _, _, _, h => h
  | o :: os, pl, r, s, h => by
    rw [addL, addM]
    refine CongL.add os (pl + 1) (h.set pl ?_)
    rw [Int.emod_emod_of_dvd _ (Int.dvd_refl p), ← Int.emod_add_emod, h.2 pl, Int.emod_add_emod]
theorem CongL.add0 {p : Int} : ∀ (os : List Int) (pl : Nat) {r s : List Int}, CongL p r s → CongL p r (addM p 0 pl os s)
  | [], _, _, _, h => h
  | o :: os, pl, r, s, h => by
    rw [addM]
    refine CongL.add0 os (pl + 1) (h.setR pl ?_)
    rw [Int.zero_mul, Int.add_zero, Int.emod_emod_of_dvd _ (Int.dvd_refl p)]
    exact h.2 pl
theorem CongL.mul {p : Int} (other : List Int) : ∀ (fs : List Int) (pl : Nat) {r s : List Int}, (∀ x ∈ fs, 0 ≤ x) → CongL p r s → CongL p (mulA other pl fs r) (lmul p other pl fs s)
  | [], _, _, _, _, h => h
  | f :: fs, pl, r, s, hf, h => by
    rw [mulA, lmul]
    refine CongL.mul other fs (pl + 1) (fun x hx => hf x (List.mem_cons_of_mem _ hx)) ?_
    split
    · exact CongL.add other pl h
    · obtain rfl : f = 0 := by have := hf f (List.mem_cons_self ..); omega
      exact CongL.add0 other pl h
theorem CongL.sub {p lead top : Int} (place : Nat) (hl : lead % p = top % p) : ∀ (fs : List Int) (i : Nat) {r s : List Int}, (∀ x ∈ fs, 0 ≤ x) → CongL p r s → CongL p (subP lead place (lowP i fs) r) (subL p top (place + i) fs s)
  | [], _, _, _, _, h => h
  | f :: fs, i, r, s, hf, h => by
    rw [subL, lowP]
    have hm : ∀ x y : Int, x % p = y % p → (x - lead * f) % p = (y - top * f) % p := fun x y e => by
      rw [Int.sub_emod, e, Int.mul_emod, hl, ← Int.mul_emod, ← Int.sub_emod]
    split
    · rw [subP]
      refine CongL.sub place hl fs (i + 1) (fun x hx => hf x (List.mem_cons_of_mem _ hx)) (h.set (place + i) ?_)
      rw [Int.emod_emod_of_dvd _ (Int.dvd_refl p)]
      exact hm _ _ (h.2 _)
    · obtain rfl : f = 0 := by have := hf f (List.mem_cons_self ..); omega
      refine CongL.sub place hl fs (i + 1) (fun x hx => hf x (List.mem_cons_of_mem _ hx)) (h.setR (place + i) ?_)
      rw [Int.mul_zero, Int.sub_zero, Int.emod_emod_of_dvd _ (Int.dvd_refl p)]
      exact h.2 _
theorem getD_drop (l : List Int) (t : Nat) : l.dropLast.getD t 0 = if t < l.length - 1 then l.getD t 0 else 0 := by
  rw [List.getD_eq_getElem?_getD, List.getD_eq_getElem?_getD, List.getElem?_dropLast]
  split
  · rfl
  · rfl
theorem CongL.drop {p : Int} {r s : List Int} (h : CongL p r s) : CongL p r.dropLast s.dropLast := by
  refine ⟨by rw [List.length_dropLast, List.length_dropLast, h.1], fun t => ?_⟩
  rw [getD_drop, getD_drop, h.1]
  split
  · exact h.2 t
  · rfl
theorem lrest_stay (p : Int) (lo : List Int) : ∀ (m : Nat) (s : List Int), s.length ≤ lo.length → lrest p lo m s = s
  | 0, _, _ => rfl
  | m + 1, s, h => by rw [lrest, if_neg (by omega), lrest_stay p lo m s h]
theorem CongL.red {p : Int} {lo : List Int} (hlo : ∀ x ∈ lo, 0 ≤ x) : ∀ (n m : Nat) (r s : List Int), r.length ≤ n + lo.length → r.length ≤ m + lo.length → CongL p r s → CongL p (redL p lo.length (lowP 0 lo) n r) (lrest p lo m s)
  | 0, m, r, s, h1, h2, h => by
    rw [lrest_stay p lo m s (by have := h.1; omega)]; exact h
  | n + 1, m, r, s, h1, h2, h => by
    rw [redL]
    have hl := h.1
    split
    · rename_i hlt
      obtain ⟨m', rfl⟩ : ∃ m', m = m' + 1 := ⟨m - 1, by omega⟩
      rw [lrest, if_pos (by omega)]
      refine CongL.red hlo n m' _ _ ?_ ?_ ?_
      · rw [subP_len, List.length_dropLast]; omega
      · rw [subP_len, List.length_dropLast]; omega
      · rw [hl]
        refine CongL.sub (s.length - 1 - lo.length) ?_ lo 0 hlo h.drop
        rw [Int.emod_emod_of_dvd _ (Int.dvd_refl p), h.2]
    · rw [lrest_stay p lo m s (by omega)]; exact h
/-! ### rows below p -/
def Below (p : Int) (r : List Int) : Prop := ∀ x ∈ r, 0 ≤ x ∧ x < p
theorem Below.set {p y : Int} (hp : 0 < p) {r : List Int} (h : Below p r) (i : Nat) : Below p (r.set i (y % p)) := fun x hx => by
  rcases List.mem_or_eq_of_mem_set hx with e | e
  · exact h x e
  · rw [e]; exact pos_mod hp
theorem Below.add {p f : Int} (hp : 0 < p) : ∀ (os : List Int) (pl : Nat) {r : List Int}, Below p r → Below p (addM p f pl os r)
  | [], _, _, h => h
  | o :: os, pl, r, h => by rw [addM]; exact Below.add hp os (pl + 1) (h.set hp pl)
theorem Below.mul {p : Int} (hp : 0 < p) (other : List Int) : ∀ (fs : List Int) (pl : Nat) {r : List Int}, Below p r → Below p (lmul p other pl fs r)
  | [], _, _, h => h
  | f :: fs, pl, r, h => by rw [lmul]; exact Below.mul hp other fs (pl + 1) (h.add hp other pl)
theorem Below.sub {p f : Int} (hp : 0 < p) : ∀ (os : List Int) (pl : Nat) {r : List Int}, Below p r → Below p (subL p f pl os r)
  | [], _, _, h => h
  | o :: os, pl, r, h => by rw [subL]; exact Below.sub hp os (pl + 1) (h.set hp pl)
theorem Below.rest {p : Int} (hp : 0 < p) (lo : List Int) : ∀ (n : Nat) {r : List Int}, Below p r → Below p (lrest p lo n r)
  | 0, _, h => h
  | n + 1, r, h => by
    rw [lrest]
    refine Below.rest hp lo n ?_
    split
    · exact Below.sub hp lo _ fun x hx => h x (List.dropLast_subset _ hx)
    · exact h
theorem CongL.eq {p : Int} {r s : List Int} (h : CongL p r s) (hs : Below p s) : r.map (· % p) = s := by
  apply List.ext_getElem?
  intro t
  rw [List.getElem?_map]
  have e := h.2 t
  rw [List.getD_eq_getElem?_getD, List.getD_eq_getElem?_getD] at e
  by_cases ht : t < r.length
  · have ht2 : t < s.length := by rw [← h.1]; exact ht
    rw [List.getElem?_eq_getElem ht, List.getElem?_eq_getElem ht2] at e ⊢
    have hb := hs _ (List.getElem_mem ht2)
    show some (r[t] % p) = some s[t]
    have e' : r[t] % p = s[t] % p := e
    rw [e', Int.emod_eq_of_lt hb.1 hb.2]
  · rw [List.getElem?_eq_none (by omega), List.getElem?_eq_none (by have := h.1; omega)]; rfl
theorem CongL.refl (p : Int) (r : List Int) : CongL p r r := ⟨rfl, fun _ => rfl⟩
theorem below_zero {p : Int} (hp : 0 < p) (n : Nat) : Below p (List.replicate n 0) := fun x hx => by
  have := List.eq_of_mem_replicate hx; omega
theorem mul_law {p : Int} (hp : 0 < p) {lo A B : List Int} (hd : 1 ≤ lo.length) (hlo : ∀ x ∈ lo, 0 ≤ x) (hA : ∀ x ∈ A, 0 ≤ x) :
    mulM p lo A B = lawRest p (lmul p B 0 A (List.replicate (2 * lo.length - 1) 0)) lo := by
  have h1 : CongL p (mulA B 0 A (List.replicate (2 * lo.length - 1) 0)) (lmul p B 0 A (List.replicate (2 * lo.length - 1) 0)) := CongL.mul B A 0 hA (.refl p _)
  have hl : (lmul p B 0 A (List.replicate (2 * lo.length - 1) 0)).length = 2 * lo.length - 1 := by rw [lmul_len, List.length_replicate]
  have hl2 : (mulA B 0 A (List.replicate (2 * lo.length - 1) 0)).length = 2 * lo.length - 1 := by rw [mulA_len, List.length_replicate]
  have h2 := CongL.red hlo (2 * lo.length) (lmul p B 0 A (List.replicate (2 * lo.length - 1) 0)).length _ _ (by omega) (by omega) h1
  have h3 := h2.eq (Below.rest hp lo _ (Below.mul hp B A 0 (below_zero hp _)))
  have h4 := h2.1
  rw [redL_len p lo.length (lowP 0 lo) (2 * lo.length) _ (by omega) (by omega)] at h4
  unfold mulM lawRest
  rw [h3, ← h4, Nat.sub_self]
  simp
theorem prod_law {p : Int} (hp : 2 ≤ p) {lo : List Int} (hd : 1 ≤ lo.length) (hlo : ∀ x ∈ lo, 0 ≤ x) (a b : Int) :
    num p (mulM p lo (figs p lo.length a) (figs p lo.length b)) = lawTimes p lo a b := by
  unfold lawTimes
  rw [mul_law (by omega) hd hlo fun x hx => (figs_mem (by omega) _ _ x hx).1]
/-! ### the order of the two factors -/
def cv : List Int → List Int → Nat → Int
  | [], _, _ => 0
  | f :: fs, b, 0 => f * b.getD 0 0
  | f :: fs, b, t + 1 => f * b.getD (t + 1) 0 + cv fs b t
theorem cv_nil : ∀ (a : List Int) (t : Nat), cv a [] t = 0
  | [], _ => rfl
  | f :: fs, 0 => by show f * 0 = 0; rw [Int.mul_zero]
  | f :: fs, t + 1 => by show f * 0 + cv fs [] t = 0; rw [cv_nil fs t, Int.mul_zero]; rfl
theorem cv_cons : ∀ (a : List Int) (g : Int) (gs : List Int) (t : Nat), cv a (g :: gs) t = g * a.getD t 0 + (match t with | 0 => 0 | t + 1 => cv a gs t)
  | [], g, gs, 0 => by show (0 : Int) = g * 0 + 0; omega
  | [], g, gs, t + 1 => by show (0 : Int) = g * 0 + 0; omega
  | f :: fs, g, gs, 0 => by show f * g = g * f + 0; rw [Int.mul_comm, Int.add_zero]
  | f :: fs, g, gs, 1 => by
    show f * gs.getD 0 0 + cv fs (g :: gs) 0 = g * fs.getD 0 0 + f * gs.getD 0 0
    rw [cv_cons fs g gs 0]
    show f * gs.getD 0 0 + (g * fs.getD 0 0 + 0) = _
    omega
  | f :: fs, g, gs, t + 2 => by
    show f * gs.getD (t + 1) 0 + cv fs (g :: gs) (t + 1) = g * fs.getD (t + 1) 0 + (f * gs.getD (t + 1) 0 + cv fs gs t)
    rw [cv_cons fs g gs (t + 1)]
    show f * gs.getD (t + 1) 0 + (g * fs.getD (t + 1) 0 + cv fs gs t) = _
    omega
theorem cv_comm : ∀ (a b : List Int) (t : Nat), cv a b t = cv b a t
  | [], b, t => (cv_nil b t).symm
  | f :: fs, b, 0 => by rw [cv_cons b f fs 0]; show f * b.getD 0 0 = f * b.getD 0 0 + 0; omega
  | f :: fs, b, t + 1 => by
    rw [cv_cons b f fs (t + 1)]
    show f * b.getD (t + 1) 0 + cv fs b t = f * b.getD (t + 1) 0 + cv b fs t
    rw [cv_comm fs b t]
theorem addL_at (f : Int) : ∀ (os : List Int) (pl : Nat) (rest : List Int) (t : Nat), pl + os.length ≤ rest.length → (addL f pl os rest).getD t 0 = rest.getD t 0 + (if pl ≤ t then f * os.getD (t - pl) 0 else 0)
  | [], pl, rest, t, _ => by
    show rest.getD t 0 = rest.getD t 0 + (if pl ≤ t then f * 0 else 0)
    rw [Int.mul_zero]; split <;> omega
  | o :: os, pl, rest, t, h => by
    rw [List.length_cons] at h
    rw [addL, addL_at f os (pl + 1) _ t (by rw [List.length_set]; omega), getD_set]
    by_cases h1 : pl = t
    · subst h1
      rw [if_pos ⟨rfl, by omega⟩, if_neg (by omega), if_pos (Nat.le_refl _), Nat.sub_self, Int.add_zero]; rfl
    · rw [if_neg (fun z => h1 z.1)]
      by_cases h2 : pl ≤ t
      · rw [if_pos (by omega), if_pos h2]
        obtain ⟨s, hs⟩ : ∃ s, t - pl = s + 1 := ⟨t - pl - 1, by omega⟩
        rw [hs, show t - (pl + 1) = s by omega]; rfl
      · rw [if_neg (by omega), if_neg h2]
theorem mulA_at (other : List Int) : ∀ (fs : List Int) (pl : Nat) (rest : List Int) (t : Nat), (∀ x ∈ fs, 0 ≤ x) → pl + fs.length + other.length ≤ rest.length + 1 → (mulA other pl fs rest).getD t 0 = rest.getD t 0 + (if pl ≤ t then cv fs other (t - pl) else 0)
  | [], pl, rest, t, _, _ => by
    show rest.getD t 0 = rest.getD t 0 + (if pl ≤ t then 0 else 0)
    split <;> omega
  | f :: fs, pl, rest, t, hf, h => by
    rw [List.length_cons] at h
    have hf0 := hf f (List.mem_cons_self ..)
    have step : (if 0 < f then addL f pl other rest else rest).getD t 0 = rest.getD t 0 + (if pl ≤ t then f * other.getD (t - pl) 0 else 0) := by
      by_cases h0 : 0 < f
      · rw [if_pos h0, addL_at f other pl rest t (by omega)]
      · obtain rfl : f = 0 := by omega
        rw [if_neg h0, Int.zero_mul]; split <;> omega
    have hl : (if 0 < f then addL f pl other rest else rest).length = rest.length := by
      split
      · exact addL_len _ _ _ _
      · rfl
    rw [mulA, mulA_at other fs (pl + 1) _ t (fun x hx => hf x (List.mem_cons_of_mem _ hx)) (by rw [hl]; omega), step]
    by_cases h2 : pl ≤ t
    · rw [if_pos h2, if_pos h2]
      by_cases h3 : pl = t
      · subst h3
        rw [if_neg (by omega), Nat.sub_self]
        show _ = _ + f * other.getD 0 0
        omega
      · obtain ⟨s, hs⟩ : ∃ s, t - pl = s + 1 := ⟨t - pl - 1, by omega⟩
        rw [if_pos (by omega), hs, show t - (pl + 1) = s by omega]
        show _ = _ + (f * other.getD (s + 1) 0 + cv fs other s)
        omega
    · rw [if_neg h2, if_neg h2, if_neg (by omega)]; omega
theorem list_getD_ext {r s : List Int} (hl : r.length = s.length) (h : ∀ t, r.getD t 0 = s.getD t 0) : r = s := by
  apply List.ext_getElem?
  intro t
  have e := h t
  rw [List.getD_eq_getElem?_getD, List.getD_eq_getElem?_getD] at e
  by_cases ht : t < r.length
  · have ht2 : t < s.length := by rw [← hl]; exact ht
    rw [List.getElem?_eq_getElem ht, List.getElem?_eq_getElem ht2] at e ⊢
    exact congrArg some e
  · rw [List.getElem?_eq_none (by omega), List.getElem?_eq_none (by omega)]
theorem mulA_comm {A B : List Int} {d : Nat} (hA : A.length = d) (hB : B.length = d) (hd : 1 ≤ d) (ha : ∀ x ∈ A, 0 ≤ x) (hb : ∀ x ∈ B, 0 ≤ x) : mulA B 0 A (List.replicate (2 * d - 1) 0) = mulA A 0 B (List.replicate (2 * d - 1) 0) := by
  refine list_getD_ext (by rw [mulA_len, mulA_len]) fun t => ?_
  rw [mulA_at B A 0 _ t ha (by rw [List.length_replicate]; omega), mulA_at A B 0 _ t hb (by rw [List.length_replicate]; omega), cv_comm]
theorem mulM_comm {p : Int} {lo A B : List Int} (hA : A.length = lo.length) (hB : B.length = lo.length) (hd : 1 ≤ lo.length) (ha : ∀ x ∈ A, 0 ≤ x) (hb : ∀ x ∈ B, 0 ≤ x) : mulM p lo A B = mulM p lo B A := by
  unfold mulM
  rw [mulA_comm hA hB hd ha hb]
/-! ### the sixteen fields -/
def chk (p : Int) (k : Nat) (N : Nat) : Bool :=
  isField p (k : Int) && (decide (k = 1) || (irr p (figs p k (N : Int)) && (List.range N).all fun n => !irr p (figs p k (n : Int)))) &&
  (decide ((N : Int) < sizeI p k) && lowerW p k (N : Int) && (List.range N).all fun n => !lowerW p k (n : Int)) && decide (k ≠ 1 ∨ N = 0)
theorem chk_ok {p : Int} {k N : Nat} (hk : 1 ≤ k) (h : chk p k N = true) : isField p (k : Int) = true ∧ FieldP p (k : Int) (figs p k (N : Int)) ∧ LowerP p (k : Int) (figs p k (N : Int)) := by
  unfold chk at h
  simp only [Bool.and_eq_true, Bool.or_eq_true, decide_eq_true_eq, List.all_eq_true, List.mem_range, Bool.not_eq_true'] at h
  obtain ⟨⟨⟨h1, h2⟩, ⟨⟨h3, h4⟩, h5⟩⟩, h6⟩ := h
  refine ⟨h1, ?_, N, h3, rfl, h4, h5⟩
  rcases Nat.lt_or_ge 1 k with hk2 | hk2
  · rcases h2 with h2 | h2
    · omega
    · exact .inr ⟨by omega, N, rfl, h2.1, h2.2⟩
  · obtain rfl : k = 1 := by omega
    obtain rfl : N = 0 := by rcases h6 with h | h <;> omega
    refine .inl ⟨rfl, ?_⟩
    show [((0 : Nat) : Int) % p] = [0]
    rw [show ((0 : Nat) : Int) = 0 from rfl, Int.zero_emod]
end Mi
namespace Mi
/-! ### products modulo a polynomial, told by the sequences that keep its recurrence -/
def sv (g : Nat → Int) : Nat → List Int → Int
  | _, [] => 0
  | i, x :: r => x * g i + sv g (i + 1) r
theorem sv_shift (g : Nat → Int) : ∀ (r : List Int) (i m : Nat), sv (fun j => g (m + j)) i r = sv g (m + i) r
  | [], _, _ => rfl
  | x :: r, i, m => by
    show x * g (m + i) + sv (fun j => g (m + j)) (i + 1) r = x * g (m + i) + sv g (m + i + 1) r
    rw [sv_shift g r (i + 1) m]; rfl
theorem sv_set (g : Nat → Int) : ∀ (r : List Int) (i j : Nat) (x : Int), j < r.length → sv g i (r.set j x) = sv g i r + (x - r.getD j 0) * g (i + j)
  | [], _, _, _, h => by cases h
  | y :: r, i, 0, x, _ => by
    show x * g i + sv g (i + 1) r = y * g i + sv g (i + 1) r + (x - y) * g i
    rw [Int.sub_mul]; omega
  | y :: r, i, j + 1, x, h => by
    show y * g i + sv g (i + 1) (r.set j x) = y * g i + sv g (i + 1) r + (x - r.getD j 0) * g (i + (j + 1))
    rw [sv_set g r (i + 1) j x (Nat.lt_of_succ_lt_succ h), show i + 1 + j = i + (j + 1) by omega]; omega
theorem sv_snoc (g : Nat → Int) : ∀ (r : List Int) (i : Nat) (x : Int), sv g i (r ++ [x]) = sv g i r + x * g (i + r.length)
  | [], i, x => by show x * g i + 0 = 0 + x * g (i + 0); rw [Nat.add_zero]; omega
  | y :: r, i, x => by
    show y * g i + sv g (i + 1) (r ++ [x]) = y * g i + sv g (i + 1) r + x * g (i + (r.length + 1))
    rw [sv_snoc g r (i + 1) x, show i + 1 + r.length = i + (r.length + 1) by omega]; omega
theorem sv_addL (g : Nat → Int) (f : Int) : ∀ (os : List Int) (pl : Nat) (rest : List Int), pl + os.length ≤ rest.length → sv g 0 (addL f pl os rest) = sv g 0 rest + f * sv g pl os
  | [], pl, rest, _ => by show sv g 0 rest = sv g 0 rest + f * 0; rw [Int.mul_zero]; omega
  | o :: os, pl, rest, h => by
    rw [List.length_cons] at h
    rw [addL, sv_addL g f os (pl + 1) _ (by rw [List.length_set]; omega), sv_set g rest 0 pl _ (by omega)]
    show _ = sv g 0 rest + f * (o * g pl + sv g (pl + 1) os)
    rw [Int.mul_add, Nat.zero_add, show rest.getD pl 0 + f * o - rest.getD pl 0 = f * o by omega, Int.mul_assoc]; omega
theorem sv_mulA (g : Nat → Int) (other : List Int) : ∀ (fs : List Int) (pl : Nat) (rest : List Int), (∀ x ∈ fs, 0 ≤ x) → pl + fs.length + other.length ≤ rest.length + 1 → sv g 0 (mulA other pl fs rest) = sv g 0 rest + sv (fun i => sv g i other) pl fs
  | [], pl, rest, _, _ => by show sv g 0 rest = sv g 0 rest + 0; omega
  | f :: fs, pl, rest, hf, h => by
    rw [List.length_cons] at h
    have hf0 := hf f (List.mem_cons_self ..)
    have hl : (if 0 < f then addL f pl other rest else rest).length = rest.length := by
      split
      · exact addL_len _ _ _ _
      · rfl
    rw [mulA, sv_mulA g other fs (pl + 1) _ (fun x hx => hf x (List.mem_cons_of_mem _ hx)) (by rw [hl]; omega)]
    show _ = sv g 0 rest + (f * sv g pl other + sv (fun i => sv g i other) (pl + 1) fs)
    by_cases h0 : 0 < f
    · rw [if_pos h0, sv_addL g f other pl rest (by omega)]; omega
    · obtain rfl : f = 0 := by omega
      rw [if_neg h0, Int.zero_mul]; omega
theorem sv_subP (g : Nat → Int) (lead : Int) (place : Nat) : ∀ (fs : List Int) (i : Nat) (rest : List Int), (∀ x ∈ fs, 0 ≤ x) → place + i + fs.length ≤ rest.length → sv g 0 (subP lead place (lowP i fs) rest) = sv g 0 rest - lead * sv g (place + i) fs
  | [], i, rest, _, _ => by show sv g 0 rest = sv g 0 rest - lead * 0; rw [Int.mul_zero]; omega
  | f :: fs, i, rest, hf, h => by
    rw [List.length_cons] at h
    have hf0 := hf f (List.mem_cons_self ..)
    have ht : ∀ x ∈ fs, 0 ≤ x := fun x hx => hf x (List.mem_cons_of_mem _ hx)
    rw [lowP]
    show _ = sv g 0 rest - lead * (f * g (place + i) + sv g (place + (i + 1)) fs)
    by_cases h0 : 0 < f
    · rw [if_pos h0, subP, sv_subP g lead place fs (i + 1) _ ht (by rw [List.length_set]; omega), sv_set g rest 0 (place + i) _ (by omega)]
      rw [Nat.zero_add, show rest.getD (place + i) 0 - lead * f - rest.getD (place + i) 0 = -(lead * f) by omega, Int.neg_mul, Int.mul_add, Int.mul_assoc]; omega
    · obtain rfl : f = 0 := by omega
      rw [if_neg h0, sv_subP g lead place fs (i + 1) _ ht (by omega), Int.zero_mul, Int.zero_add]
/-- a sequence that keeps the recurrence of a polynomial -/
def Rec (lo : List Int) (g : Nat → Int) : Prop := ∀ m, g (m + lo.length) = -sv g m lo
theorem last_split {r : List Int} (h : 0 < r.length) : r = r.dropLast ++ [r.getD (r.length - 1) 0] := by
  have hne : r ≠ [] := List.length_pos_iff.mp h
  have := List.dropLast_concat_getLast hne
  rw [List.getLast_eq_getElem hne] at this
  rw [List.getD_eq_getElem?_getD, List.getElem?_eq_getElem (by omega)]
  exact this.symm
theorem sv_red {p : Int} {lo : List Int} {g : Nat → Int} (hlo : ∀ x ∈ lo, 0 ≤ x) (hg : Rec lo g) : ∀ (n : Nat) (r : List Int), sv g 0 (redL p lo.length (lowP 0 lo) n r) % p = sv g 0 r % p
  | 0, _ => rfl
  | n + 1, r => by
    rw [redL]
    split
    · rename_i h
      rw [sv_red hlo hg n]
      have hd : r.dropLast.length = r.length - 1 := List.length_dropLast
      rw [sv_subP g _ _ lo 0 _ hlo (by rw [hd]; omega)]
      have e1 := congrArg (sv g 0) (last_split (r := r) (by omega))
      rw [sv_snoc, hd, Nat.zero_add] at e1
      have e2 := hg (r.length - 1 - lo.length)
      rw [show r.length - 1 - lo.length + lo.length = r.length - 1 by omega] at e2
      rw [e1, e2, Nat.add_zero]
      generalize sv g (r.length - 1 - lo.length) lo = z
      generalize sv g 0 r.dropLast = y
      generalize r.getD (r.length - 1) 0 = x
      rw [Int.mul_neg, ← Int.sub_eq_add_neg, Int.sub_emod, Int.mul_emod, Int.emod_emod_of_dvd _ (Int.dvd_refl p), ← Int.mul_emod, ← Int.sub_emod]
    · rfl
theorem sv_mod {p : Int} (g : Nat → Int) : ∀ (r : List Int) (i : Nat), sv g i (r.map (· % p)) % p = sv g i r % p
  | [], _ => rfl
  | x :: r, i => by
    show (x % p * g i + sv g (i + 1) (r.map (· % p))) % p = (x * g i + sv g (i + 1) r) % p
    rw [Int.add_emod, sv_mod g r (i + 1), Int.mul_emod, Int.emod_emod_of_dvd _ (Int.dvd_refl p), ← Int.mul_emod, ← Int.add_emod]
theorem sv_zero (g : Nat → Int) : ∀ (n i : Nat), sv g i (List.replicate n 0) = 0
  | 0, _ => rfl
  | n + 1, i => by
    show 0 * g i + sv g (i + 1) (List.replicate n 0) = 0
    rw [sv_zero g n (i + 1), Int.zero_mul]; rfl
theorem sv_mulM {p : Int} {lo A B : List Int} {g : Nat → Int} (hlo : ∀ x ∈ lo, 0 ≤ x) (hg : Rec lo g) (hA : ∀ x ∈ A, 0 ≤ x) (hAl : A.length = lo.length) (hBl : B.length = lo.length) (hd : 1 ≤ lo.length) :
    sv g 0 (mulM p lo A B) % p = sv (fun i => sv g i B) 0 A % p := by
  unfold mulM
  rw [sv_mod, sv_red hlo hg, sv_mulA g B A 0 _ hA (by rw [List.length_replicate]; omega), sv_zero, Int.zero_add]
theorem sv_cong {p : Int} {f g : Nat → Int} (h : ∀ i, f i % p = g i % p) : ∀ (r : List Int) (i : Nat), sv f i r % p = sv g i r % p
  | [], _ => rfl
  | x :: r, i => by
    show (x * f i + sv f (i + 1) r) % p = (x * g i + sv g (i + 1) r) % p
    rw [Int.add_emod, sv_cong h r (i + 1), Int.mul_emod, h i, ← Int.mul_emod, ← Int.add_emod]
theorem sv_ext {f g : Nat → Int} (h : ∀ i, f i = g i) (r : List Int) (i : Nat) : sv f i r = sv g i r := by
  have : f = g := funext h
  rw [this]
theorem sv_add (f g : Nat → Int) : ∀ (r : List Int) (i : Nat), sv (fun j => f j + g j) i r = sv f i r + sv g i r
  | [], _ => rfl
  | x :: r, i => by
    show x * (f i + g i) + sv (fun j => f j + g j) (i + 1) r = x * f i + sv f (i + 1) r + (x * g i + sv g (i + 1) r)
    rw [sv_add f g r (i + 1), Int.mul_add]; omega
theorem sv_smul (c : Int) (g : Nat → Int) : ∀ (r : List Int) (i : Nat), sv (fun j => c * g j) i r = c * sv g i r
  | [], _ => by show (0 : Int) = c * 0; rw [Int.mul_zero]
  | x :: r, i => by
    show x * (c * g i) + sv (fun j => c * g j) (i + 1) r = c * (x * g i + sv g (i + 1) r)
    rw [sv_smul c g r (i + 1), Int.mul_add, ← Int.mul_assoc, ← Int.mul_assoc, Int.mul_comm x c]
theorem sv_neg (g : Nat → Int) (r : List Int) (i : Nat) : sv (fun j => -g j) i r = -sv g i r := by
  have := sv_smul (-1) g r i
  rw [sv_ext (f := fun j => -g j) (g := fun j => -1 * g j) (fun j => by omega)]; omega
theorem sv_nil0 : ∀ (r : List Int) (i : Nat), sv (fun _ => 0) i r = 0
  | [], _ => rfl
  | x :: r, i => by show x * 0 + sv (fun _ => 0) (i + 1) r = 0; rw [sv_nil0 r, Int.mul_zero]; rfl
theorem sv_swap (g : Nat → Nat → Int) : ∀ (A B : List Int) (i j : Nat), sv (fun a => sv (g a) j B) i A = sv (fun b => sv (fun a => g a b) i A) j B
  | [], B, i, j => by show (0 : Int) = sv (fun _ => 0) j B; rw [sv_nil0]
  | x :: A, B, i, j => by
    show x * sv (g i) j B + sv (fun a => sv (g a) j B) (i + 1) A = sv (fun b => x * g i b + sv (fun a => g a b) (i + 1) A) j B
    rw [sv_swap g A B (i + 1) j, sv_add (fun b => x * g i b), sv_smul x (g i)]
theorem Rec.shift {lo : List Int} {g : Nat → Int} (h : Rec lo g) (m : Nat) : Rec lo fun j => g (m + j) := fun n => by
  show g (m + (n + lo.length)) = _
  rw [sv_shift, ← Nat.add_assoc]; exact h (m + n)
theorem Rec.comb {lo : List Int} {g : Nat → Int} (h : Rec lo g) (C : List Int) : Rec lo fun i => sv g i C := fun m => by
  show sv g (m + lo.length) C = -sv (fun i => sv g i C) m lo
  have e1 : sv (fun i => sv g i C) m lo = sv (fun i => sv (fun j => g (i + j)) 0 C) m lo := sv_ext (fun i => by rw [sv_shift]; rfl) _ _
  rw [e1, sv_swap (fun i j => g (i + j)) lo C m 0]
  have e2 : sv (fun b => sv (fun a => g (a + b)) m lo) 0 C = sv (fun b => -g (m + lo.length + b)) 0 C := sv_ext (fun b => by
    have e3 : (fun a => g (a + b)) = fun a => g (b + a) := funext fun a => by rw [Nat.add_comm]
    rw [e3, sv_shift, show m + lo.length + b = b + m + lo.length by omega, h (b + m)]; omega) _ _
  rw [e2, sv_neg, sv_shift]
  show sv g (m + lo.length) C = - -sv g (m + lo.length) C
  omega
/-! the sequence with given first values -/
def rstep (lo s : List Int) : List Int := s.drop 1 ++ [-sv (fun j => s.getD j 0) 0 lo]
def rst (lo s : List Int) : Nat → List Int
  | 0 => s
  | n + 1 => rstep lo (rst lo s n)
def rsq (lo s : List Int) (n : Nat) : Int := (rst lo s n).getD 0 0
theorem rst_len {lo s : List Int} (h : s.length = lo.length) (hd : 1 ≤ lo.length) : ∀ n, (rst lo s n).length = lo.length
  | 0 => h
  | n + 1 => by
    show (rstep lo (rst lo s n)).length = _
    unfold rstep
    rw [List.length_append, List.length_drop, rst_len h hd n]
    show _ + 1 = _
    omega
theorem rst_get {lo s : List Int} (h : s.length = lo.length) (hd : 1 ≤ lo.length) : ∀ (j n : Nat), j < lo.length → (rst lo s n).getD j 0 = rsq lo s (n + j)
  | 0, n, _ => rfl
  | j + 1, n, hj => by
    rw [show n + (j + 1) = n + 1 + j by omega, ← rst_get h hd j (n + 1) (by omega)]
    show _ = (rstep lo (rst lo s n)).getD j 0
    unfold rstep
    have hl := rst_len h hd n
    rw [List.getD_eq_getElem?_getD, List.getD_eq_getElem?_getD, List.getElem?_append_left (by rw [List.length_drop]; omega), List.getElem?_drop, Nat.add_comm 1 j]
theorem sv_below {f g : Nat → Int} {n : Nat} (h : ∀ j, j < n → f j = g j) : ∀ (r : List Int) (i : Nat), i + r.length ≤ n → sv f i r = sv g i r
  | [], _, _ => rfl
  | x :: r, i, hl => by
    rw [List.length_cons] at hl
    show x * f i + sv f (i + 1) r = x * g i + sv g (i + 1) r
    rw [h i (by omega), sv_below h r (i + 1) (by omega)]
theorem rsq_rec {lo s : List Int} (h : s.length = lo.length) (hd : 1 ≤ lo.length) : Rec lo (rsq lo s) := fun m => by
  have e1 := rst_get h hd (lo.length - 1) (m + 1) (by omega)
  rw [show m + 1 + (lo.length - 1) = m + lo.length by omega] at e1
  rw [← e1]
  show (rstep lo (rst lo s m)).getD (lo.length - 1) 0 = _
  unfold rstep
  have hl := rst_len h hd m
  rw [List.getD_eq_getElem?_getD, List.getElem?_append_right (by rw [List.length_drop]; omega), List.length_drop, hl, Nat.sub_self]
  show -sv (fun j => (rst lo s m).getD j 0) 0 lo = -sv (rsq lo s) m lo
  have e2 := sv_shift (rsq lo s) lo 0 m
  rw [Nat.add_zero] at e2
  rw [← e2, sv_below (n := lo.length) (fun j hj => rst_get h hd j m hj) lo 0 (by omega)]
theorem sv_delta (t : Nat) : ∀ (r : List Int) (i : Nat) (g : Nat → Int), (∀ j, i ≤ j → j < i + r.length → g j = if j = t then 1 else 0) → sv g i r = if i ≤ t ∧ t < i + r.length then r.getD (t - i) 0 else 0
  | [], i, g, _ => by rw [if_neg (by rw [List.length_nil]; omega)]; rfl
  | x :: r, i, g, h => by
    show x * g i + sv g (i + 1) r = _
    rw [List.length_cons] at h ⊢
    rw [sv_delta t r (i + 1) g fun j h1 h2 => h j (by omega) (by omega), h i (Nat.le_refl _) (by omega)]
    by_cases h1 : i = t
    · subst h1
      rw [if_pos rfl, if_neg (by omega), if_pos (by omega), Nat.sub_self]
      show x * 1 + 0 = x; omega
    · rw [if_neg h1, Int.mul_zero, Int.zero_add]
      by_cases h2 : i + 1 ≤ t ∧ t < i + 1 + r.length
      · rw [if_pos h2, if_pos (by omega)]
        obtain ⟨s, hs⟩ : ∃ s, t - i = s + 1 := ⟨t - i - 1, by omega⟩
        rw [hs, show t - (i + 1) = s by omega]; rfl
      · rw [if_neg h2, if_neg (by omega)]
/-- rows below p that no such sequence tells apart are one -/
theorem rows_eq {p : Int} {lo A B : List Int} (hd : 1 ≤ lo.length) (hA : A.length = lo.length) (hB : B.length = lo.length) (ha : ∀ x ∈ A, 0 ≤ x ∧ x < p) (hb : ∀ x ∈ B, 0 ≤ x ∧ x < p) (h : ∀ g, Rec lo g → sv g 0 A % p = sv g 0 B % p) : A = B := by
  refine list_getD_ext (hA.trans hB.symm) fun t => ?_
  by_cases ht : t < lo.length
  · have hs : ((List.range lo.length).map fun j => if j = t then (1 : Int) else 0).length = lo.length := by rw [List.length_map, List.length_range]
    have hg := h _ (rsq_rec (lo := lo) (s := (List.range lo.length).map fun j => if j = t then (1 : Int) else 0) hs hd)
    have hv : ∀ j, j < lo.length → rsq lo ((List.range lo.length).map fun j => if j = t then (1 : Int) else 0) j = if j = t then 1 else 0 := fun j hj => by
      have := rst_get hs hd j 0 hj
      rw [Nat.zero_add] at this
      rw [← this]
      show ((List.range lo.length).map fun j => if j = t then (1 : Int) else 0).getD j 0 = _
      rw [List.getD_eq_getElem?_getD, List.getElem?_map, List.getElem?_range hj]; rfl
    rw [sv_delta t A 0 _ (fun j _ h2 => hv j (by omega)), sv_delta t B 0 _ (fun j _ h2 => hv j (by omega)), if_pos (by omega), if_pos (by omega), Nat.sub_zero] at hg
    have h1 : A[t]? = some (A.getD t 0) := by rw [List.getD_eq_getElem?_getD, List.getElem?_eq_getElem (by omega)]; rfl
    have h2 : B[t]? = some (B.getD t 0) := by rw [List.getD_eq_getElem?_getD, List.getElem?_eq_getElem (by omega)]; rfl
    have h3 := ha _ (List.mem_of_getElem? h1)
    have h4 := hb _ (List.mem_of_getElem? h2)
    rw [Int.emod_eq_of_lt h3.1 h3.2, Int.emod_eq_of_lt h4.1 h4.2] at hg
    exact hg
  · rw [List.getD_eq_getElem?_getD, List.getD_eq_getElem?_getD, List.getElem?_eq_none (by omega), List.getElem?_eq_none (by omega)]
structure Low (p : Int) (lo : List Int) : Prop where
  p2 : 2 ≤ p
  d1 : 1 ≤ lo.length
  lo0 : ∀ x ∈ lo, 0 ≤ x
def Dig (p : Int) (lo A : List Int) : Prop := A.length = lo.length ∧ ∀ x ∈ A, 0 ≤ x ∧ x < p
theorem dig_mulM {p : Int} {lo : List Int} (L : Low p lo) (A B : List Int) : Dig p lo (mulM p lo A B) := ⟨mulM_len L.d1, mulM_mem (by have := L.p2; omega)⟩
theorem dig_figs {p : Int} {lo : List Int} (L : Low p lo) (a : Int) : Dig p lo (figs p lo.length a) := ⟨figs_len _ _ _, figs_mem (by have := L.p2; omega) _ _⟩
theorem dig_one {p : Int} {lo : List Int} (L : Low p lo) : Dig p lo (oneL lo.length) := oneL_ok L.p2 L.d1
theorem sv_mul {p : Int} {lo A B : List Int} {g : Nat → Int} (L : Low p lo) (hA : Dig p lo A) (hB : Dig p lo B) (hg : Rec lo g) : sv g 0 (mulM p lo A B) % p = sv (fun i => sv g i B) 0 A % p :=
  sv_mulM L.lo0 hg (fun x hx => (hA.2 x hx).1) hA.1 hB.1 L.d1
theorem sv_mul_at {p : Int} {lo A B : List Int} {g : Nat → Int} (L : Low p lo) (hA : Dig p lo A) (hB : Dig p lo B) (hg : Rec lo g) (i : Nat) : sv g i (mulM p lo A B) % p = sv (fun j => sv g (i + j) B) 0 A % p := by
  have e := sv_mul L hA hB (hg.shift i)
  rw [sv_shift, Nat.add_zero] at e
  rw [e]
  congr 1
  exact sv_ext (fun j => by rw [sv_shift]) _ _
theorem mulM_assoc {p : Int} {lo A B C : List Int} (L : Low p lo) (hA : Dig p lo A) (hB : Dig p lo B) (hC : Dig p lo C) : mulM p lo (mulM p lo A B) C = mulM p lo A (mulM p lo B C) := by
  refine rows_eq (p := p) L.d1 (dig_mulM L _ _).1 (dig_mulM L _ _).1 (dig_mulM L _ _).2 (dig_mulM L _ _).2 fun g hg => ?_
  rw [sv_mul L (dig_mulM L _ _) hC hg, sv_mul L hA hB (hg.comb C), sv_mul L hA (dig_mulM L _ _) hg]
  exact (sv_cong (fun i => by
    rw [sv_mul_at L hB hC hg i]
    have := sv_shift (fun i => sv g i C) B 0 i
    rw [Nat.add_zero] at this
    rw [← this]) A 0).symm
theorem mulM_one {p : Int} {lo A : List Int} (L : Low p lo) (hA : Dig p lo A) : mulM p lo (oneL lo.length) A = A := by
  refine rows_eq (p := p) L.d1 (dig_mulM L _ _).1 hA.1 (dig_mulM L _ _).2 hA.2 fun g hg => ?_
  rw [sv_mul L (dig_one L) hA hg]
  unfold oneL
  show (1 * sv g 0 A + sv _ 1 (List.replicate _ 0)) % p = _
  rw [sv_zero, Int.one_mul, Int.add_zero]
end Mi
namespace Mi
/-! ### powers of rows -/
def nl (p : Int) (lo A : List Int) : Nat → List Int
  | 0 => oneL lo.length
  | n + 1 => mulM p lo (nl p lo A n) A
theorem dig_nl {p : Int} {lo A : List Int} (L : Low p lo) : ∀ n, Dig p lo (nl p lo A n)
  | 0 => dig_one L
  | n + 1 => dig_mulM L _ _
theorem mul_comm {p : Int} {lo A B : List Int} (L : Low p lo) (hA : Dig p lo A) (hB : Dig p lo B) : mulM p lo A B = mulM p lo B A :=
  mulM_comm hA.1 hB.1 L.d1 (fun x hx => (hA.2 x hx).1) fun x hx => (hB.2 x hx).1
theorem one_mul' {p : Int} {lo A : List Int} (L : Low p lo) (hA : Dig p lo A) : mulM p lo A (oneL lo.length) = A := by rw [mul_comm L hA (dig_one L), mulM_one L hA]
theorem nl_add {p : Int} {lo A : List Int} (L : Low p lo) (hA : Dig p lo A) (m : Nat) : ∀ n, nl p lo A (m + n) = mulM p lo (nl p lo A m) (nl p lo A n)
  | 0 => (one_mul' L (dig_nl L m)).symm
  | n + 1 => by
    show mulM p lo (nl p lo A (m + n)) A = mulM p lo (nl p lo A m) (mulM p lo (nl p lo A n) A)
    rw [nl_add L hA m n, mulM_assoc L (dig_nl L m) (dig_nl L n) hA]
theorem nl_mul {p : Int} {lo A : List Int} (L : Low p lo) (hA : Dig p lo A) (m : Nat) : ∀ n, nl p lo (nl p lo A m) n = nl p lo A (m * n)
  | 0 => rfl
  | n + 1 => by
    show mulM p lo (nl p lo (nl p lo A m) n) (nl p lo A m) = nl p lo A (m * (n + 1))
    rw [nl_mul L hA m n, Nat.mul_succ, nl_add L hA]
theorem nl_one {p : Int} {lo A : List Int} (L : Low p lo) (hA : Dig p lo A) : nl p lo A 1 = A := mulM_one L hA
theorem powL_nl {p : Int} {lo : List Int} (L : Low p lo) : ∀ (n : Nat) (r f : List Int) (t : Int), Dig p lo r → Dig p lo f → 0 ≤ t → t < sizeI 2 n → powL p lo n r f t = mulM p lo r (nl p lo f t.toNat)
  | 0, r, f, t, hr, hf, h0, h1 => by
    have e : sizeI 2 0 = 1 := rfl
    rw [e] at h1
    obtain rfl : t = 0 := by omega
    exact (one_mul' L hr).symm
  | n + 1, r, f, t, hr, hf, h0, h1 => by
    rw [powL]
    by_cases ht : 0 < t
    · rw [if_pos ht]
      have h2 : t / 2 < sizeI 2 n := Int.ediv_lt_of_lt_mul (by decide) h1
      have hr' : Dig p lo (if t % 2 = 1 then mulM p lo r f else r) := by split; exact dig_mulM L _ _; exact hr
      have hf' : Dig p lo (if 0 < t / 2 then mulM p lo f f else f) := by split; exact dig_mulM L _ _; exact hf
      rw [powL_nl L n _ _ _ hr' hf' (by omega) h2]
      have key : nl p lo (if 0 < t / 2 then mulM p lo f f else f) (t / 2).toNat = nl p lo f (2 * (t / 2).toNat) := by
        by_cases h3 : 0 < t / 2
        · rw [if_pos h3]
          have e2 : mulM p lo f f = nl p lo f 2 := by
            show _ = mulM p lo (nl p lo f 1) f
            rw [nl_one L hf]
          rw [e2, nl_mul L hf]
        · rw [if_neg h3, show (t / 2).toNat = 0 by omega]
      rw [key]
      by_cases h4 : t % 2 = 1
      · rw [if_pos h4, mulM_assoc L hr hf (dig_nl L _)]
        congr 1
        rw [mul_comm L hf (dig_nl L _)]
        show nl p lo f (2 * (t / 2).toNat + 1) = _
        congr 1; omega
      · rw [if_neg h4]
        congr 2; omega
    · obtain rfl : t = 0 := by omega
      rw [if_neg ht]; exact (one_mul' L hr).symm
/-! ### elements -/
def Pm (p : Int) (lo : List Int) (a b : Int) : Int := num p (mulM p lo (figs p lo.length a) (figs p lo.length b))
def InF (p : Int) (lo : List Int) (a : Int) : Prop := 0 ≤ a ∧ a < sizeI p lo.length
theorem figs_zero (p : Int) : ∀ d, figs p d 0 = List.replicate d 0
  | 0 => rfl
  | d + 1 => by
    show 0 % p :: figs p d (0 / p) = _
    rw [Int.zero_emod, Int.zero_ediv, figs_zero p d]; rfl
theorem figs_1 {p : Int} (hp : 2 ≤ p) {d : Nat} (hd : 1 ≤ d) : figs p d 1 = oneL d := by
  obtain ⟨e, rfl⟩ : ∃ e, d = e + 1 := ⟨d - 1, by omega⟩
  show 1 % p :: figs p e (1 / p) = 1 :: List.replicate (e + 1 - 1) 0
  rw [Int.emod_eq_of_lt (by omega) (by omega), Int.ediv_eq_zero_of_lt (by omega) (by omega), figs_zero]; rfl
theorem one_in {p : Int} {lo : List Int} (L : Low p lo) : InF p lo 1 := by
  refine ⟨by omega, ?_⟩
  obtain ⟨e, he⟩ : ∃ e, lo.length = e + 1 := ⟨lo.length - 1, by have := L.d1; omega⟩
  rw [he]
  show 1 < sizeI p e * p
  have h0 := sizeI_pos (p := p) (by have := L.p2; omega) e
  have h1 : 1 * p ≤ sizeI p e * p := Int.mul_le_mul_of_nonneg_right (by omega) (by have := L.p2; omega)
  have := L.p2; omega
theorem Pm_in {p : Int} {lo : List Int} (L : Low p lo) (a b : Int) : InF p lo (Pm p lo a b) := by
  have h := dig_mulM L (figs p lo.length a) (figs p lo.length b)
  have h2 := num_lt L.p2 _ h.2
  rw [h.1] at h2; exact h2
theorem figs_Pm {p : Int} {lo : List Int} (L : Low p lo) (a b : Int) : figs p lo.length (Pm p lo a b) = mulM p lo (figs p lo.length a) (figs p lo.length b) := by
  have h := dig_mulM L (figs p lo.length a) (figs p lo.length b)
  have h2 := figs_num L.p2 _ h.2
  rw [h.1] at h2; exact h2
theorem Pm_comm {p : Int} {lo : List Int} (L : Low p lo) (a b : Int) : Pm p lo a b = Pm p lo b a := by
  unfold Pm; rw [mul_comm L (dig_figs L a) (dig_figs L b)]
theorem Pm_assoc {p : Int} {lo : List Int} (L : Low p lo) (a b c : Int) : Pm p lo (Pm p lo a b) c = Pm p lo a (Pm p lo b c) := by
  show num p (mulM p lo (figs p lo.length (Pm p lo a b)) (figs p lo.length c)) = num p (mulM p lo (figs p lo.length a) (figs p lo.length (Pm p lo b c)))
  rw [figs_Pm L, figs_Pm L, mulM_assoc L (dig_figs L a) (dig_figs L b) (dig_figs L c)]
theorem Pm_one {p : Int} {lo : List Int} (L : Low p lo) {a : Int} (ha : InF p lo a) : Pm p lo 1 a = a := by
  unfold Pm
  rw [figs_1 L.p2 L.d1, mulM_one L (dig_figs L a), num_figs L.p2 _ a ha.1 ha.2]
theorem Pm_one' {p : Int} {lo : List Int} (L : Low p lo) {a : Int} (ha : InF p lo a) : Pm p lo a 1 = a := by rw [Pm_comm L, Pm_one L ha]
theorem num_zero (p : Int) : ∀ n, num p (List.replicate n 0) = 0
  | 0 => rfl
  | n + 1 => by show num p (List.replicate n 0) * p + 0 = 0; rw [num_zero p n, Int.zero_mul]; rfl
theorem Pm_zero {p : Int} {lo : List Int} (L : Low p lo) (a : Int) : Pm p lo 0 a = 0 := by
  have hz : Dig p lo (List.replicate lo.length 0) := ⟨List.length_replicate, fun x hx => by have := List.eq_of_mem_replicate hx; have := L.p2; omega⟩
  have : mulM p lo (List.replicate lo.length 0) (figs p lo.length a) = List.replicate lo.length 0 := by
    refine rows_eq (p := p) L.d1 (dig_mulM L _ _).1 hz.1 (dig_mulM L _ _).2 hz.2 fun g hg => ?_
    rw [sv_mul L hz (dig_figs L a) hg, sv_zero, sv_zero]
  unfold Pm
  rw [figs_zero, this, num_zero]
def ep (p : Int) (lo : List Int) (a : Int) : Nat → Int
  | 0 => 1
  | n + 1 => Pm p lo (ep p lo a n) a
theorem ep_in {p : Int} {lo : List Int} (L : Low p lo) (a : Int) : ∀ n, InF p lo (ep p lo a n)
  | 0 => one_in L
  | n + 1 => Pm_in L _ _
theorem ep_one {p : Int} {lo : List Int} (L : Low p lo) {a : Int} (ha : InF p lo a) : ep p lo a 1 = a := Pm_one L ha
theorem ep_add {p : Int} {lo : List Int} (L : Low p lo) (a : Int) (m : Nat) : ∀ n, ep p lo a (m + n) = Pm p lo (ep p lo a m) (ep p lo a n)
  | 0 => (Pm_one' L (ep_in L a m)).symm
  | n + 1 => by
    show Pm p lo (ep p lo a (m + n)) a = Pm p lo (ep p lo a m) (Pm p lo (ep p lo a n) a)
    rw [ep_add L a m n, Pm_assoc L]
theorem ep_mul {p : Int} {lo : List Int} (L : Low p lo) (a : Int) (m : Nat) : ∀ n, ep p lo (ep p lo a m) n = ep p lo a (m * n)
  | 0 => rfl
  | n + 1 => by
    show Pm p lo (ep p lo (ep p lo a m) n) (ep p lo a m) = ep p lo a (m * (n + 1))
    rw [ep_mul L a m n, Nat.mul_succ, ep_add L a]
theorem ep_zero {p : Int} {lo : List Int} (L : Low p lo) : ∀ n, 0 < n → ep p lo 0 n = 0
  | 0, h => absurd h (by decide)
  | n + 1, _ => by show Pm p lo (ep p lo 0 n) 0 = 0; rw [Pm_comm L, Pm_zero L]
theorem ep_of1 {p : Int} {lo : List Int} (L : Low p lo) : ∀ n, ep p lo 1 n = 1
  | 0 => rfl
  | n + 1 => by show Pm p lo (ep p lo 1 n) 1 = 1; rw [ep_of1 L n, Pm_one L (one_in L)]
theorem figs_ep {p : Int} {lo : List Int} (L : Low p lo) (a : Int) : ∀ n, figs p lo.length (ep p lo a n) = nl p lo (figs p lo.length a) n
  | 0 => figs_1 L.p2 L.d1
  | n + 1 => by
    show figs p lo.length (Pm p lo (ep p lo a n) a) = mulM p lo (nl p lo (figs p lo.length a) n) (figs p lo.length a)
    rw [figs_Pm L, figs_ep L a n]
theorem raised_ep {p : Int} {lo : List Int} (L : Low p lo) (a : Int) {t : Int} (h0 : 0 ≤ t) (h1 : t < sizeI 2 64) : num p (raisedL p lo (figs p lo.length a) t) = ep p lo a t.toNat := by
  unfold raisedL
  rw [powL_nl L 64 _ _ t (dig_one L) (dig_figs L a) h0 h1, mulM_one L (dig_nl L _), ← figs_ep L]
  exact num_figs L.p2 _ _ (ep_in L a _).1 (ep_in L a _).2
/-- the law's power -/
def lawR (p : Int) (lo : List Int) : Nat → Int → Int → Int → Int
  | 0, f, _, _ => f
  | n + 1, f, a, t => if 0 < t then lawR p lo n (if t % 2 = 1 then lawTimes p lo f a else f) (lawTimes p lo a a) (t / 2) else lawR p lo n f a t
theorem times_Pm {p : Int} {lo : List Int} (L : Low p lo) (a b : Int) : lawTimes p lo a b = Pm p lo a b := (prod_law L.p2 L.d1 L.lo0 a b).symm
theorem lawR_zero (p : Int) (lo : List Int) : ∀ (n : Nat) (f a t : Int), t ≤ 0 → lawR p lo n f a t = f
  | 0, _, _, _, _ => rfl
  | n + 1, f, a, t, h => by rw [lawR, if_neg (by omega), lawR_zero p lo n f a t h]
theorem lawR_ep {p : Int} {lo : List Int} (L : Low p lo) : ∀ (n : Nat) (f a t : Int), InF p lo f → InF p lo a → 0 ≤ t → t < sizeI 2 n → lawR p lo n f a t = Pm p lo f (ep p lo a t.toNat)
  | 0, f, a, t, hf, ha, h0, h1 => by
    have e : sizeI 2 0 = 1 := rfl
    rw [e] at h1
    obtain rfl : t = 0 := by omega
    exact (Pm_one' L hf).symm
  | n + 1, f, a, t, hf, ha, h0, h1 => by
    rw [lawR]
    by_cases ht : 0 < t
    · rw [if_pos ht, times_Pm L, times_Pm L]
      have h2 : t / 2 < sizeI 2 n := Int.ediv_lt_of_lt_mul (by decide) h1
      have hf' : InF p lo (if t % 2 = 1 then Pm p lo f a else f) := by split; exact Pm_in L _ _; exact hf
      rw [lawR_ep L n _ _ _ hf' (Pm_in L a a) (by omega) h2]
      have e2 : Pm p lo a a = ep p lo a 2 := by show _ = Pm p lo (ep p lo a 1) a; rw [ep_one L ha]
      rw [e2, ep_mul L]
      by_cases h4 : t % 2 = 1
      · rw [if_pos h4, Pm_assoc L]
        congr 1
        rw [Pm_comm L]
        show ep p lo a (2 * (t / 2).toNat + 1) = _
        congr 1; omega
      · rw [if_neg h4]
        congr 2; omega
    · obtain rfl : t = 0 := by omega
      rw [if_neg ht, lawR_zero p lo n f a 0 (by omega)]
      exact (Pm_one' L hf).symm
/-- the program's power -/
def fpow (p k : Int) (lo : List Int) (a t : Int) : Int := if a = 0 then (if t = 0 then 1 else 0) else num p (raisedL p lo (figs p k.toNat a) (t % (sizeI p k.toNat - 1)))
/-! ### tables -/
def chn (p : Int) (lo : List Int) (g : Int) : Int → List Int → Bool
  | x, [] => decide (Pm p lo x g = 1)
  | x, y :: r => decide (Pm p lo x g = y) && chn p lo g y r
/-- the powers of g, told as a list; the list is all but 0 -/
def tabOk (p : Int) (lo : List Int) (g : Int) (E : List Int) : Bool :=
  decide (0 ≤ g) && decide (g < sizeI p lo.length) && decide ((E.length : Int) + 1 = sizeI p lo.length) && decide (E.head? = some 1) && (match E with | [] => false | x :: r => chn p lo g x r) && (List.range E.length).all fun n => E.contains ((n : Int) + 1)
structure Tab (p : Int) (lo : List Int) (g : Int) (E : List Int) : Prop where
  gin : InF p lo g
  len : (E.length : Int) + 1 = sizeI p lo.length
  at_ : ∀ i, i < E.length → E.getD i 0 = ep p lo g i
  per : ep p lo g E.length = 1
  all : ∀ a, InF p lo a → a ≠ 0 → ∃ i, i < E.length ∧ ep p lo g i = a
theorem chn_ok {p : Int} {lo : List Int} {g : Int} : ∀ (r : List Int) (x : Int) (m : Nat), x = ep p lo g m → chn p lo g x r = true → (∀ i, i < r.length → r.getD i 0 = ep p lo g (m + 1 + i)) ∧ ep p lo g (m + 1 + r.length) = 1
  | [], x, m, hx, h => by
    have h' : Pm p lo x g = 1 := of_decide_eq_true h
    refine ⟨fun i hi => (by cases hi), ?_⟩
    show Pm p lo (ep p lo g m) g = 1
    rw [← hx]; exact h'
  | y :: r, x, m, hx, h => by
    rw [chn, Bool.and_eq_true, decide_eq_true_eq] at h
    have hy : y = ep p lo g (m + 1) := by rw [← h.1, hx]; rfl
    have ih := chn_ok r y (m + 1) hy h.2
    refine ⟨fun i hi => ?_, ?_⟩
    · cases i with
      | zero => exact hy
      | succ i => have := ih.1 i (Nat.lt_of_succ_lt_succ hi); rw [show m + 1 + (i + 1) = m + 1 + 1 + i by omega]; exact this
    · rw [List.length_cons, show m + 1 + (r.length + 1) = m + 1 + 1 + r.length by omega]; exact ih.2
theorem tab_ok {p : Int} {lo : List Int} {g : Int} {E : List Int} (h : tabOk p lo g E = true) : Tab p lo g E := by
  unfold tabOk at h
  simp only [Bool.and_eq_true, decide_eq_true_eq, List.all_eq_true, List.mem_range] at h
  obtain ⟨⟨⟨⟨⟨h1, h2⟩, h3⟩, h4⟩, h5⟩, h6⟩ := h
  cases E with
  | nil => cases h4
  | cons x r =>
    have hx : x = 1 := Option.some.inj h4
    have hc := chn_ok r x 0 hx h5
    have hat : ∀ i, i < (x :: r).length → (x :: r).getD i 0 = ep p lo g i := fun i hi => by
      cases i with
      | zero => exact hx
      | succ i => have := hc.1 i (Nat.lt_of_succ_lt_succ hi); rw [show i + 1 = 0 + 1 + i by omega]; rw [show 0 + 1 + i = i + 1 by omega] at this ⊢; exact this
    refine ⟨⟨h1, h2⟩, h3, hat, ?_, fun a ha h0 => ?_⟩
    · rw [List.length_cons, show r.length + 1 = 0 + 1 + r.length by omega]; exact hc.2
    · have h7 := h6 (a.toNat - 1) (by have := ha.1; have := ha.2; omega)
      have h8 := List.contains_iff_mem.mp h7
      rw [show ((a.toNat - 1 : Nat) : Int) + 1 = a by have := ha.1; omega] at h8
      obtain ⟨i, hi, he⟩ := List.getElem_of_mem h8
      refine ⟨i, hi, ?_⟩
      rw [← hat i hi, List.getD_eq_getElem?_getD, List.getElem?_eq_getElem hi]; exact he
/-- a ^ (q - 1) = 1 -/
theorem Tab.fermat {p : Int} {lo : List Int} {g : Int} {E : List Int} (L : Low p lo) (T : Tab p lo g E) {a : Int} (ha : InF p lo a) (h0 : a ≠ 0) : ep p lo a E.length = 1 := by
  obtain ⟨i, hi, rfl⟩ := T.all a ha h0
  rw [ep_mul L, Nat.mul_comm, ← ep_mul L, T.per, ep_of1 L]
theorem ep_mod {p : Int} {lo : List Int} (L : Low p lo) {a : Int} {n : Nat} (h : ep p lo a n = 1) (m : Nat) : ep p lo a (m % n) = ep p lo a m := by
  have e := Nat.div_add_mod m n
  have h2 : ep p lo a (n * (m / n) + m % n) = ep p lo a (m % n) := by rw [ep_add L, ← ep_mul L, h, ep_of1 L, Pm_one L (ep_in L a _)]
  rw [e] at h2; exact h2.symm
end Mi
namespace Mi
/-! ### the sixteen fields, with the powers of a generator and their exponents -/
structure FR where
  p : Nat
  k : Nat
  N : Nat
  g : Int
  E : List Int
  L : List Nat
def FR.P (r : FR) : Int := (r.p : Int)
def FR.lo (r : FR) : List Int := figs (r.p : Int) r.k (r.N : Int)
def rows16 : List FR := [
  ⟨2, 1, 0, 1, [1], [0, 0]⟩,
  ⟨2, 2, 3, 2, [1, 2, 3], [0, 0, 1, 2]⟩,
  ⟨2, 3, 3, 2, [1, 2, 4, 3, 6, 7, 5], [0, 0, 1, 3, 2, 6, 4, 5]⟩,
  ⟨3, 2, 1, 4, [1, 4, 6, 7, 2, 8, 3, 5], [0, 0, 4, 6, 1, 7, 2, 3, 5]⟩,
  ⟨2, 4, 3, 2, [1, 2, 4, 8, 3, 6, 12, 11, 5, 10, 7, 14, 15, 13, 9], [0, 0, 1, 4, 2, 8, 5, 10, 3, 14, 9, 7, 6, 13, 11, 12]⟩,
  ⟨5, 2, 2, 6, [1, 6, 14, 5, 8, 21, 3, 18, 7, 15, 19, 13, 4, 24, 16, 20, 22, 9, 2, 12, 23, 10, 11, 17], [0, 0, 18, 6, 12, 3, 1, 8, 4, 17, 21, 22, 19, 11, 2, 9, 14, 23, 7, 10, 15, 5, 16, 20, 13]⟩,
  ⟨3, 3, 7, 3, [1, 3, 9, 5, 15, 23, 13, 17, 20, 4, 12, 14, 11, 2, 6, 18, 7, 21, 16, 26, 22, 10, 8, 24, 25, 19], [0, 0, 13, 1, 9, 3, 14, 16, 22, 2, 21, 12, 10, 6, 11, 4, 18, 7, 15, 25, 8, 17, 20, 5, 23, 24, 19]⟩,
  ⟨7, 1, 0, 3, [1, 3, 2, 6, 4, 5], [0, 0, 2, 1, 4, 5, 3]⟩,
  ⟨2, 5, 5, 2, [1, 2, 4, 8, 16, 5, 10, 20, 13, 26, 17, 7, 14, 28, 29, 31, 27, 19, 3, 6, 12, 24, 21, 15, 30, 25, 23, 11, 22, 9, 18], [0, 0, 1, 18, 2, 5, 19, 11, 3, 29, 6, 27, 20, 8, 12, 23, 4, 10, 30, 17, 7, 22, 28, 26, 21, 25, 9, 16, 13, 14, 24, 15]⟩,
  ⟨7, 2, 1, 9, [1, 9, 31, 30, 21, 46, 16, 44, 5, 38, 43, 45, 7, 20, 24, 17, 4, 29, 19, 15, 35, 23, 8, 22, 6, 47, 25, 26, 28, 10, 40, 12, 2, 18, 13, 11, 42, 36, 32, 39, 3, 27, 37, 41, 14, 33, 48, 34], [0, 0, 32, 40, 16, 8, 24, 12, 22, 1, 29, 35, 31, 34, 44, 19, 6, 15, 33, 18, 13, 4, 23, 21, 14, 26, 27, 41, 28, 17, 3, 2, 38, 45, 47, 20, 37, 42, 9, 39, 30, 43, 36, 10, 7, 11, 5, 25, 46]⟩,
  ⟨11, 1, 0, 2, [1, 2, 4, 8, 5, 10, 9, 7, 3, 6], [0, 0, 1, 8, 2, 4, 9, 7, 3, 6, 5]⟩,
  ⟨3, 4, 5, 3, [1, 3, 9, 27, 7, 21, 63, 32, 13, 39, 43, 46, 55, 8, 24, 72, 59, 11, 33, 25, 75, 68, 38, 31, 10, 30, 16, 48, 70, 53, 76, 71, 47, 58, 17, 51, 79, 80, 74, 56, 2, 6, 18, 54, 5, 15, 45, 61, 26, 78, 77, 65, 29, 4, 12, 36, 34, 19, 57, 14, 42, 52, 73, 62, 20, 60, 23, 69, 50, 67, 44, 49, 64, 35, 22, 66, 41, 40, 37, 28], [0, 0, 40, 1, 53, 44, 41, 4, 13, 2, 24, 17, 54, 8, 59, 45, 26, 34, 42, 57, 64, 5, 74, 66, 14, 19, 48, 3, 79, 52, 25, 23, 7, 18, 56, 73, 55, 78, 22, 9, 77, 76, 60, 10, 70, 46, 11, 32, 27, 71, 68, 35, 61, 29, 43, 12, 39, 58, 33, 16, 65, 47, 63, 6, 72, 51, 75, 69, 21, 67, 28, 31, 15, 62, 38, 20, 30, 50, 49, 36, 37]⟩,
  ⟨13, 2, 2, 15, [1, 15, 54, 139, 50, 55, 154, 91, 25, 22, 146, 166, 113, 158, 6, 90, 155, 106, 66, 148, 14, 39, 85, 80, 18, 99, 119, 103, 10, 137, 20, 129, 58, 17, 84, 65, 133, 142, 82, 48, 38, 46, 8, 107, 81, 33, 153, 89, 140, 52, 109, 111, 141, 67, 163, 68, 9, 122, 135, 159, 21, 131, 112, 143, 121, 120, 105, 64, 94, 57, 2, 30, 108, 96, 87, 110, 126, 13, 37, 31, 123, 150, 44, 147, 12, 167, 128, 43, 132, 127, 28, 78, 157, 160, 36, 16, 69, 24, 7, 92, 27, 76, 116, 34, 168, 130, 97, 102, 164, 83, 63, 79, 3, 45, 162, 53, 124, 165, 98, 104, 49, 40, 100, 134, 144, 136, 5, 75, 101, 149, 29, 93, 42, 117, 73, 71, 41, 115, 19, 114, 4, 60, 47, 23, 161, 51, 70, 26, 61, 62, 77, 118, 88, 125, 11, 152, 74, 86, 95, 72, 56, 156, 145, 151, 59, 32, 138, 35], [0, 0, 70, 112, 140, 126, 14, 98, 42, 56, 28, 154, 84, 77, 20, 1, 95, 33, 24, 138, 30, 60, 9, 143, 97, 8, 147, 100, 90, 130, 71, 79, 165, 45, 103, 167, 94, 78, 40, 21, 121, 136, 132, 87, 82, 113, 41, 142, 39, 120, 4, 145, 49, 115, 2, 5, 160, 69, 32, 164, 141, 148, 149, 110, 67, 35, 18, 53, 55, 96, 146, 135, 159, 134, 156, 127, 101, 150, 91, 111, 23, 44, 38, 109, 34, 22, 157, 74, 152, 47, 15, 7, 99, 131, 68, 158, 73, 106, 118, 25, 122, 128, 107, 27, 119, 66, 17, 43, 72, 50, 75, 51, 62, 12, 139, 137, 102, 133, 151, 26, 65, 64, 57, 80, 116, 153, 76, 89, 86, 31, 105, 61, 88, 36, 123, 58, 125, 29, 166, 3, 48, 52, 37, 63, 124, 162, 10, 83, 19, 129, 81, 163, 155, 46, 6, 16, 161, 92, 13, 59, 93, 144, 114, 54, 108, 117, 11, 85, 104]⟩,
  ⟨2, 6, 3, 2, [1, 2, 4, 8, 16, 32, 3, 6, 12, 24, 48, 35, 5, 10, 20, 40, 19, 38, 15, 30, 60, 59, 53, 41, 17, 34, 7, 14, 28, 56, 51, 37, 9, 18, 36, 11, 22, 44, 27, 54, 47, 29, 58, 55, 45, 25, 50, 39, 13, 26, 52, 43, 21, 42, 23, 46, 31, 62, 63, 61, 57, 49, 33], [0, 0, 1, 6, 2, 12, 7, 26, 3, 32, 13, 35, 8, 48, 27, 18, 4, 24, 33, 16, 14, 52, 36, 54, 9, 45, 49, 38, 28, 41, 19, 56, 5, 62, 25, 11, 34, 31, 17, 47, 15, 23, 53, 51, 37, 44, 55, 40, 10, 61, 46, 30, 50, 22, 39, 43, 29, 60, 42, 21, 20, 59, 57, 58]⟩,
  ⟨5, 3, 6, 9, [1, 9, 41, 63, 20, 105, 51, 97, 25, 124, 7, 33, 6, 29, 115, 116, 120, 11, 74, 69, 49, 95, 42, 67, 36, 43, 71, 52, 76, 66, 32, 2, 13, 57, 121, 15, 85, 102, 44, 50, 93, 14, 61, 12, 53, 80, 82, 90, 22, 118, 108, 68, 40, 59, 109, 72, 56, 117, 104, 27, 107, 64, 4, 21, 114, 92, 5, 45, 79, 58, 100, 31, 23, 122, 24, 101, 35, 39, 30, 19, 81, 86, 106, 55, 113, 88, 119, 112, 84, 78, 54, 89, 123, 3, 17, 98, 34, 10, 65, 28, 111, 75, 62, 16, 94, 18, 77, 70, 73, 60, 8, 37, 47, 87, 110, 96, 46, 83, 99, 38, 26, 103, 48, 91], [0, 0, 31, 93, 62, 66, 12, 10, 110, 1, 97, 17, 43, 32, 41, 35, 103, 94, 105, 79, 4, 63, 48, 72, 74, 8, 120, 59, 99, 13, 78, 71, 30, 11, 96, 76, 24, 111, 119, 77, 52, 2, 22, 25, 38, 67, 116, 112, 122, 20, 39, 6, 27, 44, 90, 83, 56, 33, 69, 53, 109, 42, 102, 3, 61, 98, 29, 23, 51, 19, 107, 26, 55, 108, 18, 101, 28, 106, 89, 68, 45, 80, 46, 117, 88, 36, 81, 113, 85, 91, 47, 123, 65, 40, 104, 21, 115, 7, 95, 118, 70, 75, 37, 121, 58, 5, 82, 60, 50, 54, 114, 100, 87, 84, 64, 14, 15, 57, 49, 86, 16, 34, 73, 92, 9]⟩,
  ⟨97, 1, 0, 5, [1, 5, 25, 28, 43, 21, 8, 40, 6, 30, 53, 71, 64, 29, 48, 46, 36, 83, 27, 38, 93, 77, 94, 82, 22, 13, 65, 34, 73, 74, 79, 7, 35, 78, 2, 10, 50, 56, 86, 42, 16, 80, 12, 60, 9, 45, 31, 58, 96, 92, 72, 69, 54, 76, 89, 57, 91, 67, 44, 26, 33, 68, 49, 51, 61, 14, 70, 59, 4, 20, 3, 15, 75, 84, 32, 63, 24, 23, 18, 90, 62, 19, 95, 87, 47, 41, 11, 55, 81, 17, 85, 37, 88, 52, 66, 39], [0, 0, 34, 70, 68, 1, 8, 31, 6, 44, 35, 86, 42, 25, 65, 71, 40, 89, 78, 81, 69, 5, 24, 77, 76, 2, 59, 18, 3, 13, 9, 46, 74, 60, 27, 32, 16, 91, 19, 95, 7, 85, 39, 4, 58, 45, 15, 84, 14, 62, 36, 63, 93, 10, 52, 87, 37, 55, 47, 67, 43, 64, 80, 75, 12, 26, 94, 57, 61, 51, 66, 11, 50, 28, 29, 72, 53, 21, 33, 30, 41, 88, 23, 17, 73, 90, 38, 83, 92, 54, 79, 56, 49, 20, 22, 82, 48]⟩]
def FR.ok (r : FR) : Bool := decide (1 ≤ r.k) && chk (r.p : Int) r.k r.N && tabOk (r.p : Int) r.lo r.g r.E && (decide (r.L.length = r.E.length + 1) && (List.range r.E.length).all fun n => decide (r.L.getD (n + 1) 0 < r.E.length) && decide (r.E.getD (r.L.getD (n + 1) 0) 0 = ((n + 1 : Nat) : Int)))
theorem rows_all : rows16.all FR.ok = true := by decide +kernel
structure FOk (r : FR) : Prop where
  k1 : 1 ≤ r.k
  fd : isField (r.p : Int) (r.k : Int) = true
  fp : FieldP (r.p : Int) (r.k : Int) r.lo
  lw : LowerP (r.p : Int) (r.k : Int) r.lo
  tb : Tab (r.p : Int) r.lo r.g r.E
  lg : ∀ a, InF (r.p : Int) r.lo a → a ≠ 0 → r.L.getD a.toNat 0 < r.E.length ∧ r.E.getD (r.L.getD a.toNat 0) 0 = a
theorem rows_ok (r : FR) (h : r ∈ rows16) : FOk r := by
  have h1 := List.all_eq_true.mp rows_all r h
  unfold FR.ok at h1
  simp only [Bool.and_eq_true, decide_eq_true_eq, List.all_eq_true, List.mem_range] at h1
  obtain ⟨⟨⟨hk, hc⟩, ht⟩, hl1, hl2⟩ := h1
  have h3 := chk_ok hk hc
  have T := tab_ok ht
  refine ⟨hk, h3.1, h3.2.1, h3.2.2, T, fun a ha h0 => ?_⟩
  have hlen := T.len
  have h4 := hl2 (a.toNat - 1) (by have := ha.1; have := ha.2; omega)
  rw [show a.toNat - 1 + 1 = a.toNat by have := ha.1; omega, show ((a.toNat : Nat) : Int) = a by have := ha.1; omega] at h4
  exact h4
theorem FOk.low {r : FR} (h : FOk r) : Low (r.p : Int) r.lo := by
  have hB := isField_b h.fd
  refine ⟨hB.1, by unfold FR.lo; rw [figs_len]; exact h.k1, fun x hx => (figs_mem (by omega) _ _ x hx).1⟩
theorem FR.lol (r : FR) : r.lo.length = r.k := by unfold FR.lo; rw [figs_len]
/-- products and powers by the table -/
def FR.tm (r : FR) (a b : Int) : Int := if a = 0 then 0 else if b = 0 then 0 else r.E.getD ((r.L.getD a.toNat 0 + r.L.getD b.toNat 0) % r.E.length) 0
def FR.tp (r : FR) (a : Int) (t : Nat) : Int := if a = 0 then (if t = 0 then 1 else 0) else r.E.getD (r.L.getD a.toNat 0 * t % r.E.length) 0
theorem FOk.pos {r : FR} (h : FOk r) : 0 < r.E.length := by
  have h1 := h.tb.len
  have h2 := (one_in h.low).2
  omega
theorem FOk.tm_ok {r : FR} (h : FOk r) {a b : Int} (ha : InF (r.p : Int) r.lo a) (hb : InF (r.p : Int) r.lo b) : r.tm a b = Pm (r.p : Int) r.lo a b := by
  unfold FR.tm
  by_cases h1 : a = 0
  · rw [if_pos h1, h1, Pm_zero h.low]
  rw [if_neg h1]
  by_cases h2 : b = 0
  · rw [if_pos h2, h2, Pm_comm h.low, Pm_zero h.low]
  rw [if_neg h2]
  have e1 := h.lg a ha h1
  have e2 := h.lg b hb h2
  rw [h.tb.at_ _ (Nat.mod_lt _ h.pos), ep_mod h.low h.tb.per, ep_add h.low, ← h.tb.at_ _ e1.1, ← h.tb.at_ _ e2.1, e1.2, e2.2]
theorem FOk.tp_ok {r : FR} (h : FOk r) {a : Int} (ha : InF (r.p : Int) r.lo a) (t : Nat) : r.tp a t = ep (r.p : Int) r.lo a t := by
  unfold FR.tp
  by_cases h1 : a = 0
  · rw [if_pos h1, h1]
    by_cases h2 : t = 0
    · rw [if_pos h2, h2]; rfl
    · rw [if_neg h2, ep_zero h.low t (by omega)]
  rw [if_neg h1]
  have e1 := h.lg a ha h1
  rw [h.tb.at_ _ (Nat.mod_lt _ h.pos), ep_mod h.low h.tb.per, ← ep_mul h.low, ← h.tb.at_ _ e1.1, e1.2]
theorem field_size {p k : Int} (h : isField p k = true) : sizeI p k.toNat ≤ 1000000000000000 := by
  have hB := isField_b h
  unfold isField at h
  split at h
  · rename_i hk
    rw [hk]
    show 1 * p ≤ _
    omega
  · split at h
    · cases h
    · rw [Bool.and_eq_true, decide_eq_true_eq] at h
      exact h.2
/-- the program's power, by the table's exponents -/
theorem FOk.fpow_ok {r : FR} (h : FOk r) {a : Int} (ha : InF (r.p : Int) r.lo a) (t : Int) : fpow (r.p : Int) (r.k : Int) r.lo a t = if a = 0 then (if t = 0 then 1 else 0) else ep (r.p : Int) r.lo a (t % (r.E.length : Int)).toNat := by
  unfold fpow
  by_cases h1 : a = 0
  · rw [if_pos h1, if_pos h1]
  rw [if_neg h1, if_neg h1]
  have hl := h.tb.len
  have hs := field_size h.fd
  have hp := h.pos
  rw [r.lol] at hl
  have e64 : sizeI 2 64 = 18446744073709551616 := by decide +kernel
  rw [show ((r.k : Int)).toNat = r.k by omega] at hs ⊢
  rw [show sizeI (r.p : Int) r.k - 1 = (r.E.length : Int) by omega]
  have m0 : 0 ≤ t % (r.E.length : Int) := Int.emod_nonneg _ (by omega)
  have m1 : t % (r.E.length : Int) < (r.E.length : Int) := Int.emod_lt_of_pos _ (by omega)
  have := raised_ep h.low a (t := t % (r.E.length : Int)) m0 (by rw [e64]; omega)
  rw [r.lol] at this
  exact this
/-- with times from 0 on -/
theorem FOk.fpow_nat {r : FR} (h : FOk r) {a : Int} (ha : InF (r.p : Int) r.lo a) (t : Nat) : fpow (r.p : Int) (r.k : Int) r.lo a (t : Int) = ep (r.p : Int) r.lo a t := by
  rw [h.fpow_ok ha]
  by_cases h1 : a = 0
  · rw [if_pos h1, h1]
    by_cases h2 : t = 0
    · rw [if_pos (by omega), h2]; rfl
    · rw [if_neg (by omega), ep_zero h.low t (by omega)]
  · rw [if_neg h1, show ((t : Int) % (r.E.length : Int)).toNat = t % r.E.length by omega, ep_mod h.low (h.tb.fermat h.low ha h1)]
def itp (f : Int → Int) : Nat → Int → Int
  | 0, x => x
  | n + 1, x => f (itp f n x)
theorem itp_congr {f g : Int → Int} {S : Int → Prop} (h : ∀ x, S x → f x = g x) (hc : ∀ x, S x → S (g x)) {a : Int} (ha : S a) : ∀ n, itp f n a = itp g n a ∧ S (itp g n a)
  | 0 => ⟨rfl, ha⟩
  | n + 1 => by
    have ih := itp_congr h hc ha n
    show f (itp f n a) = g (itp g n a) ∧ S (g (itp g n a))
    rw [ih.1]; exact ⟨h _ ih.2, hc _ ih.2⟩
end Mi
namespace Mi
/-! ### conjugates, traces and norms, as the program and as the law reckon them -/
def lrow (f : Int → Int) (a : Int) : Nat → List Int
  | 0 => [a]
  | j + 1 => if itp f (j + 1) a ≠ a ∧ (lrow f a j).length = j + 1 then lrow f a j ++ [itp f (j + 1) a] else lrow f a j
def ltot (p : Int) (d : Nat) (f : Int → Int) (a : Int) : Nat → Int
  | 0 => a
  | j + 1 => lawPlus p d (ltot p d f a j) (itp f (j + 1) a)
def lmny (m : Int → Int → Int) (f : Int → Int) (a : Int) : Nat → Int
  | 0 => a
  | j + 1 => m (lmny m f a j) (itp f (j + 1) a)
/-- the turns to a's return -/
def Ret (f : Int → Int) (a : Int) (m : Nat) : Prop := 1 ≤ m ∧ itp f m a = a ∧ ∀ j, 1 ≤ j → j < m → itp f j a ≠ a
def orb (f : Int → Int) (a : Int) (m : Nat) : List Int := (List.range m).map fun j => itp f j a
def ck15 (r : FR) (a : Int) : Bool :=
  let f := fun x => r.tp x r.p
  let w := lrow f a (r.k - 1)
  decide (1 ≤ w.length) && decide (w.length ≤ 100) && decide (itp f w.length a = a) && ((List.range w.length).all fun j => decide (j = 0) || decide (itp f j a ≠ a)) && decide (w = orb f a w.length) &&
    decide (ltot r.p r.k f a (r.k - 1) < r.p) && decide (lmny r.tm f a (r.k - 1) < r.p)
theorem rows_15 : (rows16.all fun r => (List.range (r.E.length + 1)).all fun a => ck15 r (a : Int)) = true := by decide +kernel
structure Ck15 (r : FR) (a : Int) : Prop where
  ex : ∃ m, Ret (fun x => r.tp x r.p) a m ∧ m ≤ 100 ∧ lrow (fun x => r.tp x r.p) a (r.k - 1) = orb (fun x => r.tp x r.p) a m
  tr : ltot r.p r.k (fun x => r.tp x r.p) a (r.k - 1) < r.p
  no : lmny r.tm (fun x => r.tp x r.p) a (r.k - 1) < r.p
theorem ck15_ok {r : FR} (h : r ∈ rows16) {a : Int} (ha : InF (r.p : Int) r.lo a) : Ck15 r a := by
  have h1 := List.all_eq_true.mp rows_15 r h
  have hl := (rows_ok r h).tb.len
  have h2 := List.all_eq_true.mp h1 a.toNat (List.mem_range.mpr (by have := ha.1; have := ha.2; omega))
  rw [show ((a.toNat : Nat) : Int) = a by have := ha.1; omega] at h2
  unfold ck15 at h2
  simp only [Bool.and_eq_true, Bool.or_eq_true, decide_eq_true_eq, List.all_eq_true, List.mem_range] at h2
  obtain ⟨⟨⟨⟨⟨⟨h1, h2⟩, h3⟩, h4⟩, h5⟩, h6⟩, h7⟩ := h2
  exact ⟨⟨_, ⟨h1, h3, fun j hj1 hj2 => by rcases h4 j hj2 with e | e; omega; exact e⟩, h2, h5⟩, h6, h7⟩
/-- from the table's functions to the program's and the law's -/
theorem itp_tab {r : FR} (F : FOk r) {f : Int → Int} (hf : ∀ x, InF (r.p : Int) r.lo x → f x = ep (r.p : Int) r.lo x r.p) {a : Int} (ha : InF (r.p : Int) r.lo a) (n : Nat) : itp f n a = itp (fun x => r.tp x r.p) n a ∧ InF (r.p : Int) r.lo (itp f n a) := by
  have h := itp_congr (f := f) (g := fun x => r.tp x r.p) (S := InF (r.p : Int) r.lo) (fun x hx => by rw [hf x hx]; exact (F.tp_ok hx _).symm) (fun x hx => by show InF _ _ (r.tp x r.p); rw [F.tp_ok hx]; exact ep_in F.low _ _) ha n
  rw [h.1]; exact ⟨rfl, h.2⟩
theorem lrow_tab {r : FR} (F : FOk r) {f : Int → Int} (hf : ∀ x, InF (r.p : Int) r.lo x → f x = ep (r.p : Int) r.lo x r.p) {a : Int} (ha : InF (r.p : Int) r.lo a) : ∀ n, lrow f a n = lrow (fun x => r.tp x r.p) a n
  | 0 => rfl
  | n + 1 => by unfold lrow; rw [(itp_tab F hf ha (n + 1)).1, lrow_tab F hf ha n]
theorem ltot_tab {r : FR} (F : FOk r) {f : Int → Int} (hf : ∀ x, InF (r.p : Int) r.lo x → f x = ep (r.p : Int) r.lo x r.p) {a : Int} (ha : InF (r.p : Int) r.lo a) (p : Int) (d : Nat) : ∀ n, ltot p d f a n = ltot p d (fun x => r.tp x r.p) a n
  | 0 => rfl
  | n + 1 => by unfold ltot; rw [(itp_tab F hf ha (n + 1)).1, ltot_tab F hf ha p d n]
theorem lmny_tab {r : FR} (F : FOk r) {f : Int → Int} {m : Int → Int → Int} (hf : ∀ x, InF (r.p : Int) r.lo x → f x = ep (r.p : Int) r.lo x r.p) (hm : ∀ x y, m x y = Pm (r.p : Int) r.lo x y) {a : Int} (ha : InF (r.p : Int) r.lo a) : ∀ n, lmny m f a n = lmny r.tm (fun x => r.tp x r.p) a n ∧ InF (r.p : Int) r.lo (lmny m f a n)
  | 0 => ⟨rfl, ha⟩
  | n + 1 => by
    have ih := lmny_tab F hf hm ha n
    have hi := itp_tab F hf ha (n + 1)
    show m (lmny m f a n) (itp f (n + 1) a) = r.tm (lmny r.tm _ a n) (itp _ (n + 1) a) ∧ InF _ _ (m (lmny m f a n) (itp f (n + 1) a))
    rw [hm, ← ih.1, ← hi.1, F.tm_ok ih.2 hi.2]
    exact ⟨rfl, Pm_in F.low _ _⟩
/-- the program's sums and products from nothing -/
def ptot (p : Int) (d : Nat) (f : Int → Int) (a : Int) : Nat → Int
  | 0 => 0
  | j + 1 => wm p 1 d (ptot p d f a j) (itp f j a)
def pmny (p : Int) (lo : List Int) (f : Int → Int) (a : Int) : Nat → Int
  | 0 => 1
  | j + 1 => Pm p lo (pmny p lo f a j) (itp f j a)
theorem plus_zero {p : Int} (hp : 2 ≤ p) (d : Nat) {a : Int} (h0 : 0 ≤ a) (h1 : a < sizeI p d) : lawPlus p d 0 a = a := by
  unfold lawPlus
  have : ∀ (l : List Int), (∀ x ∈ l, 0 ≤ x ∧ x < p) → List.zipWith (fun x y => (x + y) % p) (List.replicate l.length 0) l = l := fun l => by
    induction l with
    | nil => intro _; rfl
    | cons x l ih =>
      intro h
      have hx := h x (List.mem_cons_self ..)
      rw [List.length_cons, List.replicate_succ, List.zipWith_cons_cons, ih fun y hy => h y (List.mem_cons_of_mem _ hy), Int.zero_add, Int.emod_eq_of_lt hx.1 hx.2]
  have h := this (figs p d a) (figs_mem (by omega) _ _)
  rw [figs_len] at h
  rw [figs_zero, h, num_figs hp d a h0 h1]
theorem ptot_ok {r : FR} (F : FOk r) {f : Int → Int} (hf : ∀ x, InF (r.p : Int) r.lo x → f x = ep (r.p : Int) r.lo x r.p) {a : Int} (ha : InF (r.p : Int) r.lo a) : ∀ n, ptot (r.p : Int) r.k f a (n + 1) = ltot (r.p : Int) r.k f a n ∧ InF (r.p : Int) r.lo (ltot (r.p : Int) r.k f a n) := by
  have hp := F.low.p2
  intro n
  induction n with
  | zero =>
    show wm _ 1 _ 0 a = a ∧ _
    rw [added_law hp _ _ _ (by omega) ha.1]
    have h1 := ha.2
    rw [r.lol] at h1
    exact ⟨plus_zero hp _ ha.1 h1, ha⟩
  | succ n ih =>
    have hi := (itp_tab F hf ha (n + 1)).2
    show wm _ 1 _ (ptot _ _ f a (n + 1)) (itp f (n + 1) a) = lawPlus _ _ (ltot _ _ f a n) (itp f (n + 1) a) ∧ InF _ _ (lawPlus _ _ (ltot _ _ f a n) (itp f (n + 1) a))
    rw [ih.1, ← added_law hp _ _ _ ih.2.1 hi.1]
    refine ⟨rfl, ?_⟩
    have := wm_lt (f := 1) hp r.k _ _ ih.2.1 hi.1
    unfold InF; rw [r.lol]; exact this
theorem pmny_ok {p : Int} {lo : List Int} (L : Low p lo) {f : Int → Int} {a : Int} (ha : InF p lo a) : ∀ n, pmny p lo f a (n + 1) = lmny (Pm p lo) f a n
  | 0 => Pm_one L ha
  | n + 1 => by
    show Pm p lo (pmny p lo f a (n + 1)) (itp f (n + 1) a) = Pm p lo (lmny (Pm p lo) f a n) (itp f (n + 1) a)
    rw [pmny_ok L ha n]
end Mi
namespace Mi
/-! ### the table's functions, everywhere those of the program -/
def FR.q (r : FR) : Int := (r.E.length : Int) + 1
def FR.inB (r : FR) (a : Int) : Bool := decide (0 ≤ a) && decide (a < r.q)
def FR.tm' (r : FR) (a b : Int) : Int := if r.inB a && r.inB b then r.tm a b else Pm (r.p : Int) r.lo a b
def FR.tp' (r : FR) (a t : Int) : Int := if r.inB a && decide (0 ≤ t) then r.tp a t.toNat else fpow (r.p : Int) (r.k : Int) r.lo a t
theorem FOk.in_of {r : FR} (h : FOk r) {a : Int} (hb : r.inB a = true) : InF (r.p : Int) r.lo a := by
  unfold FR.inB FR.q at hb
  rw [Bool.and_eq_true, decide_eq_true_eq, decide_eq_true_eq] at hb
  have := h.tb.len
  exact ⟨hb.1, by omega⟩
theorem FOk.tm_eq {r : FR} (h : FOk r) : Pm (r.p : Int) r.lo = r.tm' := by
  funext a b
  unfold FR.tm'
  split
  · rename_i hb
    rw [Bool.and_eq_true] at hb
    exact (h.tm_ok (h.in_of hb.1) (h.in_of hb.2)).symm
  · rfl
theorem FOk.tp_eq {r : FR} (h : FOk r) : fpow (r.p : Int) (r.k : Int) r.lo = r.tp' := by
  funext a t
  unfold FR.tp'
  split
  · rename_i hb
    rw [Bool.and_eq_true, decide_eq_true_eq] at hb
    rw [h.tp_ok (h.in_of hb.1), ← h.fpow_nat (h.in_of hb.1), show ((t.toNat : Nat) : Int) = t by omega]
  · rfl
/-! ### squares and roots -/
def sqB (pw : Int → Int → Int) (p q a : Int) : Bool := (decide (a = 0) || decide (p = 2)) || decide (pw a ((q - 1) / 2) = 1)
def fns (pw : Int → Int → Int) (p q : Int) : Nat → Int → Option Int
  | 0, _ => none
  | n + 1, z => if sqB pw p q z then fns pw p q n (z + 1) else some z
def dep (m : Int → Int → Int) : Nat → Int → Option Nat
  | 0, _ => none
  | n + 1, x => if x = 1 then some 0 else (dep m n (m x x)).map (· + 1)
def rootL (m : Int → Int → Int) (unit twos : Int) : Nat → Int → Int → Option Int
  | 0, _, _ => none
  | n + 1, root, rest => if rest = 1 then some root else (dep m 64 rest).bind fun c => rootL m unit twos n (m root (itp (fun x => m x x) (twos - (c : Int) - 1).toNat unit)) (m rest (m (itp (fun x => m x x) (twos - (c : Int) - 1).toNat unit) (itp (fun x => m x x) (twos - (c : Int) - 1).toNat unit)))
def oddT : Nat → Int → Int → Option (Int × Int)
  | 0, _, _ => none
  | n + 1, o, t => if o % 2 = 0 then oddT n (o / 2) (t + 1) else some (o, t)
def rootI (m : Int → Int → Int) (pw : Int → Int → Int) (p k q a : Int) : Option Int :=
  (oddT 64 (q - 1) 0).bind fun ot => (fns pw p q 200 (if k = 1 then 2 else p)).bind fun u => rootL m (pw u ot.1) ot.2 64 (pw a ((ot.1 + 1) / 2)) (pw a ot.1)
def firstAt : List Int → Int → Nat → Option Nat
  | [], _, _ => none
  | y :: l, a, i => if y = a then some i else firstAt l a (i + 1)
theorem firstAt_ok (g : Nat → Int) (a : Int) : ∀ n s, firstAt ((List.range' s n).map g) a s = (List.range' s n).find? fun x => decide (g x = a)
  | 0, _ => rfl
  | n + 1, s => by
    rw [List.range'_succ, List.map_cons, List.find?_cons, firstAt]
    by_cases h : g s = a
    · rw [if_pos h, decide_eq_true h]
    · rw [if_neg h, decide_eq_false h, firstAt_ok g a n (s + 1)]
def min2 (i j : Int) : Int := if j < i then j else i
def ck17 (r : FR) (SQ : List Int) (a : Int) : Bool :=
  match firstAt SQ a 0 with
  | none => !sqB r.tp' r.p r.q a
  | some x => sqB r.tp' r.p r.q a && (if a = 0 ∨ (r.p : Int) = 2 then decide (r.tp' a (r.q / 2) = (x : Int)) else match rootI r.tm' r.tp' r.p r.k r.q a with
    | none => false
    | some z => decide (0 ≤ z) && decide (z < r.q) && decide (min2 z (wm r.p (-1) r.k 0 z) = (x : Int)))
def sqs16 : List (List Int) := [
  [0, 1],
  [0, 1, 3, 2],
  [0, 1, 4, 5, 6, 7, 2, 3],
  [0, 1, 1, 2, 6, 3, 2, 3, 6],
  [0, 1, 4, 5, 3, 2, 7, 6, 12, 13, 8, 9, 15, 14, 11, 10],
  [0, 1, 4, 4, 1, 3, 14, 22, 7, 19, 2, 23, 16, 11, 8, 2, 8, 11, 16, 23, 3, 19, 7, 22, 14],
  [0, 1, 1, 9, 16, 13, 9, 13, 16, 15, 7, 25, 22, 11, 8, 20, 12, 6, 15, 25, 7, 20, 6, 12, 22, 8, 11],
  [0, 1, 4, 2, 2, 4, 1],
  [0, 1, 4, 5, 16, 17, 20, 21, 10, 11, 14, 15, 26, 27, 30, 31, 13, 12, 9, 8, 29, 28, 25, 24, 7, 6, 3, 2, 23, 22, 19, 18],
  [0, 1, 4, 2, 2, 4, 1, 6, 14, 31, 43, 8, 24, 35, 3, 32, 7, 40, 19, 42, 25, 5, 48, 37, 28, 21, 16, 13, 5, 13, 16, 21, 28, 37, 48, 3, 25, 42, 19, 40, 7, 32, 6, 35, 24, 8, 43, 31, 14],
  [0, 1, 4, 9, 5, 3, 3, 5, 9, 4, 1],
  [0, 1, 1, 9, 16, 13, 9, 13, 16, 7, 26, 17, 70, 59, 74, 43, 29, 50, 7, 17, 26, 43, 50, 29, 70, 74, 59, 63, 37, 10, 77, 45, 24, 79, 47, 23, 76, 41, 5, 33, 22, 64, 2, 75, 42, 55, 38, 20, 12, 73, 34, 44, 18, 57, 63, 10, 37, 79, 23, 47, 77, 24, 45, 55, 20, 38, 44, 57, 18, 12, 34, 73, 76, 5, 41, 2, 42, 75, 33, 64, 22],
  [0, 1, 4, 9, 3, 12, 10, 10, 12, 3, 9, 4, 1, 11, 38, 54, 85, 105, 140, 164, 21, 49, 66, 98, 119, 155, 5, 58, 113, 157, 47, 95, 145, 28, 82, 138, 14, 74, 123, 8, 87, 168, 69, 154, 59, 135, 44, 124, 37, 108, 25, 100, 7, 112, 50, 146, 88, 19, 121, 56, 162, 101, 29, 141, 73, 2, 133, 97, 63, 18, 144, 116, 77, 27, 161, 128, 84, 42, 6, 163, 153, 132, 126, 109, 94, 81, 70, 61, 41, 36, 20, 6, 20, 36, 41, 61, 70, 81, 94, 109, 126, 132, 153, 163, 2, 42, 84, 128, 161, 27, 77, 116, 144, 18, 63, 97, 133, 7, 73, 141, 29, 101, 162, 56, 121, 19, 88, 146, 50, 112, 8, 100, 25, 108, 37, 124, 44, 135, 59, 154, 69, 168, 87, 5, 123, 74, 14, 138, 82, 28, 145, 95, 47, 157, 113, 58, 11, 155, 119, 98, 66, 49, 21, 164, 140, 105, 85, 54, 38],
  [0, 1, 4, 5, 16, 17, 20, 21, 3, 2, 7, 6, 19, 18, 23, 22, 12, 13, 8, 9, 28, 29, 24, 25, 15, 14, 11, 10, 31, 30, 27, 26, 48, 49, 52, 53, 32, 33, 36, 37, 51, 50, 55, 54, 35, 34, 39, 38, 60, 61, 56, 57, 44, 45, 40, 41, 63, 62, 59, 58, 47, 46, 43, 42],
  [0, 1, 4, 4, 1, 25, 36, 49, 34, 41, 100, 121, 119, 114, 106, 100, 106, 114, 119, 121, 25, 41, 34, 49, 36, 120, 46, 99, 24, 71, 13, 74, 107, 42, 79, 76, 22, 65, 110, 32, 94, 20, 53, 108, 35, 7, 73, 111, 26, 93, 30, 6, 109, 84, 56, 61, 47, 5, 115, 77, 17, 113, 81, 51, 48, 23, 104, 82, 62, 44, 54, 40, 8, 123, 85, 30, 56, 84, 109, 6, 54, 85, 123, 8, 40, 23, 44, 62, 82, 104, 17, 48, 51, 81, 113, 61, 77, 115, 5, 47, 120, 71, 24, 99, 46, 7, 93, 26, 111, 73, 94, 35, 108, 53, 20, 76, 32, 110, 65, 22, 13, 79, 42, 107, 74],
  [0, 1, 4, 9, 16, 25, 36, 49, 64, 81, 3, 24, 47, 72, 2, 31, 62, 95, 33, 70, 12, 53, 96, 44, 91, 43, 94, 50, 8, 65, 27, 88, 54, 22, 89, 61, 35, 11, 86, 66, 48, 32, 18, 6, 93, 85, 79, 75, 73, 73, 75, 79, 85, 93, 6, 18, 32, 48, 66, 86, 11, 35, 61, 89, 22, 54, 88, 27, 65, 8, 50, 94, 43, 91, 44, 96, 53, 12, 70, 33, 95, 62, 31, 2, 72, 47, 24, 3, 81, 64, 49, 36, 25, 16, 9, 4, 1]]
def row17 (r : FR) (SQ : List Int) : Bool := decide ((List.range' 0 (r.E.length + 1)).map (fun (x : Nat) => r.tm' (x : Int) (x : Int)) = SQ) && (List.range (r.E.length + 1)).all fun a => ck17 r SQ (a : Int)
theorem rows_17 : ((rows16.zip sqs16).all fun z => row17 z.1 z.2) = true := by decide +kernel
structure Ck17 (r : FR) (a : Int) : Prop where
  no : (List.range (r.E.length + 1)).find? (fun (x : Nat) => decide (Pm (r.p : Int) r.lo (x : Int) (x : Int) = a)) = none → sqB (fpow (r.p : Int) (r.k : Int) r.lo) r.p r.q a = false
  yes : ∀ x, (List.range (r.E.length + 1)).find? (fun (x : Nat) => decide (Pm (r.p : Int) r.lo (x : Int) (x : Int) = a)) = some x → sqB (fpow (r.p : Int) (r.k : Int) r.lo) r.p r.q a = true ∧
    ((a = 0 ∨ (r.p : Int) = 2) → fpow (r.p : Int) (r.k : Int) r.lo a (r.q / 2) = (x : Int)) ∧
    (¬(a = 0 ∨ (r.p : Int) = 2) → ∃ z, rootI (Pm (r.p : Int) r.lo) (fpow (r.p : Int) (r.k : Int) r.lo) r.p r.k r.q a = some z ∧ 0 ≤ z ∧ z < r.q ∧ min2 z (wm r.p (-1) r.k 0 z) = (x : Int))
theorem ck17_ok {r : FR} (h : r ∈ rows16) {a : Int} (ha : InF (r.p : Int) r.lo a) : Ck17 r a := by
  have hF := rows_ok r h
  obtain ⟨SQ, hz⟩ : ∃ SQ, (r, SQ) ∈ rows16.zip sqs16 := by
    obtain ⟨i, hi, rfl⟩ := List.getElem_of_mem h
    have hl : rows16.length = sqs16.length := by decide +kernel
    exact ⟨sqs16[i]'(by omega), List.mem_iff_getElem.mpr ⟨i, by rw [List.length_zip]; omega, by rw [List.getElem_zip]⟩⟩
  have h1 := List.all_eq_true.mp rows_17 _ hz
  unfold row17 at h1
  rw [Bool.and_eq_true, decide_eq_true_eq] at h1
  obtain ⟨hSQ, h2⟩ := h1
  dsimp only at h2 hSQ
  have hl := hF.tb.len
  have h3 := List.all_eq_true.mp h2 a.toNat (List.mem_range.mpr (by have := ha.1; have := ha.2; omega))
  rw [show ((a.toNat : Nat) : Int) = a by have := ha.1; omega] at h3
  have hfind := firstAt_ok (fun (x : Nat) => r.tm' (x : Int) (x : Int)) a (r.E.length + 1) 0
  rw [hSQ] at hfind
  unfold ck17 at h3
  rw [hfind] at h3
  refine ⟨fun hn => ?_, fun x hx => ?_⟩
  · rw [hF.tm_eq] at hn
    rw [List.range_eq_range'] at hn
    rw [hn] at h3
    rw [hF.tp_eq]
    simpa using h3
  · rw [hF.tm_eq] at hx
    rw [List.range_eq_range'] at hx
    rw [hx] at h3
    rw [hF.tp_eq, hF.tm_eq]
    simp only [Bool.and_eq_true] at h3
    refine ⟨h3.1, fun h0 => ?_, fun h0 => ?_⟩
    · have h4 := h3.2
      rw [if_pos h0] at h4
      exact of_decide_eq_true h4
    · have h4 := h3.2
      rw [if_neg h0] at h4
      split at h4
      · cases h4
      · rename_i z hz2
        simp only [Bool.and_eq_true, decide_eq_true_eq] at h4
        exact ⟨z, hz2, h4.1.1, h4.1.2, h4.2⟩
theorem dep_lt (m : Int → Int → Int) : ∀ (n : Nat) (x : Int) (c : Nat), dep m n x = some c → c < n
  | 0, _, _, h => by cases h
  | n + 1, x, c, h => by
    rw [dep] at h
    split at h
    · have := Option.some.inj h; omega
    · cases e : dep m n (m x x) with
      | none => rw [e] at h; cases h
      | some d =>
        rw [e] at h
        have h1 : d + 1 = c := Option.some.inj h
        have h2 := dep_lt m n _ d e
        omega
theorem oddT_le : ∀ (n : Nat) (o t : Int) (z : Int × Int), oddT n o t = some z → t ≤ z.2 ∧ z.2 ≤ t + n
  | 0, _, _, _, h => by cases h
  | n + 1, o, t, z, h => by
    rw [oddT] at h
    split at h
    · have := oddT_le n _ _ z h; omega
    · have := Option.some.inj h; subst this; show t ≤ t ∧ t ≤ t + _; omega
end Mi
namespace Mi
/-! ### least polynomials -/
def txlS (m ls : Int → Int → Int) (root : Int) : Nat → List Int → List Int → List Int
  | _, [], r => r
  | i, c :: cs, r => txlS m ls root (i + 1) cs (r.set i (ls (r.getD i 0) (m c root)))
def txl (m ls : Int → Int → Int) (cs : List Int) (root : Int) : List Int := txlS m ls root 0 cs (0 :: cs)
def lpol (m ls : Int → Int → Int) (roots : List Int) : List Int := roots.foldl (txl m ls) [1]
def atV (pl m : Int → Int → Int) (a : Int) : List Int → Int
  | [] => 0
  | c :: cs => pl (m (atV pl m a cs) a) c
def ck16 (r : FR) (a : Int) : Bool :=
  let f := fun x => r.tp x r.p
  let w := lrow f a (r.k - 1)
  let t := (lpol r.tm' (wm r.p (-1) r.k) w).dropLast
  decide (t.length = w.length) && (t.all fun x => decide (0 ≤ x) && decide (x < r.p)) && decide (atV (lawPlus r.p r.k) r.tm' a (t ++ [1]) = 0) &&
    ((List.range (w.length - 1)).all fun d => (List.range (min2 (sizeI r.p (d + 1)) 200).toNat).all fun n => decide (atV (lawPlus r.p r.k) r.tm' a (figs r.p (d + 1) (n : Int) ++ [1]) ≠ 0))
def row16 (i : Nat) : FR := rows16.getD i ⟨0, 0, 0, 0, [], []⟩
theorem c16_0_0 : ((List.range' 0 2).all fun a => ck16 (row16 0) (a : Int)) = true := by decide +kernel
theorem c16_1_0 : ((List.range' 0 4).all fun a => ck16 (row16 1) (a : Int)) = true := by decide +kernel
theorem c16_2_0 : ((List.range' 0 8).all fun a => ck16 (row16 2) (a : Int)) = true := by decide +kernel
theorem c16_3_0 : ((List.range' 0 9).all fun a => ck16 (row16 3) (a : Int)) = true := by decide +kernel
theorem c16_4_0 : ((List.range' 0 16).all fun a => ck16 (row16 4) (a : Int)) = true := by decide +kernel
theorem c16_5_0 : ((List.range' 0 22).all fun a => ck16 (row16 5) (a : Int)) = true := by decide +kernel
theorem c16_5_1 : ((List.range' 22 3).all fun a => ck16 (row16 5) (a : Int)) = true := by decide +kernel
theorem c16_6_0 : ((List.range' 0 22).all fun a => ck16 (row16 6) (a : Int)) = true := by decide +kernel
theorem c16_6_1 : ((List.range' 22 5).all fun a => ck16 (row16 6) (a : Int)) = true := by decide +kernel
theorem c16_7_0 : ((List.range' 0 7).all fun a => ck16 (row16 7) (a : Int)) = true := by decide +kernel
theorem c16_8_0 : ((List.range' 0 22).all fun a => ck16 (row16 8) (a : Int)) = true := by decide +kernel
theorem c16_8_1 : ((List.range' 22 10).all fun a => ck16 (row16 8) (a : Int)) = true := by decide +kernel
theorem c16_9_0 : ((List.range' 0 22).all fun a => ck16 (row16 9) (a : Int)) = true := by decide +kernel
theorem c16_9_1 : ((List.range' 22 22).all fun a => ck16 (row16 9) (a : Int)) = true := by decide +kernel
theorem c16_9_2 : ((List.range' 44 5).all fun a => ck16 (row16 9) (a : Int)) = true := by decide +kernel
theorem c16_10_0 : ((List.range' 0 11).all fun a => ck16 (row16 10) (a : Int)) = true := by decide +kernel
theorem c16_11_0 : ((List.range' 0 22).all fun a => ck16 (row16 11) (a : Int)) = true := by decide +kernel
theorem c16_11_1 : ((List.range' 22 22).all fun a => ck16 (row16 11) (a : Int)) = true := by decide +kernel
theorem c16_11_2 : ((List.range' 44 22).all fun a => ck16 (row16 11) (a : Int)) = true := by decide +kernel
theorem c16_11_3 : ((List.range' 66 15).all fun a => ck16 (row16 11) (a : Int)) = true := by decide +kernel
theorem c16_12_0 : ((List.range' 0 22).all fun a => ck16 (row16 12) (a : Int)) = true := by decide +kernel
theorem c16_12_1 : ((List.range' 22 22).all fun a => ck16 (row16 12) (a : Int)) = true := by decide +kernel
theorem c16_12_2 : ((List.range' 44 22).all fun a => ck16 (row16 12) (a : Int)) = true := by decide +kernel
theorem c16_12_3 : ((List.range' 66 22).all fun a => ck16 (row16 12) (a : Int)) = true := by decide +kernel
theorem c16_12_4 : ((List.range' 88 22).all fun a => ck16 (row16 12) (a : Int)) = true := by decide +kernel
theorem c16_12_5 : ((List.range' 110 22).all fun a => ck16 (row16 12) (a : Int)) = true := by decide +kernel
theorem c16_12_6 : ((List.range' 132 22).all fun a => ck16 (row16 12) (a : Int)) = true := by decide +kernel
theorem c16_12_7 : ((List.range' 154 15).all fun a => ck16 (row16 12) (a : Int)) = true := by decide +kernel
theorem c16_13_0 : ((List.range' 0 22).all fun a => ck16 (row16 13) (a : Int)) = true := by decide +kernel
theorem c16_13_1 : ((List.range' 22 22).all fun a => ck16 (row16 13) (a : Int)) = true := by decide +kernel
theorem c16_13_2 : ((List.range' 44 20).all fun a => ck16 (row16 13) (a : Int)) = true := by decide +kernel
theorem c16_14_0 : ((List.range' 0 22).all fun a => ck16 (row16 14) (a : Int)) = true := by decide +kernel
theorem c16_14_1 : ((List.range' 22 22).all fun a => ck16 (row16 14) (a : Int)) = true := by decide +kernel
theorem c16_14_2 : ((List.range' 44 22).all fun a => ck16 (row16 14) (a : Int)) = true := by decide +kernel
theorem c16_14_3 : ((List.range' 66 22).all fun a => ck16 (row16 14) (a : Int)) = true := by decide +kernel
theorem c16_14_4 : ((List.range' 88 22).all fun a => ck16 (row16 14) (a : Int)) = true := by decide +kernel
theorem c16_14_5 : ((List.range' 110 15).all fun a => ck16 (row16 14) (a : Int)) = true := by decide +kernel
theorem c16_15_0 : ((List.range' 0 97).all fun a => ck16 (row16 15) (a : Int)) = true := by decide +kernel
theorem all_at {P : Nat → Bool} {s n a : Nat} (h : ((List.range' s n).all fun x => P x) = true) (h1 : s ≤ a) (h2 : a < s + n) : P a = true := List.all_eq_true.mp h a (List.mem_range'_1.mpr ⟨h1, h2⟩)
theorem r16_0 (a : Nat) (h : a < 2) : ck16 (row16 0) (a : Int) = true := by
  exact all_at c16_0_0 (by omega) (by omega)
theorem r16_1 (a : Nat) (h : a < 4) : ck16 (row16 1) (a : Int) = true := by
  exact all_at c16_1_0 (by omega) (by omega)
theorem r16_2 (a : Nat) (h : a < 8) : ck16 (row16 2) (a : Int) = true := by
  exact all_at c16_2_0 (by omega) (by omega)
theorem r16_3 (a : Nat) (h : a < 9) : ck16 (row16 3) (a : Int) = true := by
  exact all_at c16_3_0 (by omega) (by omega)
theorem r16_4 (a : Nat) (h : a < 16) : ck16 (row16 4) (a : Int) = true := by
  exact all_at c16_4_0 (by omega) (by omega)
theorem r16_5 (a : Nat) (h : a < 25) : ck16 (row16 5) (a : Int) = true := by
  rcases Nat.lt_or_ge a 22 with h0 | h0
  · exact all_at c16_5_0 (by omega) (by omega)
  exact all_at c16_5_1 (by omega) (by omega)
theorem r16_6 (a : Nat) (h : a < 27) : ck16 (row16 6) (a : Int) = true := by
  rcases Nat.lt_or_ge a 22 with h0 | h0
  · exact all_at c16_6_0 (by omega) (by omega)
  exact all_at c16_6_1 (by omega) (by omega)
theorem r16_7 (a : Nat) (h : a < 7) : ck16 (row16 7) (a : Int) = true := by
  exact all_at c16_7_0 (by omega) (by omega)
theorem r16_8 (a : Nat) (h : a < 32) : ck16 (row16 8) (a : Int) = true := by
  rcases Nat.lt_or_ge a 22 with h0 | h0
  · exact all_at c16_8_0 (by omega) (by omega)
  exact all_at c16_8_1 (by omega) (by omega)
theorem r16_9 (a : Nat) (h : a < 49) : ck16 (row16 9) (a : Int) = true := by
  rcases Nat.lt_or_ge a 22 with h0 | h0
  · exact all_at c16_9_0 (by omega) (by omega)
  rcases Nat.lt_or_ge a 44 with h1 | h1
  · exact all_at c16_9_1 (by omega) (by omega)
  exact all_at c16_9_2 (by omega) (by omega)
theorem r16_10 (a : Nat) (h : a < 11) : ck16 (row16 10) (a : Int) = true := by
  exact all_at c16_10_0 (by omega) (by omega)
theorem r16_11 (a : Nat) (h : a < 81) : ck16 (row16 11) (a : Int) = true := by
  rcases Nat.lt_or_ge a 22 with h0 | h0
  · exact all_at c16_11_0 (by omega) (by omega)
  rcases Nat.lt_or_ge a 44 with h1 | h1
  · exact all_at c16_11_1 (by omega) (by omega)
  rcases Nat.lt_or_ge a 66 with h2 | h2
  · exact all_at c16_11_2 (by omega) (by omega)
  exact all_at c16_11_3 (by omega) (by omega)
theorem r16_12 (a : Nat) (h : a < 169) : ck16 (row16 12) (a : Int) = true := by
  rcases Nat.lt_or_ge a 22 with h0 | h0
  · exact all_at c16_12_0 (by omega) (by omega)
  rcases Nat.lt_or_ge a 44 with h1 | h1
  · exact all_at c16_12_1 (by omega) (by omega)
  rcases Nat.lt_or_ge a 66 with h2 | h2
  · exact all_at c16_12_2 (by omega) (by omega)
  rcases Nat.lt_or_ge a 88 with h3 | h3
  · exact all_at c16_12_3 (by omega) (by omega)
  rcases Nat.lt_or_ge a 110 with h4 | h4
  · exact all_at c16_12_4 (by omega) (by omega)
  rcases Nat.lt_or_ge a 132 with h5 | h5
  · exact all_at c16_12_5 (by omega) (by omega)
  rcases Nat.lt_or_ge a 154 with h6 | h6
  · exact all_at c16_12_6 (by omega) (by omega)
  exact all_at c16_12_7 (by omega) (by omega)
theorem r16_13 (a : Nat) (h : a < 64) : ck16 (row16 13) (a : Int) = true := by
  rcases Nat.lt_or_ge a 22 with h0 | h0
  · exact all_at c16_13_0 (by omega) (by omega)
  rcases Nat.lt_or_ge a 44 with h1 | h1
  · exact all_at c16_13_1 (by omega) (by omega)
  exact all_at c16_13_2 (by omega) (by omega)
theorem r16_14 (a : Nat) (h : a < 125) : ck16 (row16 14) (a : Int) = true := by
  rcases Nat.lt_or_ge a 22 with h0 | h0
  · exact all_at c16_14_0 (by omega) (by omega)
  rcases Nat.lt_or_ge a 44 with h1 | h1
  · exact all_at c16_14_1 (by omega) (by omega)
  rcases Nat.lt_or_ge a 66 with h2 | h2
  · exact all_at c16_14_2 (by omega) (by omega)
  rcases Nat.lt_or_ge a 88 with h3 | h3
  · exact all_at c16_14_3 (by omega) (by omega)
  rcases Nat.lt_or_ge a 110 with h4 | h4
  · exact all_at c16_14_4 (by omega) (by omega)
  exact all_at c16_14_5 (by omega) (by omega)
theorem r16_15 (a : Nat) (h : a < 97) : ck16 (row16 15) (a : Int) = true := by
  exact all_at c16_15_0 (by omega) (by omega)
theorem rows_16 (r : FR) (h : r ∈ rows16) (a : Nat) (ha : a < r.E.length + 1) : ck16 r (a : Int) = true := by
  obtain ⟨i, hi, rfl⟩ := List.getElem_of_mem h
  have hi2 : i < 16 := hi
  match i, hi2 with
  | 0, _ => exact r16_0 a ha
  | 1, _ => exact r16_1 a ha
  | 2, _ => exact r16_2 a ha
  | 3, _ => exact r16_3 a ha
  | 4, _ => exact r16_4 a ha
  | 5, _ => exact r16_5 a ha
  | 6, _ => exact r16_6 a ha
  | 7, _ => exact r16_7 a ha
  | 8, _ => exact r16_8 a ha
  | 9, _ => exact r16_9 a ha
  | 10, _ => exact r16_10 a ha
  | 11, _ => exact r16_11 a ha
  | 12, _ => exact r16_12 a ha
  | 13, _ => exact r16_13 a ha
  | 14, _ => exact r16_14 a ha
  | 15, _ => exact r16_15 a ha
  | n + 16, h => exact absurd h (by omega)
theorem txlS_len (m ls : Int → Int → Int) (root : Int) : ∀ (cs : List Int) (i : Nat) (r : List Int), (txlS m ls root i cs r).length = r.length
  | [], _, _ => rfl
  | c :: cs, i, r => by rw [txlS, txlS_len m ls root cs, List.length_set]
theorem txlS_snoc (m ls : Int → Int → Int) (root : Int) : ∀ (cs : List Int) (c : Int) (i : Nat) (r : List Int), txlS m ls root i (cs ++ [c]) r = (txlS m ls root i cs r).set (i + cs.length) (ls ((txlS m ls root i cs r).getD (i + cs.length) 0) (m c root))
  | [], _, _, _ => rfl
  | c' :: cs, c, i, r => by
    rw [List.cons_append, txlS, txlS_snoc m ls root cs]
    show _ = (txlS m ls root (i + 1) cs _).set (i + (cs.length + 1)) _
    rw [show i + 1 + cs.length = i + (cs.length + 1) by omega]; rfl
theorem txlS_in {m ls : Int → Int → Int} {root : Int} {P : Int → Prop} (h0 : P 0) (hm : ∀ x, P x → P (m x root)) (hl : ∀ x y, P x → P y → P (ls x y)) : ∀ (cs : List Int) (i : Nat) (r : List Int), (∀ x ∈ cs, P x) → (∀ x ∈ r, P x) → ∀ x ∈ txlS m ls root i cs r, P x
  | [], _, _, _, hr => hr
  | c :: cs, i, r, hc, hr => by
    rw [txlS]
    refine txlS_in h0 hm hl cs (i + 1) _ (fun x hx => hc x (List.mem_cons_of_mem _ hx)) fun x hx => ?_
    rcases List.mem_or_eq_of_mem_set hx with e | e
    · exact hr x e
    · rw [e]
      refine hl _ _ ?_ (hm c (hc c (List.mem_cons_self ..)))
      by_cases h : i < r.length
      · rw [List.getD_eq_getElem?_getD, List.getElem?_eq_getElem h]; exact hr _ (List.getElem_mem h)
      · rw [List.getD_eq_getElem?_getD, List.getElem?_eq_none (by omega)]; exact h0
theorem txl_len (m ls : Int → Int → Int) (cs : List Int) (root : Int) : (txl m ls cs root).length = cs.length + 1 := by unfold txl; rw [txlS_len]; rfl
theorem lpol_snoc (m ls : Int → Int → Int) (rs : List Int) (r : Int) : lpol m ls (rs ++ [r]) = txl m ls (lpol m ls rs) r := by unfold lpol; rw [List.foldl_append]; rfl
structure Ck16 (r : FR) (a : Int) (m : Nat) (T : List Int) : Prop where
  len : T.length = m
  mem : ∀ x ∈ T, 0 ≤ x ∧ x < r.p
  zero : atV (lawPlus r.p r.k) (lawTimes r.p r.lo) a (T ++ [1]) = 0
  less : ∀ d n : Nat, 1 ≤ d → d < m → n < (min2 (sizeI r.p d) 200).toNat → atV (lawPlus r.p r.k) (lawTimes r.p r.lo) a (figs r.p d (n : Int) ++ [1]) ≠ 0
theorem ck16_ok {r : FR} (h : r ∈ rows16) {a : Int} (ha : InF (r.p : Int) r.lo a) : Ck16 r a (lrow (fun x => r.tp x r.p) a (r.k - 1)).length (lpol (Pm r.p r.lo) (wm r.p (-1) r.k) (lrow (fun x => r.tp x r.p) a (r.k - 1))).dropLast := by
  have hF := rows_ok r h
  have hl := hF.tb.len
  have h2 := rows_16 r h a.toNat (by have := ha.1; have := ha.2; omega)
  rw [show ((a.toNat : Nat) : Int) = a by have := ha.1; omega] at h2
  unfold ck16 at h2
  have ht : lawTimes r.p r.lo = r.tm' := by rw [← hF.tm_eq]; funext x y; exact times_Pm hF.low x y
  rw [hF.tm_eq]
  simp only [Bool.and_eq_true, decide_eq_true_eq, List.all_eq_true, List.mem_range] at h2
  obtain ⟨⟨⟨h3, h4⟩, h5⟩, h6⟩ := h2
  refine ⟨h3, h4, by rw [ht]; exact h5, fun d n hd1 hd2 hn => ?_⟩
  rw [ht]
  have := h6 (d - 1) (by omega) n (by rw [show d - 1 + 1 = d by omega]; exact hn)
  rw [show d - 1 + 1 = d by omega] at this
  exact this
end Mi
namespace Mi
/-! ### four fields more -/
def fr4_0 : FR :=  ⟨2, 7, 3, 2, [1, 2, 4, 8, 16, 32, 64, 3, 6, 12, 24, 48, 96, 67, 5, 10, 20, 40, 80, 35, 70, 15, 30, 60, 120, 115, 101, 73, 17, 34, 68, 11, 22, 44, 88, 51, 102, 79, 29, 58, 116, 107, 85, 41, 82, 39, 78, 31, 62, 124, 123, 117, 105, 81, 33, 66, 7, 14, 28, 56, 112, 99, 69, 9, 18, 36, 72, 19, 38, 76, 27, 54, 108, 91, 53, 106, 87, 45, 90, 55, 110, 95, 61, 122, 119, 109, 89, 49, 98, 71, 13, 26, 52, 104, 83, 37, 74, 23, 46, 92, 59, 118, 111, 93, 57, 114, 103, 77, 25, 50, 100, 75, 21, 42, 84, 43, 86, 47, 94, 63, 126, 127, 125, 121, 113, 97, 65], [0, 0, 1, 7, 2, 14, 8, 56, 3, 63, 15, 31, 9, 90, 57, 21, 4, 28, 64, 67, 16, 112, 32, 97, 10, 108, 91, 70, 58, 38, 22, 47, 5, 54, 29, 19, 65, 95, 68, 45, 17, 43, 113, 115, 33, 77, 98, 117, 11, 87, 109, 35, 92, 74, 71, 79, 59, 104, 39, 100, 23, 82, 48, 119, 6, 126, 55, 13, 30, 62, 20, 89, 66, 27, 96, 111, 69, 107, 46, 37, 18, 53, 44, 94, 114, 42, 116, 76, 34, 86, 78, 73, 99, 103, 118, 81, 12, 125, 88, 61, 110, 26, 36, 106, 93, 52, 75, 41, 72, 85, 80, 102, 60, 124, 105, 25, 40, 51, 101, 84, 24, 123, 83, 50, 49, 122, 120, 121]⟩
def fr4_1 : FR :=  ⟨3, 5, 7, 3, [1, 3, 9, 27, 81, 5, 15, 45, 135, 167, 13, 39, 117, 113, 92, 29, 87, 23, 69, 207, 142, 188, 76, 228, 205, 127, 143, 182, 58, 174, 43, 129, 149, 200, 112, 98, 47, 141, 185, 67, 201, 124, 134, 155, 218, 166, 10, 30, 90, 32, 96, 50, 150, 212, 148, 206, 130, 152, 209, 139, 179, 49, 147, 203, 121, 125, 128, 137, 164, 4, 12, 36, 108, 86, 11, 33, 99, 59, 177, 52, 156, 230, 202, 118, 116, 101, 56, 168, 25, 75, 225, 196, 100, 62, 186, 79, 237, 232, 208, 136, 170, 22, 66, 198, 115, 107, 74, 222, 187, 73, 219, 178, 46, 138, 176, 40, 120, 122, 119, 110, 83, 2, 6, 18, 54, 162, 7, 21, 63, 189, 88, 26, 78, 234, 223, 181, 55, 165, 16, 48, 144, 194, 94, 44, 132, 158, 227, 193, 91, 35, 105, 77, 231, 214, 154, 224, 184, 64, 192, 97, 53, 159, 239, 229, 199, 109, 89, 20, 60, 180, 61, 183, 70, 210, 151, 215, 157, 233, 211, 145, 197, 103, 71, 213, 160, 242, 238, 226, 190, 82, 8, 24, 72, 216, 169, 19, 57, 171, 34, 102, 68, 204, 133, 161, 236, 220, 172, 28, 84, 14, 42, 126, 140, 173, 31, 93, 41, 123, 131, 146, 191, 85, 17, 51, 153, 221, 175, 37, 111, 95, 38, 114, 104, 65, 195, 106, 80, 240, 241, 235, 217, 163], [0, 0, 121, 1, 69, 5, 122, 126, 190, 2, 46, 74, 70, 10, 209, 6, 138, 222, 123, 195, 167, 127, 101, 17, 191, 88, 131, 3, 207, 15, 47, 214, 49, 75, 198, 149, 71, 227, 230, 11, 115, 216, 210, 30, 143, 7, 112, 36, 139, 61, 51, 223, 79, 160, 124, 136, 86, 196, 28, 77, 168, 170, 93, 128, 157, 233, 102, 39, 200, 18, 172, 182, 192, 109, 106, 89, 22, 151, 132, 95, 236, 4, 189, 120, 208, 221, 73, 16, 130, 166, 48, 148, 14, 215, 142, 229, 50, 159, 35, 76, 92, 85, 199, 181, 232, 150, 235, 105, 72, 165, 119, 228, 34, 13, 231, 104, 84, 12, 83, 118, 116, 64, 117, 217, 41, 65, 211, 25, 66, 31, 56, 218, 144, 202, 42, 8, 99, 67, 113, 59, 212, 37, 20, 26, 140, 179, 219, 62, 54, 32, 52, 174, 57, 224, 154, 43, 80, 176, 145, 161, 184, 203, 125, 241, 68, 137, 45, 9, 87, 194, 100, 197, 206, 213, 29, 226, 114, 78, 111, 60, 169, 135, 27, 171, 156, 38, 94, 108, 21, 129, 188, 220, 158, 147, 141, 234, 91, 180, 103, 164, 33, 40, 82, 63, 201, 24, 55, 19, 98, 58, 173, 178, 53, 183, 153, 175, 193, 240, 44, 110, 205, 225, 107, 134, 155, 90, 187, 146, 23, 163, 81, 152, 97, 177, 133, 239, 204, 96, 186, 162, 237, 238, 185]⟩
def fr4_2 : FR :=  ⟨251, 1, 0, 6, [1, 6, 36, 216, 41, 246, 221, 71, 175, 46, 25, 150, 147, 129, 21, 126, 3, 18, 108, 146, 123, 236, 161, 213, 23, 138, 75, 199, 190, 136, 63, 127, 9, 54, 73, 187, 118, 206, 232, 137, 69, 163, 225, 95, 68, 157, 189, 130, 27, 162, 219, 59, 103, 116, 194, 160, 207, 238, 173, 34, 204, 220, 65, 139, 81, 235, 155, 177, 58, 97, 80, 229, 119, 212, 17, 102, 110, 158, 195, 166, 243, 203, 214, 29, 174, 40, 240, 185, 106, 134, 51, 55, 79, 223, 83, 247, 227, 107, 140, 87, 20, 120, 218, 53, 67, 151, 153, 165, 237, 167, 249, 239, 179, 70, 169, 10, 60, 109, 152, 159, 201, 202, 208, 244, 209, 250, 245, 215, 35, 210, 5, 30, 180, 76, 205, 226, 101, 104, 122, 230, 125, 248, 233, 143, 105, 128, 15, 90, 38, 228, 113, 176, 52, 61, 115, 188, 124, 242, 197, 178, 64, 133, 45, 19, 114, 182, 88, 26, 156, 183, 94, 62, 121, 224, 89, 32, 192, 148, 135, 57, 91, 44, 13, 78, 217, 47, 31, 186, 112, 170, 16, 96, 74, 193, 154, 171, 22, 132, 39, 234, 149, 141, 93, 56, 85, 8, 48, 37, 222, 77, 211, 11, 66, 145, 117, 200, 196, 172, 28, 168, 4, 24, 144, 111, 164, 231, 131, 33, 198, 184, 100, 98, 86, 14, 84, 2, 12, 72, 181, 82, 241, 191, 142, 99, 92, 50, 49, 43, 7, 42], [0, 0, 235, 16, 220, 130, 1, 248, 205, 32, 115, 211, 236, 182, 233, 146, 190, 74, 17, 163, 100, 14, 196, 24, 221, 10, 167, 48, 218, 83, 131, 186, 175, 227, 59, 128, 2, 207, 148, 198, 85, 4, 249, 247, 181, 162, 9, 185, 206, 246, 245, 90, 152, 103, 33, 91, 203, 179, 68, 51, 116, 153, 171, 30, 160, 62, 212, 104, 44, 40, 113, 7, 237, 34, 192, 26, 133, 209, 183, 92, 70, 64, 239, 94, 234, 204, 232, 99, 166, 174, 147, 180, 244, 202, 170, 43, 191, 69, 231, 243, 230, 136, 75, 52, 137, 144, 88, 97, 18, 117, 76, 223, 188, 150, 164, 154, 53, 214, 36, 72, 101, 172, 138, 20, 156, 140, 15, 31, 145, 13, 47, 226, 197, 161, 89, 178, 29, 39, 25, 63, 98, 201, 242, 143, 222, 213, 19, 12, 177, 200, 11, 105, 118, 106, 194, 66, 168, 45, 77, 119, 55, 22, 49, 41, 224, 107, 79, 109, 219, 114, 189, 195, 217, 58, 84, 8, 151, 67, 159, 112, 132, 238, 165, 169, 229, 87, 187, 35, 155, 46, 28, 241, 176, 193, 54, 78, 216, 158, 228, 27, 215, 120, 121, 81, 60, 134, 37, 56, 122, 124, 129, 210, 73, 23, 82, 127, 3, 184, 102, 50, 61, 6, 208, 93, 173, 42, 135, 96, 149, 71, 139, 225, 38, 142, 199, 65, 21, 108, 57, 111, 86, 240, 157, 80, 123, 126, 5, 95, 141, 110, 125]⟩
def fr4_3 : FR :=  ⟨997, 1, 0, 7, [1, 7, 49, 343, 407, 855, 3, 21, 147, 32, 224, 571, 9, 63, 441, 96, 672, 716, 27, 189, 326, 288, 22, 154, 81, 567, 978, 864, 66, 462, 243, 704, 940, 598, 198, 389, 729, 118, 826, 797, 594, 170, 193, 354, 484, 397, 785, 510, 579, 65, 455, 194, 361, 533, 740, 195, 368, 582, 86, 602, 226, 585, 107, 749, 258, 809, 678, 758, 321, 253, 774, 433, 40, 280, 963, 759, 328, 302, 120, 840, 895, 283, 984, 906, 360, 526, 691, 849, 958, 724, 83, 581, 79, 553, 880, 178, 249, 746, 237, 662, 646, 534, 747, 244, 711, 989, 941, 605, 247, 732, 139, 973, 829, 818, 741, 202, 417, 925, 493, 460, 229, 606, 254, 781, 482, 383, 687, 821, 762, 349, 449, 152, 67, 469, 292, 50, 350, 456, 201, 410, 876, 150, 53, 371, 603, 233, 634, 450, 159, 116, 812, 699, 905, 353, 477, 348, 442, 103, 721, 62, 434, 47, 329, 309, 169, 186, 305, 141, 987, 927, 507, 558, 915, 423, 967, 787, 524, 677, 751, 272, 907, 367, 575, 37, 259, 816, 727, 104, 728, 111, 777, 454, 187, 312, 190, 333, 337, 365, 561, 936, 570, 2, 14, 98, 686, 814, 713, 6, 42, 294, 64, 448, 145, 18, 126, 882, 192, 347, 435, 54, 378, 652, 576, 44, 308, 162, 137, 959, 731, 132, 924, 486, 411, 883, 199, 396, 778, 461, 236, 655, 597, 191, 340, 386, 708, 968, 794, 573, 23, 161, 130, 910, 388, 722, 69, 483, 390, 736, 167, 172, 207, 452, 173, 214, 501, 516, 621, 359, 519, 642, 506, 551, 866, 80, 560, 929, 521, 656, 604, 240, 683, 793, 566, 971, 815, 720, 55, 385, 701, 919, 451, 166, 165, 158, 109, 763, 356, 498, 495, 474, 327, 295, 71, 497, 488, 425, 981, 885, 213, 494, 467, 278, 949, 661, 639, 485, 404, 834, 853, 986, 920, 458, 215, 508, 565, 964, 766, 377, 645, 527, 698, 898, 304, 134, 938, 584, 100, 700, 912, 402, 820, 755, 300, 106, 742, 209, 466, 271, 900, 318, 232, 627, 401, 813, 706, 954, 696, 884, 206, 445, 124, 868, 94, 658, 618, 338, 372, 610, 282, 977, 857, 17, 119, 833, 846, 937, 577, 51, 357, 505, 544, 817, 734, 153, 74, 518, 635, 457, 208, 459, 222, 557, 908, 374, 624, 380, 666, 674, 730, 125, 875, 143, 4, 28, 196, 375, 631, 429, 12, 84, 588, 128, 896, 290, 36, 252, 767, 384, 694, 870, 108, 756, 307, 155, 88, 616, 324, 274, 921, 465, 264, 851, 972, 822, 769, 398, 792, 559, 922, 472, 313, 197, 382, 680, 772, 419, 939, 591, 149, 46, 322, 260, 823, 776, 447, 138, 966, 780, 475, 334, 344, 414, 904, 346, 428, 5, 35, 245, 718, 41, 287, 15, 105, 735, 160, 123, 861, 45, 315, 211, 480, 369, 589, 135, 945, 633, 443, 110, 770, 405, 841, 902, 332, 330, 316, 218, 529, 712, 996, 990, 948, 654, 590, 142, 994, 976, 850, 965, 773, 426, 988, 934, 556, 901, 325, 281, 970, 808, 671, 709, 975, 843, 916, 430, 19, 133, 931, 535, 754, 293, 57, 399, 799, 608, 268, 879, 171, 200, 403, 827, 804, 643, 513, 600, 212, 487, 418, 932, 542, 803, 636, 464, 257, 802, 629, 415, 911, 395, 771, 412, 890, 248, 739, 188, 319, 239, 676, 744, 223, 564, 957, 717, 34, 238, 669, 695, 877, 157, 102, 714, 13, 91, 637, 471, 306, 148, 39, 273, 914, 416, 918, 444, 117, 819, 748, 251, 760, 335, 351, 463, 250, 753, 286, 8, 56, 392, 750, 265, 858, 24, 168, 179, 256, 795, 580, 72, 504, 537, 768, 391, 743, 216, 515, 614, 310, 176, 235, 648, 548, 845, 930, 528, 705, 947, 647, 541, 796, 587, 121, 847, 944, 626, 394, 764, 363, 547, 838, 881, 185, 298, 92, 644, 520, 649, 555, 894, 276, 935, 563, 950, 668, 688, 828, 811, 692, 856, 10, 70, 490, 439, 82, 574, 30, 210, 473, 320, 246, 725, 90, 630, 422, 960, 738, 181, 270, 893, 269, 886, 220, 543, 810, 685, 807, 664, 660, 632, 436, 61, 427, 995, 983, 899, 311, 183, 284, 991, 955, 703, 933, 549, 852, 979, 871, 115, 805, 650, 562, 943, 619, 345, 421, 953, 689, 835, 860, 38, 266, 865, 73, 511, 586, 114, 798, 601, 219, 536, 761, 342, 400, 806, 657, 611, 289, 29, 203, 424, 974, 836, 867, 87, 609, 275, 928, 514, 607, 261, 830, 825, 790, 545, 824, 783, 496, 481, 376, 638, 478, 355, 491, 446, 131, 917, 437, 68, 476, 341, 393, 757, 314, 204, 431, 26, 182, 277, 942, 612, 296, 78, 546, 831, 832, 839, 888, 234, 641, 499, 502, 523, 670, 702, 926, 500, 509, 572, 16, 112, 784, 503, 530, 719, 48, 336, 358, 512, 593, 163, 144, 11, 77, 539, 782, 489, 432, 33, 231, 620, 352, 470, 299, 99, 693, 863, 59, 413, 897, 297, 85, 595, 177, 242, 697, 891, 255, 788, 531, 726, 97, 679, 765, 370, 596, 184, 291, 43, 301, 113, 791, 552, 873, 129, 903, 339, 379, 659, 625, 387, 715, 20, 140, 980, 878, 164, 151, 60, 420, 946, 640, 492, 453, 180, 263, 844, 923, 479, 362, 540, 789, 538, 775, 440, 89, 623, 373, 617, 331, 323, 267, 872, 122, 854, 993, 969, 801, 622, 366, 568, 985, 913, 409, 869, 101, 707, 961, 745, 230, 613, 303, 127, 889, 241, 690, 842, 909, 381, 673, 723, 76, 532, 733, 146, 25, 175, 228, 599, 205, 438, 75, 525, 684, 800, 615, 317, 225, 578, 58, 406, 848, 951, 675, 737, 174, 221, 550, 859, 31, 217, 522, 663, 653, 583, 93, 651, 569, 992, 962, 752, 279, 956, 710, 982, 892, 262, 837, 874, 136, 952, 682, 786, 517, 628, 408, 862, 52, 364, 554, 887, 227, 592, 156, 95, 665, 667, 681, 779, 468, 285], [0, 0, 201, 6, 402, 465, 207, 1, 603, 12, 666, 817, 408, 580, 202, 471, 804, 371, 213, 524, 867, 7, 22, 248, 609, 930, 781, 18, 403, 743, 672, 954, 9, 823, 572, 466, 414, 183, 725, 586, 72, 469, 208, 853, 223, 477, 449, 161, 810, 2, 135, 377, 982, 142, 219, 286, 604, 530, 944, 832, 873, 697, 159, 13, 210, 49, 28, 132, 773, 254, 667, 302, 615, 728, 384, 936, 926, 818, 787, 92, 273, 24, 670, 90, 409, 836, 58, 749, 424, 890, 678, 581, 650, 960, 362, 989, 15, 846, 203, 829, 336, 910, 578, 157, 187, 472, 343, 62, 420, 294, 487, 189, 805, 855, 731, 713, 149, 592, 37, 372, 78, 638, 898, 475, 360, 399, 214, 917, 411, 859, 250, 770, 229, 525, 333, 483, 974, 226, 455, 110, 868, 167, 503, 401, 816, 212, 929, 8, 585, 448, 141, 872, 131, 383, 23, 423, 988, 577, 293, 148, 474, 249, 225, 815, 871, 292, 291, 258, 610, 164, 41, 536, 259, 262, 950, 931, 625, 838, 95, 611, 879, 683, 782, 703, 851, 648, 165, 192, 563, 19, 194, 241, 216, 42, 51, 55, 404, 441, 34, 234, 537, 138, 115, 744, 779, 934, 358, 260, 388, 345, 673, 479, 544, 308, 263, 322, 621, 955, 495, 734, 688, 951, 390, 568, 10, 942, 60, 986, 932, 120, 914, 824, 350, 145, 793, 626, 238, 98, 573, 565, 279, 919, 839, 30, 103, 467, 676, 108, 561, 96, 600, 595, 415, 69, 122, 842, 612, 552, 64, 184, 451, 755, 971, 880, 430, 607, 726, 896, 534, 686, 684, 347, 179, 587, 427, 751, 656, 783, 311, 966, 73, 515, 368, 81, 704, 995, 602, 470, 21, 742, 413, 852, 134, 529, 209, 301, 786, 835, 649, 828, 342, 854, 77, 916, 332, 166, 584, 422, 224, 163, 624, 702, 193, 440, 778, 478, 494, 941, 349, 564, 675, 68, 450, 895, 426, 514, 20, 300, 76, 162, 493, 894, 492, 195, 459, 597, 811, 196, 365, 861, 242, 775, 737, 3, 460, 719, 463, 217, 155, 129, 136, 598, 826, 153, 43, 767, 296, 378, 812, 267, 84, 52, 884, 644, 983, 197, 904, 181, 56, 481, 849, 143, 366, 892, 393, 405, 764, 327, 220, 862, 395, 923, 442, 125, 417, 287, 243, 865, 252, 35, 256, 619, 605, 776, 642, 557, 235, 45, 435, 531, 738, 352, 339, 538, 316, 489, 945, 4, 980, 908, 139, 232, 559, 833, 461, 555, 589, 116, 546, 445, 874, 720, 680, 173, 745, 305, 509, 698, 464, 407, 523, 780, 822, 71, 160, 218, 696, 772, 935, 669, 889, 14, 156, 486, 591, 359, 769, 454, 211, 130, 147, 290, 261, 878, 191, 50, 137, 387, 321, 389, 119, 237, 29, 599, 551, 429, 346, 310, 994, 133, 827, 583, 439, 674, 299, 458, 774, 154, 766, 883, 480, 763, 124, 255, 44, 315, 231, 545, 304, 821, 668, 768, 877, 118, 309, 298, 762, 303, 297, 795, 801, 264, 796, 807, 616, 379, 270, 170, 323, 802, 47, 729, 813, 542, 753, 622, 265, 978, 385, 268, 652, 276, 956, 797, 176, 937, 85, 329, 631, 496, 808, 844, 927, 53, 101, 527, 735, 617, 887, 819, 885, 635, 548, 689, 380, 759, 788, 645, 628, 709, 952, 271, 857, 93, 984, 654, 512, 391, 171, 437, 274, 198, 716, 658, 569, 324, 282, 25, 905, 962, 200, 11, 803, 247, 671, 182, 222, 376, 943, 48, 614, 91, 57, 959, 335, 61, 730, 637, 410, 482, 502, 447, 987, 814, 40, 837, 850, 240, 33, 933, 543, 733, 59, 144, 278, 107, 121, 754, 533, 750, 367, 741, 785, 915, 623, 940, 425, 893, 364, 718, 825, 266, 903, 891, 394, 864, 641, 351, 979, 554, 679, 406, 695, 485, 146, 386, 550, 582, 765, 314, 876, 794, 269, 541, 651, 328, 100, 634, 627, 653, 715, 961, 221, 958, 501, 239, 277, 740, 363, 863, 694, 313, 99, 957, 693, 990, 396, 991, 660, 574, 798, 518, 16, 924, 397, 948, 566, 177, 66, 847, 443, 992, 976, 280, 938, 691, 204, 126, 661, 722, 920, 86, 664, 830, 418, 575, 356, 840, 330, 151, 337, 288, 799, 707, 31, 632, 354, 911, 244, 519, 968, 104, 497, 206, 579, 866, 17, 571, 468, 809, 285, 158, 253, 925, 89, 677, 845, 186, 188, 36, 398, 228, 109, 928, 382, 473, 257, 949, 682, 562, 54, 114, 344, 620, 567, 913, 97, 102, 594, 63, 606, 178, 965, 601, 528, 341, 421, 777, 67, 75, 596, 736, 128, 295, 643, 848, 326, 416, 618, 434, 488, 558, 444, 508, 70, 888, 453, 190, 236, 993, 457, 123, 820, 761, 806, 46, 977, 175, 843, 886, 758, 856, 436, 281, 246, 613, 636, 39, 732, 532, 939, 902, 553, 549, 540, 714, 739, 692, 517, 65, 690, 663, 150, 353, 205, 284, 185, 381, 113, 593, 340, 127, 433, 452, 760, 757, 38, 539, 662, 112, 756, 789, 790, 373, 317, 723, 747, 972, 646, 791, 79, 490, 921, 521, 881, 629, 374, 639, 946, 87, 506, 431, 710, 318, 899, 5, 665, 370, 608, 953, 724, 476, 981, 831, 27, 727, 272, 748, 361, 909, 419, 712, 897, 858, 973, 400, 140, 576, 870, 535, 94, 647, 215, 233, 357, 307, 687, 985, 792, 918, 560, 841, 970, 685, 655, 80, 412, 834, 331, 701, 348, 513, 491, 860, 462, 152, 83, 180, 392, 922, 251, 556, 338, 907, 588, 172, 522, 771, 590, 289, 320, 428, 438, 882, 230, 117, 800, 169, 752, 275, 630, 526, 547, 708, 511, 657, 199, 375, 334, 446, 32, 106, 784, 717, 640, 484, 875, 633, 500, 312, 659, 947, 975, 721, 355, 706, 967, 570, 88, 227, 681, 912, 964, 74, 325, 507, 456, 174, 245, 901, 516, 283, 432, 111, 746, 520, 505, 369, 26, 711, 869, 306, 969, 700, 82, 906, 319, 168, 510, 105, 499, 705, 963, 900, 504, 699, 498]⟩
/-- the table, its exponents told by a list -/
def FR.ok2 (r : FR) : Bool := decide (1 ≤ r.k) && chk (r.p : Int) r.k r.N && (decide (0 ≤ r.g) && decide (r.g < sizeI (r.p : Int) r.lo.length) && decide ((r.E.length : Int) + 1 = sizeI (r.p : Int) r.lo.length) && decide (r.E.head? = some 1) && (match r.E with | [] => false | x :: l => chn (r.p : Int) r.lo r.g x l)) && (decide (r.L.length = r.E.length + 1))
def FR.ok3 (r : FR) : Bool := ((List.range r.E.length).all fun n => decide (r.L.getD (n + 1) 0 < r.E.length) && decide (r.E.getD (r.L.getD (n + 1) 0) 0 = ((n + 1 : Nat) : Int)))
theorem o4_0 : fr4_0.ok2 = true := by decide +kernel
theorem o4_1 : fr4_1.ok2 = true := by decide +kernel
theorem o4_2 : fr4_2.ok2 = true := by decide +kernel
theorem o4_3 : fr4_3.ok2 = true := by decide +kernel
theorem q4_0 : fr4_0.ok3 = true := by decide +kernel
theorem q4_1 : fr4_1.ok3 = true := by decide +kernel
theorem q4_2 : fr4_2.ok3 = true := by decide +kernel
def FR.row3 (r : FR) (n : Nat) : Bool := decide (r.L.getD (n + 1) 0 < r.E.length) && decide (r.E.getD (r.L.getD (n + 1) 0) 0 = ((n + 1 : Nat) : Int))
theorem q4_3_0 : ((List.range' 0 100).all fun n => fr4_3.row3 n) = true := by decide +kernel
theorem q4_3_1 : ((List.range' 100 100).all fun n => fr4_3.row3 n) = true := by decide +kernel
theorem q4_3_2 : ((List.range' 200 100).all fun n => fr4_3.row3 n) = true := by decide +kernel
theorem q4_3_3 : ((List.range' 300 100).all fun n => fr4_3.row3 n) = true := by decide +kernel
theorem q4_3_4 : ((List.range' 400 100).all fun n => fr4_3.row3 n) = true := by decide +kernel
theorem q4_3_5 : ((List.range' 500 100).all fun n => fr4_3.row3 n) = true := by decide +kernel
theorem q4_3_6 : ((List.range' 600 100).all fun n => fr4_3.row3 n) = true := by decide +kernel
theorem q4_3_7 : ((List.range' 700 100).all fun n => fr4_3.row3 n) = true := by decide +kernel
theorem q4_3_8 : ((List.range' 800 100).all fun n => fr4_3.row3 n) = true := by decide +kernel
theorem q4_3_9 : ((List.range' 900 96).all fun n => fr4_3.row3 n) = true := by decide +kernel
theorem all3_at {P : Nat → Bool} {s n a : Nat} (h : ((List.range' s n).all fun x => P x) = true) (h1 : s ≤ a) (h2 : a < s + n) : P a = true := List.all_eq_true.mp h a (List.mem_range'_1.mpr ⟨h1, h2⟩)
theorem len4_3 : fr4_3.E.length = 996 := by decide +kernel
theorem q4_3 : fr4_3.ok3 = true := by
  refine List.all_eq_true.mpr fun n hn => ?_
  rw [len4_3, List.mem_range] at hn
  show fr4_3.row3 n = true
  rcases Nat.lt_or_ge n 100 with h0 | h0
  · exact all3_at q4_3_0 (by omega) (by omega)
  rcases Nat.lt_or_ge n 200 with h1 | h1
  · exact all3_at q4_3_1 (by omega) (by omega)
  rcases Nat.lt_or_ge n 300 with h2 | h2
  · exact all3_at q4_3_2 (by omega) (by omega)
  rcases Nat.lt_or_ge n 400 with h3 | h3
  · exact all3_at q4_3_3 (by omega) (by omega)
  rcases Nat.lt_or_ge n 500 with h4 | h4
  · exact all3_at q4_3_4 (by omega) (by omega)
  rcases Nat.lt_or_ge n 600 with h5 | h5
  · exact all3_at q4_3_5 (by omega) (by omega)
  rcases Nat.lt_or_ge n 700 with h6 | h6
  · exact all3_at q4_3_6 (by omega) (by omega)
  rcases Nat.lt_or_ge n 800 with h7 | h7
  · exact all3_at q4_3_7 (by omega) (by omega)
  rcases Nat.lt_or_ge n 900 with h8 | h8
  · exact all3_at q4_3_8 (by omega) (by omega)
  exact all3_at q4_3_9 (by omega) (by omega)
end Mi
namespace Mi
theorem fok2 {r : FR} (h1 : r.ok2 = true) (h2 : r.ok3 = true) : FOk r := by
  unfold FR.ok2 at h1
  unfold FR.ok3 at h2
  simp only [Bool.and_eq_true, decide_eq_true_eq, List.all_eq_true, List.mem_range] at h1 h2
  obtain ⟨⟨⟨hk, hc⟩, ⟨⟨⟨⟨g1, g2⟩, g3⟩, g4⟩, g5⟩⟩, hl1⟩ := h1
  have h3 := chk_ok hk hc
  have hat : (∀ i, i < r.E.length → r.E.getD i 0 = ep r.p r.lo r.g i) ∧ ep r.p r.lo r.g r.E.length = 1 := by
    cases hE : r.E with
    | nil => rw [hE] at g4; cases g4
    | cons x l =>
      rw [hE] at g4 g5
      have hx : x = 1 := Option.some.inj g4
      have hc := chn_ok l x 0 hx g5
      refine ⟨fun i hi => ?_, ?_⟩
      · cases i with
        | zero => exact hx
        | succ i => have := hc.1 i (Nat.lt_of_succ_lt_succ hi); rw [show 0 + 1 + i = i + 1 by omega] at this; exact this
      · rw [List.length_cons, show l.length + 1 = 0 + 1 + l.length by omega]; exact hc.2
  have hlg : ∀ a, InF (r.p : Int) r.lo a → a ≠ 0 → r.L.getD a.toNat 0 < r.E.length ∧ r.E.getD (r.L.getD a.toNat 0) 0 = a := fun a ha h0 => by
    have h4 := h2 (a.toNat - 1) (by have := ha.1; have := ha.2; omega)
    rw [show a.toNat - 1 + 1 = a.toNat by have := ha.1; omega, show ((a.toNat : Nat) : Int) = a by have := ha.1; omega] at h4
    exact h4
  exact ⟨hk, h3.1, h3.2.1, h3.2.2, ⟨⟨g1, g2⟩, g3, hat.1, hat.2, fun a ha h0 => ⟨_, (hlg a ha h0).1, by rw [← hat.1 _ (hlg a ha h0).1]; exact (hlg a ha h0).2⟩⟩, hlg⟩
def rows20 : List FR := rows16 ++ [fr4_0, fr4_1, fr4_2, fr4_3]
theorem rows20_ok (r : FR) (h : r ∈ rows20) : FOk r := by
  rcases List.mem_append.mp h with h | h
  · exact rows_ok r h
  · have h' : r = fr4_0 ∨ r = fr4_1 ∨ r = fr4_2 ∨ r = fr4_3 := by simpa using h
    rcases h' with e | e | e | e
    · rw [e]; exact fok2 o4_0 q4_0
    · rw [e]; exact fok2 o4_1 q4_1
    · rw [e]; exact fok2 o4_2 q4_2
    · rw [e]; exact fok2 o4_3 q4_3
/-! ### orders, as the program looks for them -/
def strip (d : Int) : Nat → Int → Option Int
  | 0, _ => none
  | n + 1, x => if x % d = 0 then strip d n (x / d) else some x
def pdv : Nat → List Int → Int → Int → Option (List Int)
  | 0, _, _, _ => none
  | n + 1, fs, d, x => if d * d ≤ x then (strip d 64 x).bind fun x' => pdv n (if x % d = 0 then fs ++ [d] else fs) (d + 1) x' else some (if 1 < x then fs ++ [x] else fs)
def inW (pw : Int → Int → Int) (a d : Int) : Nat → Int → Option Int
  | 0, _ => none
  | n + 1, t => if t % d = 0 ∧ pw a (t / d) = 1 then inW pw a d n (t / d) else some t
def ordL (pw : Int → Int → Int) (a : Int) : List Int → Int → Option Int
  | [], t => some t
  | d :: ds, t => (inW pw a d 64 t).bind fun t' => ordL pw a ds t'
def hasOne (pw : Int → Int → Int) (z : Int) (ts : List Int) : Bool := ts.any fun t => decide (pw z t = 1)
def genF (pw : Int → Int → Int) (ts : List Int) : Nat → Int → Option Int
  | 0, _ => none
  | n + 1, z => if hasOne pw z ts then genF pw ts n (z + 1) else some z
def FR.ds (r : FR) : Option (List Int) := pdv 2000 [] 2 (r.E.length : Int)
def FR.od (r : FR) (a : Int) : Nat := r.E.length / Nat.gcd (r.L.getD a.toNat 0) r.E.length
def ck14 (r : FR) (ds : List Int) : Bool :=
  decide (r.ds = some ds) && (ds.all fun d => decide (2 ≤ d) && decide (d < 1000000000)) && (((r.E.drop 1).all fun x => decide (x ≠ 1)) &&
  (((List.range r.E.length).all fun n => decide (ordL r.tp' ((n + 1 : Nat) : Int) ds (r.E.length : Int) = some ((r.od ((n + 1 : Nat) : Int) : Nat) : Int))) &&
  (match genF r.tp' (ds.map fun d => (r.E.length : Int) / d) 200 1 with
    | none => false
    | some z => decide (1 ≤ z) && decide (z < r.q) && decide (z ≤ 100) && decide (r.od z = r.E.length) && (List.range z.toNat).all fun y => decide (y = 0) || decide (r.od (y : Int) ≠ r.E.length))))
def dsOf (r : FR) : List Int := match r.ds with
  | none => []
  | some ds => ds
theorem k14_0 : ck14 (rows16.getD 0 fr4_0) [] = true := by decide +kernel
theorem k14_1 : ck14 (rows16.getD 1 fr4_0) [3] = true := by decide +kernel
theorem k14_2 : ck14 (rows16.getD 2 fr4_0) [7] = true := by decide +kernel
theorem k14_3 : ck14 (rows16.getD 3 fr4_0) [2] = true := by decide +kernel
theorem k14_4 : ck14 (rows16.getD 4 fr4_0) [3, 5] = true := by decide +kernel
theorem k14_5 : ck14 (rows16.getD 5 fr4_0) [2, 3] = true := by decide +kernel
theorem k14_6 : ck14 (rows16.getD 6 fr4_0) [2, 13] = true := by decide +kernel
theorem k14_7 : ck14 (rows16.getD 7 fr4_0) [2, 3] = true := by decide +kernel
theorem k14_8 : ck14 (rows16.getD 8 fr4_0) [31] = true := by decide +kernel
theorem k14_9 : ck14 (rows16.getD 9 fr4_0) [2, 3] = true := by decide +kernel
theorem k14_10 : ck14 (rows16.getD 10 fr4_0) [2, 5] = true := by decide +kernel
theorem k14_11 : ck14 (rows16.getD 11 fr4_0) [2, 5] = true := by decide +kernel
theorem k14_12 : ck14 (rows16.getD 12 fr4_0) [2, 3, 7] = true := by decide +kernel
theorem k14_13 : ck14 (rows16.getD 13 fr4_0) [3, 7] = true := by decide +kernel
theorem k14_14 : ck14 (rows16.getD 14 fr4_0) [2, 31] = true := by decide +kernel
theorem k14_15 : ck14 (rows16.getD 15 fr4_0) [2, 3] = true := by decide +kernel
theorem k14_16 : ck14 fr4_0 [127] = true := by decide +kernel
theorem k14_17 : ck14 fr4_1 [2, 11] = true := by decide +kernel
theorem k14_18 : ck14 fr4_2 [2, 5] = true := by decide +kernel
theorem k14_19 : ck14 fr4_3 [2, 3, 83] = true := by decide +kernel
theorem rows_14 (r : FR) (h : r ∈ rows20) : ∃ ds, ck14 r ds = true := by
  rcases List.mem_append.mp h with h | h
  · obtain ⟨i, hi, rfl⟩ := List.getElem_of_mem h
    have hi2 : i < 16 := hi
    match i, hi2 with
    | 0, _ => exact ⟨_, k14_0⟩
    | 1, _ => exact ⟨_, k14_1⟩
    | 2, _ => exact ⟨_, k14_2⟩
    | 3, _ => exact ⟨_, k14_3⟩
    | 4, _ => exact ⟨_, k14_4⟩
    | 5, _ => exact ⟨_, k14_5⟩
    | 6, _ => exact ⟨_, k14_6⟩
    | 7, _ => exact ⟨_, k14_7⟩
    | 8, _ => exact ⟨_, k14_8⟩
    | 9, _ => exact ⟨_, k14_9⟩
    | 10, _ => exact ⟨_, k14_10⟩
    | 11, _ => exact ⟨_, k14_11⟩
    | 12, _ => exact ⟨_, k14_12⟩
    | 13, _ => exact ⟨_, k14_13⟩
    | 14, _ => exact ⟨_, k14_14⟩
    | 15, _ => exact ⟨_, k14_15⟩
    | n + 16, h => exact absurd h (by omega)
  · have h' : r = fr4_0 ∨ r = fr4_1 ∨ r = fr4_2 ∨ r = fr4_3 := by simpa using h
    rcases h' with e | e | e | e
    · rw [e]; exact ⟨_, k14_16⟩
    · rw [e]; exact ⟨_, k14_17⟩
    · rw [e]; exact ⟨_, k14_18⟩
    · rw [e]; exact ⟨_, k14_19⟩
end Mi
namespace Mi
theorem ep_is1 {r : FR} (F : FOk r) (hE : ∀ x ∈ r.E.drop 1, x ≠ 1) (m : Nat) : ep r.p r.lo r.g m = 1 ↔ r.E.length ∣ m := by
  have hp := F.pos
  rw [← ep_mod F.low F.tb.per m]
  have hj := Nat.mod_lt m hp
  rw [← F.tb.at_ _ hj]
  constructor
  · intro h
    rcases Nat.eq_zero_or_pos (m % r.E.length) with h0 | h0
    · exact Nat.dvd_of_mod_eq_zero h0
    · exfalso
      have h1 : r.E.getD (m % r.E.length) 0 ∈ r.E.drop 1 := by
        have h2 : (r.E.drop 1)[m % r.E.length - 1]? = some (r.E.getD (m % r.E.length) 0) := by
          rw [List.getElem?_drop, show 1 + (m % r.E.length - 1) = m % r.E.length by omega, List.getD_eq_getElem?_getD, List.getElem?_eq_getElem hj]; rfl
        exact List.mem_of_getElem? h2
      exact hE _ h1 h
  · intro h
    rw [Nat.mod_eq_zero_of_dvd h, F.tb.at_ 0 hp]; rfl
theorem od_dvd {n i : Nat} (hn : 0 < n) (t : Nat) : n ∣ i * t ↔ n / Nat.gcd i n ∣ t := by
  have hg : 0 < Nat.gcd i n := Nat.gcd_pos_of_pos_right _ hn
  obtain ⟨i', hi⟩ := Nat.gcd_dvd_left i n
  obtain ⟨n', hn'⟩ := Nat.gcd_dvd_right i n
  have hc := Nat.coprime_div_gcd_div_gcd (m := i) (n := n) hg
  generalize hG : Nat.gcd i n = G at *
  have h1 : i / G = i' := by rw [hi, Nat.mul_div_cancel_left _ hg]
  have h2 : n / G = n' := by rw [hn', Nat.mul_div_cancel_left _ hg]
  rw [h1, h2] at hc
  rw [h2]
  rw [hi, hn', Nat.mul_assoc]
  constructor
  · intro h
    have h3 := Nat.dvd_of_mul_dvd_mul_left hg h
    exact Nat.Coprime.dvd_of_dvd_mul_left hc.symm h3
  · intro h
    exact Nat.mul_dvd_mul_left _ (Nat.dvd_mul_left_of_dvd h _)
structure OrdAt (r : FR) (a : Int) (o : Nat) : Prop where
  pos : 1 ≤ o
  le : o ≤ r.E.length
  one : ep r.p r.lo a o = 1
  min : ∀ t, 1 ≤ t → t < o → ep r.p r.lo a t ≠ 1
theorem od_at {r : FR} (F : FOk r) (hE : ∀ x ∈ r.E.drop 1, x ≠ 1) {a : Int} (ha : InF (r.p : Int) r.lo a) (h0 : a ≠ 0) : OrdAt r a (r.od a) := by
  have hp := F.pos
  have hl := F.lg a ha h0
  have hg : 0 < Nat.gcd (r.L.getD a.toNat 0) r.E.length := Nat.gcd_pos_of_pos_right _ hp
  have key : ∀ t, ep r.p r.lo a t = 1 ↔ r.od a ∣ t := by
    intro t
    have e1 : ep r.p r.lo a t = ep r.p r.lo r.g (r.L.getD a.toNat 0 * t) := by
      rw [← ep_mul F.low, ← F.tb.at_ _ hl.1, hl.2]
    rw [e1, ep_is1 F hE, od_dvd hp]; rfl
  have ho : 1 ≤ r.od a := Nat.div_pos (Nat.le_of_dvd hp (Nat.gcd_dvd_right _ _)) hg
  refine ⟨ho, Nat.div_le_self _ _, (key _).mpr (Nat.dvd_refl _), fun t h1 h2 h3 => ?_⟩
  have := Nat.le_of_dvd (by omega) ((key t).mp h3)
  omega
structure Ck14 (r : FR) (ds : List Int) : Prop where
  pd : pdv 2000 [] 2 (r.E.length : Int) = some ds
  dm : ∀ d ∈ ds, 2 ≤ d ∧ d < 1000000000
  ord : ∀ a, InF (r.p : Int) r.lo a → a ≠ 0 → ordL (fpow r.p r.k r.lo) a ds (r.E.length : Int) = some ((r.od a : Nat) : Int)
  at_ : ∀ a, InF (r.p : Int) r.lo a → a ≠ 0 → OrdAt r a (r.od a)
  gen : ∃ z, genF (fpow r.p r.k r.lo) (ds.map fun d => (r.E.length : Int) / d) 200 1 = some z ∧ 1 ≤ z ∧ z < r.q ∧ z ≤ 100 ∧ r.od z = r.E.length ∧ ∀ y : Int, 1 ≤ y → y < z → r.od y ≠ r.E.length
theorem ck14_ok {r : FR} (h : r ∈ rows20) : ∃ ds, Ck14 r ds := by
  have F := rows20_ok r h
  obtain ⟨ds, h1⟩ := rows_14 r h
  refine ⟨ds, ?_⟩
  unfold ck14 at h1
  simp only [Bool.and_eq_true, decide_eq_true_eq, List.all_eq_true, List.mem_range] at h1
  obtain ⟨⟨h1, h2⟩, h3, h4, h5⟩ := h1
  have hl := F.tb.len
  refine ⟨h1, h2, fun a ha h0 => ?_, fun a ha h0 => od_at F h3 ha h0, ?_⟩
  · have h6 := h4 (a.toNat - 1) (by have := ha.1; have := ha.2; omega)
    rw [show ((a.toNat - 1 + 1 : Nat) : Int) = a by have := ha.1; omega] at h6
    rw [F.tp_eq]; exact h6
  · rw [F.tp_eq]
    split at h5
    · cases h5
    · rename_i z hz
      simp only [Bool.and_eq_true, Bool.or_eq_true, decide_eq_true_eq, List.all_eq_true, List.mem_range] at h5
      obtain ⟨⟨⟨⟨g1, g2⟩, g3⟩, g4⟩, g5⟩ := h5
      refine ⟨z, hz, g1, g2, g3, g4, fun y hy1 hy2 => ?_⟩
      have := g5 y.toNat (by omega)
      rw [show ((y.toNat : Nat) : Int) = y by omega] at this
      rcases this with e | e
      · omega
      · exact e
end Mi
namespace Mi
/-! ### powers by the prime, over sums and products -/
def dot : List Int → List Int → Int
  | x :: u, y :: v => x * y + dot u v
  | _, _ => 0
def FR.TT (r : FR) (a : Int) : Int := ltot r.p r.k (fun x => r.tp x r.p) a (r.k - 1)
def FR.NN (r : FR) (a : Int) : Int := lmny r.tm (fun x => r.tp x r.p) a (r.k - 1)
def FR.PP (r : FR) (a : Int) : List Int := (lpol r.tm' (wm r.p (-1) r.k) (lrow (fun x => r.tp x r.p) a (r.k - 1))).dropLast
def ck20 (r : FR) (m : List (List Int) × List Int) (a : Int) : Bool :=
  decide (figs r.p r.k (r.tp a r.p) = m.1.map fun c => dot c (figs r.p r.k a) % r.p) && decide (r.TT a = dot m.2 (figs r.p r.k a) % r.p) &&
    (decide (r.TT (r.tp a r.p) = r.TT a) && decide (r.NN (r.tp a r.p) = r.NN a) && decide (r.PP (r.tp a r.p) = r.PP a)) &&
    (decide ((lrow (fun x => r.tp x r.p) a (r.k - 1)).length ≠ r.k) || decide (((r.PP a).getD 0 0 - (if r.k % 2 = 1 then -1 else 1) * r.NN a) % r.p = 0))
def cst20 (r : FR) : Bool := (List.range r.p).all fun x => (List.range r.p).all fun y => decide (r.tm (x : Int) (y : Int) = (x : Int) * (y : Int) % r.p)
def m20_0 : List (List Int) × List Int := ([[1]], [1])
def m20_1 : List (List Int) × List Int := ([[1, 1], [0, 1]], [0, 1])
def m20_2 : List (List Int) × List Int := ([[1, 0, 0], [0, 0, 1], [0, 1, 1]], [1, 0, 0])
def m20_3 : List (List Int) × List Int := ([[1, 0], [0, 2]], [2, 0])
def m20_4 : List (List Int) × List Int := ([[1, 0, 1, 0], [0, 0, 1, 0], [0, 1, 0, 1], [0, 0, 0, 1]], [0, 0, 0, 1])
def m20_5 : List (List Int) × List Int := ([[1, 0], [0, 4]], [2, 0])
def m20_6 : List (List Int) × List Int := ([[1, 2, 1], [0, 1, 1], [0, 0, 1]], [0, 0, 2])
def m20_7 : List (List Int) × List Int := ([[1]], [1])
def m20_8 : List (List Int) × List Int := ([[1, 0, 0, 0, 1], [0, 0, 0, 1, 0], [0, 1, 0, 0, 1], [0, 0, 0, 1, 1], [0, 0, 1, 0, 0]], [1, 0, 0, 1, 0])
def m20_9 : List (List Int) × List Int := ([[1, 0], [0, 6]], [2, 0])
def m20_10 : List (List Int) × List Int := ([[1]], [1])
def m20_11 : List (List Int) × List Int := ([[1, 0, 0, 0], [0, 0, 0, 1], [0, 0, 1, 1], [0, 1, 2, 1]], [1, 0, 0, 0])
def m20_12 : List (List Int) × List Int := ([[1, 0], [0, 12]], [2, 0])
def m20_13 : List (List Int) × List Int := ([[1, 0, 0, 1, 0, 0], [0, 0, 0, 1, 0, 0], [0, 1, 0, 0, 1, 0], [0, 0, 0, 0, 1, 0], [0, 0, 1, 0, 0, 1], [0, 0, 0, 0, 0, 1]], [0, 0, 0, 0, 0, 1])
def m20_14 : List (List Int) × List Int := ([[1, 1, 3], [0, 1, 3], [0, 4, 3]], [3, 0, 3])
def m20_15 : List (List Int) × List Int := ([[1]], [1])
theorem c20_0_0 : ((List.range' 0 2).all fun a => ck20 (row16 0) m20_0 (a : Int)) = true := by decide +kernel
theorem k20_0 : cst20 (row16 0) = true := by decide +kernel
theorem c20_1_0 : ((List.range' 0 4).all fun a => ck20 (row16 1) m20_1 (a : Int)) = true := by decide +kernel
theorem k20_1 : cst20 (row16 1) = true := by decide +kernel
theorem c20_2_0 : ((List.range' 0 8).all fun a => ck20 (row16 2) m20_2 (a : Int)) = true := by decide +kernel
theorem k20_2 : cst20 (row16 2) = true := by decide +kernel
theorem c20_3_0 : ((List.range' 0 9).all fun a => ck20 (row16 3) m20_3 (a : Int)) = true := by decide +kernel
theorem k20_3 : cst20 (row16 3) = true := by decide +kernel
theorem c20_4_0 : ((List.range' 0 16).all fun a => ck20 (row16 4) m20_4 (a : Int)) = true := by decide +kernel
theorem k20_4 : cst20 (row16 4) = true := by decide +kernel
theorem c20_5_0 : ((List.range' 0 25).all fun a => ck20 (row16 5) m20_5 (a : Int)) = true := by decide +kernel
theorem k20_5 : cst20 (row16 5) = true := by decide +kernel
theorem c20_6_0 : ((List.range' 0 27).all fun a => ck20 (row16 6) m20_6 (a : Int)) = true := by decide +kernel
theorem k20_6 : cst20 (row16 6) = true := by decide +kernel
theorem c20_7_0 : ((List.range' 0 7).all fun a => ck20 (row16 7) m20_7 (a : Int)) = true := by decide +kernel
theorem k20_7 : cst20 (row16 7) = true := by decide +kernel
theorem c20_8_0 : ((List.range' 0 30).all fun a => ck20 (row16 8) m20_8 (a : Int)) = true := by decide +kernel
theorem c20_8_1 : ((List.range' 30 2).all fun a => ck20 (row16 8) m20_8 (a : Int)) = true := by decide +kernel
theorem k20_8 : cst20 (row16 8) = true := by decide +kernel
theorem c20_9_0 : ((List.range' 0 30).all fun a => ck20 (row16 9) m20_9 (a : Int)) = true := by decide +kernel
theorem c20_9_1 : ((List.range' 30 19).all fun a => ck20 (row16 9) m20_9 (a : Int)) = true := by decide +kernel
theorem k20_9 : cst20 (row16 9) = true := by decide +kernel
theorem c20_10_0 : ((List.range' 0 11).all fun a => ck20 (row16 10) m20_10 (a : Int)) = true := by decide +kernel
theorem k20_10 : cst20 (row16 10) = true := by decide +kernel
theorem c20_11_0 : ((List.range' 0 30).all fun a => ck20 (row16 11) m20_11 (a : Int)) = true := by decide +kernel
theorem c20_11_1 : ((List.range' 30 30).all fun a => ck20 (row16 11) m20_11 (a : Int)) = true := by decide +kernel
theorem c20_11_2 : ((List.range' 60 21).all fun a => ck20 (row16 11) m20_11 (a : Int)) = true := by decide +kernel
theorem k20_11 : cst20 (row16 11) = true := by decide +kernel
theorem c20_12_0 : ((List.range' 0 30).all fun a => ck20 (row16 12) m20_12 (a : Int)) = true := by decide +kernel
theorem c20_12_1 : ((List.range' 30 30).all fun a => ck20 (row16 12) m20_12 (a : Int)) = true := by decide +kernel
theorem c20_12_2 : ((List.range' 60 30).all fun a => ck20 (row16 12) m20_12 (a : Int)) = true := by decide +kernel
theorem c20_12_3 : ((List.range' 90 30).all fun a => ck20 (row16 12) m20_12 (a : Int)) = true := by decide +kernel
theorem c20_12_4 : ((List.range' 120 30).all fun a => ck20 (row16 12) m20_12 (a : Int)) = true := by decide +kernel
theorem c20_12_5 : ((List.range' 150 19).all fun a => ck20 (row16 12) m20_12 (a : Int)) = true := by decide +kernel
theorem k20_12 : cst20 (row16 12) = true := by decide +kernel
theorem c20_13_0 : ((List.range' 0 30).all fun a => ck20 (row16 13) m20_13 (a : Int)) = true := by decide +kernel
theorem c20_13_1 : ((List.range' 30 30).all fun a => ck20 (row16 13) m20_13 (a : Int)) = true := by decide +kernel
theorem c20_13_2 : ((List.range' 60 4).all fun a => ck20 (row16 13) m20_13 (a : Int)) = true := by decide +kernel
theorem k20_13 : cst20 (row16 13) = true := by decide +kernel
theorem c20_14_0 : ((List.range' 0 30).all fun a => ck20 (row16 14) m20_14 (a : Int)) = true := by decide +kernel
theorem c20_14_1 : ((List.range' 30 30).all fun a => ck20 (row16 14) m20_14 (a : Int)) = true := by decide +kernel
theorem c20_14_2 : ((List.range' 60 30).all fun a => ck20 (row16 14) m20_14 (a : Int)) = true := by decide +kernel
theorem c20_14_3 : ((List.range' 90 30).all fun a => ck20 (row16 14) m20_14 (a : Int)) = true := by decide +kernel
theorem c20_14_4 : ((List.range' 120 5).all fun a => ck20 (row16 14) m20_14 (a : Int)) = true := by decide +kernel
theorem k20_14 : cst20 (row16 14) = true := by decide +kernel
theorem c20_15_0 : ((List.range' 0 30).all fun a => ck20 (row16 15) m20_15 (a : Int)) = true := by decide +kernel
theorem c20_15_1 : ((List.range' 30 30).all fun a => ck20 (row16 15) m20_15 (a : Int)) = true := by decide +kernel
theorem c20_15_2 : ((List.range' 60 30).all fun a => ck20 (row16 15) m20_15 (a : Int)) = true := by decide +kernel
theorem c20_15_3 : ((List.range' 90 7).all fun a => ck20 (row16 15) m20_15 (a : Int)) = true := by decide +kernel
theorem k20_15 : cst20 (row16 15) = true := by decide +kernel
theorem r20_0 (a : Nat) (h : a < 2) : ck20 (row16 0) m20_0 (a : Int) = true := by
  exact all_at c20_0_0 (by omega) (by omega)
theorem r20_1 (a : Nat) (h : a < 4) : ck20 (row16 1) m20_1 (a : Int) = true := by
  exact all_at c20_1_0 (by omega) (by omega)
theorem r20_2 (a : Nat) (h : a < 8) : ck20 (row16 2) m20_2 (a : Int) = true := by
  exact all_at c20_2_0 (by omega) (by omega)
theorem r20_3 (a : Nat) (h : a < 9) : ck20 (row16 3) m20_3 (a : Int) = true := by
  exact all_at c20_3_0 (by omega) (by omega)
theorem r20_4 (a : Nat) (h : a < 16) : ck20 (row16 4) m20_4 (a : Int) = true := by
  exact all_at c20_4_0 (by omega) (by omega)
theorem r20_5 (a : Nat) (h : a < 25) : ck20 (row16 5) m20_5 (a : Int) = true := by
  exact all_at c20_5_0 (by omega) (by omega)
theorem r20_6 (a : Nat) (h : a < 27) : ck20 (row16 6) m20_6 (a : Int) = true := by
  exact all_at c20_6_0 (by omega) (by omega)
theorem r20_7 (a : Nat) (h : a < 7) : ck20 (row16 7) m20_7 (a : Int) = true := by
  exact all_at c20_7_0 (by omega) (by omega)
theorem r20_8 (a : Nat) (h : a < 32) : ck20 (row16 8) m20_8 (a : Int) = true := by
  rcases Nat.lt_or_ge a 30 with h0 | h0
  · exact all_at c20_8_0 (by omega) (by omega)
  exact all_at c20_8_1 (by omega) (by omega)
theorem r20_9 (a : Nat) (h : a < 49) : ck20 (row16 9) m20_9 (a : Int) = true := by
  rcases Nat.lt_or_ge a 30 with h0 | h0
  · exact all_at c20_9_0 (by omega) (by omega)
  exact all_at c20_9_1 (by omega) (by omega)
theorem r20_10 (a : Nat) (h : a < 11) : ck20 (row16 10) m20_10 (a : Int) = true := by
  exact all_at c20_10_0 (by omega) (by omega)
theorem r20_11 (a : Nat) (h : a < 81) : ck20 (row16 11) m20_11 (a : Int) = true := by
  rcases Nat.lt_or_ge a 30 with h0 | h0
  · exact all_at c20_11_0 (by omega) (by omega)
  rcases Nat.lt_or_ge a 60 with h1 | h1
  · exact all_at c20_11_1 (by omega) (by omega)
  exact all_at c20_11_2 (by omega) (by omega)
theorem r20_12 (a : Nat) (h : a < 169) : ck20 (row16 12) m20_12 (a : Int) = true := by
  rcases Nat.lt_or_ge a 30 with h0 | h0
  · exact all_at c20_12_0 (by omega) (by omega)
  rcases Nat.lt_or_ge a 60 with h1 | h1
  · exact all_at c20_12_1 (by omega) (by omega)
  rcases Nat.lt_or_ge a 90 with h2 | h2
  · exact all_at c20_12_2 (by omega) (by omega)
  rcases Nat.lt_or_ge a 120 with h3 | h3
  · exact all_at c20_12_3 (by omega) (by omega)
  rcases Nat.lt_or_ge a 150 with h4 | h4
  · exact all_at c20_12_4 (by omega) (by omega)
  exact all_at c20_12_5 (by omega) (by omega)
theorem r20_13 (a : Nat) (h : a < 64) : ck20 (row16 13) m20_13 (a : Int) = true := by
  rcases Nat.lt_or_ge a 30 with h0 | h0
  · exact all_at c20_13_0 (by omega) (by omega)
  rcases Nat.lt_or_ge a 60 with h1 | h1
  · exact all_at c20_13_1 (by omega) (by omega)
  exact all_at c20_13_2 (by omega) (by omega)
theorem r20_14 (a : Nat) (h : a < 125) : ck20 (row16 14) m20_14 (a : Int) = true := by
  rcases Nat.lt_or_ge a 30 with h0 | h0
  · exact all_at c20_14_0 (by omega) (by omega)
  rcases Nat.lt_or_ge a 60 with h1 | h1
  · exact all_at c20_14_1 (by omega) (by omega)
  rcases Nat.lt_or_ge a 90 with h2 | h2
  · exact all_at c20_14_2 (by omega) (by omega)
  rcases Nat.lt_or_ge a 120 with h3 | h3
  · exact all_at c20_14_3 (by omega) (by omega)
  exact all_at c20_14_4 (by omega) (by omega)
theorem r20_15 (a : Nat) (h : a < 97) : ck20 (row16 15) m20_15 (a : Int) = true := by
  rcases Nat.lt_or_ge a 30 with h0 | h0
  · exact all_at c20_15_0 (by omega) (by omega)
  rcases Nat.lt_or_ge a 60 with h1 | h1
  · exact all_at c20_15_1 (by omega) (by omega)
  rcases Nat.lt_or_ge a 90 with h2 | h2
  · exact all_at c20_15_2 (by omega) (by omega)
  exact all_at c20_15_3 (by omega) (by omega)
theorem rows_20 (r : FR) (h : r ∈ rows16) : cst20 r = true ∧ ∃ m, ∀ (a : Nat), a < r.E.length + 1 → ck20 r m (a : Int) = true := by
  obtain ⟨i, hi, rfl⟩ := List.getElem_of_mem h
  have hi2 : i < 16 := hi
  match i, hi2 with
  | 0, _ => exact ⟨k20_0, m20_0, fun a ha => r20_0 a ha⟩
  | 1, _ => exact ⟨k20_1, m20_1, fun a ha => r20_1 a ha⟩
  | 2, _ => exact ⟨k20_2, m20_2, fun a ha => r20_2 a ha⟩
  | 3, _ => exact ⟨k20_3, m20_3, fun a ha => r20_3 a ha⟩
  | 4, _ => exact ⟨k20_4, m20_4, fun a ha => r20_4 a ha⟩
  | 5, _ => exact ⟨k20_5, m20_5, fun a ha => r20_5 a ha⟩
  | 6, _ => exact ⟨k20_6, m20_6, fun a ha => r20_6 a ha⟩
  | 7, _ => exact ⟨k20_7, m20_7, fun a ha => r20_7 a ha⟩
  | 8, _ => exact ⟨k20_8, m20_8, fun a ha => r20_8 a ha⟩
  | 9, _ => exact ⟨k20_9, m20_9, fun a ha => r20_9 a ha⟩
  | 10, _ => exact ⟨k20_10, m20_10, fun a ha => r20_10 a ha⟩
  | 11, _ => exact ⟨k20_11, m20_11, fun a ha => r20_11 a ha⟩
  | 12, _ => exact ⟨k20_12, m20_12, fun a ha => r20_12 a ha⟩
  | 13, _ => exact ⟨k20_13, m20_13, fun a ha => r20_13 a ha⟩
  | 14, _ => exact ⟨k20_14, m20_14, fun a ha => r20_14 a ha⟩
  | 15, _ => exact ⟨k20_15, m20_15, fun a ha => r20_15 a ha⟩
  | n + 16, h => exact absurd h (by omega)
theorem dot_zip (p : Int) : ∀ (c A B : List Int), A.length = B.length → dot c (List.zipWith (fun x y => (x + 1 * y) % p) A B) % p = (dot c A % p + dot c B % p) % p
  | [], _, _, _ => by show (0 : Int) % p = (0 % p + 0 % p) % p; rw [Int.zero_emod, Int.add_zero, Int.zero_emod]
  | _ :: _, [], [], _ => by show (0 : Int) % p = (0 % p + 0 % p) % p; rw [Int.zero_emod, Int.add_zero, Int.zero_emod]
  | _ :: _, [], _ :: _, h => by cases h
  | _ :: _, _ :: _, [], h => by cases h
  | z :: c, x :: A, y :: B, h => by
    have ih := dot_zip p c A B (by simpa using h)
    show (z * ((x + 1 * y) % p) + dot c (List.zipWith _ A B)) % p = ((z * x + dot c A) % p + (z * y + dot c B) % p) % p
    have e1 : z * ((x + 1 * y) % p) % p = z * (x + 1 * y) % p := by rw [Int.mul_emod, Int.emod_emod, ← Int.mul_emod]
    rw [Int.add_emod, e1, ih, ← Int.add_emod (dot c A) (dot c B) p, ← Int.add_emod, ← Int.add_emod, Int.one_mul, Int.mul_add]
    congr 1
    omega
theorem zip_maps {α : Type} (g : Int → Int → Int) (f h : α → Int) : ∀ cs : List α, List.zipWith g (cs.map f) (cs.map h) = cs.map fun c => g (f c) (h c)
  | [] => rfl
  | c :: cs => by rw [List.map_cons, List.map_cons, List.zipWith_cons_cons, zip_maps g f h cs]; rfl
theorem ep_Pm {p : Int} {lo : List Int} (L : Low p lo) (a b : Int) : ∀ n, ep p lo (Pm p lo a b) n = Pm p lo (ep p lo a n) (ep p lo b n)
  | 0 => (Pm_one L (one_in L)).symm
  | n + 1 => by
    show Pm p lo (ep p lo (Pm p lo a b) n) (Pm p lo a b) = Pm p lo (Pm p lo (ep p lo a n) a) (Pm p lo (ep p lo b n) b)
    rw [ep_Pm L a b n, Pm_assoc L, Pm_assoc L, ← Pm_assoc L (ep p lo b n), Pm_comm L (ep p lo b n) a, Pm_assoc L a]
theorem itp_Pm {p : Int} {lo : List Int} (L : Low p lo) (e : Nat) (a b : Int) : ∀ n, itp (fun x => ep p lo x e) n (Pm p lo a b) = Pm p lo (itp (fun x => ep p lo x e) n a) (itp (fun x => ep p lo x e) n b)
  | 0 => rfl
  | n + 1 => by
    show ep p lo (itp _ n (Pm p lo a b)) e = Pm p lo (ep p lo (itp _ n a) e) (ep p lo (itp _ n b) e)
    rw [itp_Pm L e a b n, ep_Pm L]
theorem lmny_Pm {p : Int} {lo : List Int} (L : Low p lo) (e : Nat) (a b : Int) : ∀ n, lmny (Pm p lo) (fun x => ep p lo x e) (Pm p lo a b) n = Pm p lo (lmny (Pm p lo) (fun x => ep p lo x e) a n) (lmny (Pm p lo) (fun x => ep p lo x e) b n)
  | 0 => rfl
  | n + 1 => by
    show Pm p lo (lmny _ _ (Pm p lo a b) n) (itp _ (n + 1) (Pm p lo a b)) = Pm p lo (Pm p lo (lmny _ _ a n) (itp _ (n + 1) a)) (Pm p lo (lmny _ _ b n) (itp _ (n + 1) b))
    rw [lmny_Pm L e a b n, itp_Pm L e a b (n + 1)]
    generalize lmny (Pm p lo) (fun x => ep p lo x e) a n = A
    generalize lmny (Pm p lo) (fun x => ep p lo x e) b n = B
    generalize itp (fun x => ep p lo x e) (n + 1) a = C
    generalize itp (fun x => ep p lo x e) (n + 1) b = D
    rw [Pm_assoc L, Pm_assoc L, ← Pm_assoc L B, Pm_comm L B C, Pm_assoc L C]
structure Ck20 (r : FR) : Prop where
  pwA : ∀ a b, InF r.p r.lo a → InF r.p r.lo b → r.tp (wm r.p 1 r.k a b) r.p = wm r.p 1 r.k (r.tp a r.p) (r.tp b r.p)
  trA : ∀ a b, InF r.p r.lo a → InF r.p r.lo b → r.TT (wm r.p 1 r.k a b) = (r.TT a + r.TT b) % r.p
  noM : ∀ a b, InF r.p r.lo a → InF r.p r.lo b → r.NN (Pm r.p r.lo a b) = (r.NN a * r.NN b) % r.p
  cT : ∀ a, InF r.p r.lo a → r.TT (r.tp a r.p) = r.TT a
  cN : ∀ a, InF r.p r.lo a → r.NN (r.tp a r.p) = r.NN a
  cP : ∀ a, InF r.p r.lo a → r.PP (r.tp a r.p) = r.PP a
  la : ∀ a, InF r.p r.lo a → (lrow (fun x => r.tp x r.p) a (r.k - 1)).length = r.k → ((r.PP a).getD 0 0 - (if r.k % 2 = 1 then -1 else 1) * r.NN a) % r.p = 0
theorem ck20_ok {r : FR} (h : r ∈ rows16) : Ck20 r := by
  have F := rows_ok r h
  have L := F.low
  have hp := L.p2
  obtain ⟨hc, m, hm⟩ := rows_20 r h
  have hl := F.tb.len
  have hlk := r.lol
  have key : ∀ a, InF r.p r.lo a → ck20 r m a = true := fun a ha => by
    have := hm a.toNat (by have := ha.1; have := ha.2; omega)
    rw [show ((a.toNat : Nat) : Int) = a by have := ha.1; omega] at this; exact this
  unfold ck20 at key
  simp only [Bool.and_eq_true, Bool.or_eq_true, decide_eq_true_eq] at key
  have tin : ∀ a, InF r.p r.lo a → InF r.p r.lo (r.tp a r.p) := fun a ha => by rw [F.tp_ok ha]; exact ep_in L _ _
  have win : ∀ a b, InF r.p r.lo a → InF r.p r.lo b → InF r.p r.lo (wm r.p 1 r.k a b) := fun a b ha hb => by
    have := wm_lt (f := 1) hp r.k a b ha.1 hb.1
    unfold InF; rw [hlk]; exact this
  have fw : ∀ a b, InF r.p r.lo a → InF r.p r.lo b → figs r.p r.k (wm r.p 1 r.k a b) = List.zipWith (fun x y => (x + 1 * y) % (r.p : Int)) (figs r.p r.k a) (figs r.p r.k b) := fun a b ha hb => figs_wm hp r.k a b ha.1 hb.1
  have dz : ∀ (c : List Int) a b, InF r.p r.lo a → InF r.p r.lo b → dot c (figs r.p r.k (wm r.p 1 r.k a b)) % r.p = (dot c (figs r.p r.k a) % r.p + dot c (figs r.p r.k b) % r.p) % r.p := fun c a b ha hb => by
    rw [fw a b ha hb]; exact dot_zip _ _ _ _ (by rw [figs_len, figs_len])
  refine ⟨fun a b ha hb => ?_, fun a b ha hb => ?_, fun a b ha hb => ?_, fun a ha => (key a ha).1.2.1.1, fun a ha => (key a ha).1.2.1.2, fun a ha => (key a ha).1.2.2, fun a ha h1 => ?_⟩
  · have h1 := win a b ha hb
    have h2 := win _ _ (tin a ha) (tin b hb)
    have h3 := tin _ h1
    have e1 := num_figs hp r.k _ h3.1 (by have := h3.2; rw [hlk] at this; exact this)
    have e2 := num_figs hp r.k _ h2.1 (by have := h2.2; rw [hlk] at this; exact this)
    rw [← e1, ← e2, fw _ _ (tin a ha) (tin b hb), (key _ h1).1.1.1, (key _ ha).1.1.1, (key _ hb).1.1.1, zip_maps]
    congr 1
    refine List.map_congr_left fun c _ => ?_
    rw [dz c a b ha hb, Int.one_mul]
  · rw [(key _ (win a b ha hb)).1.1.2, (key _ ha).1.1.2, (key _ hb).1.1.2, dz _ a b ha hb]
  · have hn : ∀ x, InF r.p r.lo x → r.NN x = lmny (Pm r.p r.lo) (fun x => ep r.p r.lo x r.p) x (r.k - 1) ∧ InF r.p r.lo (r.NN x) := fun x hx => by
      have h1 := lmny_tab F (f := fun x => ep r.p r.lo x r.p) (m := Pm r.p r.lo) (fun _ _ => rfl) (fun _ _ => rfl) hx (r.k - 1)
      unfold FR.NN
      exact ⟨h1.1.symm, by rw [← h1.1]; exact h1.2⟩
    have ha2 := hn a ha
    have hb2 := hn b hb
    have e1 := (hn _ (Pm_in L a b)).1
    rw [lmny_Pm L, ← ha2.1, ← hb2.1] at e1
    rw [e1]
    have hA : r.NN a < r.p := (ck15_ok h ha).no
    have hB : r.NN b < r.p := (ck15_ok h hb).no
    rw [← F.tm_ok ha2.2 hb2.2]
    have hA0 := ha2.2.1
    have hB0 := hb2.2.1
    unfold cst20 at hc
    simp only [List.all_eq_true, List.mem_range, decide_eq_true_eq] at hc
    have := hc (r.NN a).toNat (by omega) (r.NN b).toNat (by omega)
    rw [show (((r.NN a).toNat : Nat) : Int) = r.NN a by omega, show (((r.NN b).toNat : Nat) : Int) = r.NN b by omega] at this
    exact this
  · rcases (key a ha).2 with e | e
    · exact absurd h1 e
    · exact e
theorem orb_keep {f : Int → Int} {S : Int → Prop} {α : Type} {g : Int → α} (hS : ∀ x, S x → S (f x)) (hg : ∀ x, S x → g (f x) = g x) {a : Int} (ha : S a) : ∀ n, S (itp f n a) ∧ g (itp f n a) = g a
  | 0 => ⟨ha, rfl⟩
  | n + 1 => by
    have ih := orb_keep hS hg ha n
    exact ⟨hS _ ih.1, (hg _ ih.1).trans ih.2⟩
end Mi
namespace My
open PySem PySem.Spec PyProof.Rows L2 Evl
/-! ### defs of the text, their promises -/
structure Df (K : PySem.W.Frag) (mg : Str → Option Value) (x : Str) (st : Stmt) (ps : List Str) : Prop where
  ex : ∃ f fd, Fun K x x st f fd ∧ mg x = some (.ref f) ∧ Binds K fd ps []
structure Cd (P : Program) (w : World) (K : PySem.W.Frag) (mg : Str → Option Value) (base : Heap) (k : Nat) (x : Str) (sp : Sp) : Prop where
  ex : ∃ (f : Addr) (fd : FuncData) (ps : List Str), FnOk P w K mg base L2.CX0 k f fd ps sp ∧ mg x = some (.ref f) ∧ PySem.W.keepIn K (.ref f) = true ∧ Binds K fd ps []
section
variable {P : Program} {w : World} {K : PySem.W.Frag} {mg : Str → Option Value} {base : Heap}
theorem Df.ok {x : Str} {st : Stmt} {N ps : List Str} {k : Nat} {sp : Sp} (D : Df K mg x st ps) (S : FnScope N ps (defScope st)) (len : ∀ vs H Q E, sp vs H Q E → vs.length = ps.length)
    (hbody : ∀ (f : Addr) (cdv : Value) (A : Around) (outer : List Env) (s : Shared) (H : Hp) (vs : List V) (Q : VK) (E : XK), Room k (A.deeper (envOfC x (defScope st) s.heap.objs.size f cdv)) → sp vs H Q E →
      ∃ t, PSs (cxOf L2.CX0 P w K mg base N x (defScope st) f cdv A outer s H E).nox (defBody st) t ∧ t { nx := fun _ H' => Q .non H', rt := Q } (start N vs) H) : Cd P w K mg base (k + 1) x sp := by
  obtain ⟨f, fd, F, m, b⟩ := D.ex
  exact ⟨f, fd, ps, F.ok S len (hbody f), m, F.kp, b⟩
theorem Cd.imp {x : Str} {k : Nat} {sp sp' : Sp} (c : Cd P w K mg base k x sp) (h : ∀ vs H Q E, sp' vs H Q E → sp vs H Q E) : Cd P w K mg base k x sp' := by
  obtain ⟨f, fd, ps, F, m, kp, b⟩ := c.ex
  exact ⟨f, fd, ps, F.imp h, m, kp, b⟩
end
section
variable {X : Cx} {p pos : Pos} {e : Expr} {es : List Expr} {x : Str} {k j : Nat} {sp : Sp} {t : TA}
theorem pe_cd (c : Cd X.prog X.w X.K X.mg X.base k x sp) (hr : Room j X.A) (hk : k ≤ j) (hg : Gl X x) (ha : PA X (e :: es) t)
    (hdb : (x == ("__debug__" : Str)) = false := by decide) (he : starEach (e :: es) X.env = (false, eval e X.env) :: starEach es X.env := by rfl) (hpl : (backTo pos (starEach es X.env)).any (·.1) = false := by rfl) :
    PE X (.Call (.Name x p) (e :: es) [] pos) (tCall sp [] L2.E0 t) := by
  obtain ⟨f, fd, ps, F, hm, kp, b⟩ := c.ex
  exact pe_call F (hr.mono hk) hg hm kp b .nil pass0 ha hdb he hpl
end
end My
namespace F9
open PySem
set_option maxHeartbeats 1000000 in
theorem meets_enumerate_newT (l : Addr) (items : Array Value) (n : Nat) (dct : Option Addr) (sl : Array (Option Value)) :
    Meets (Builtin.«enumerate.__new__» ⟨[.type "enumerate", .ref l], []⟩) (fun _ R s => s.heap.get? l = some { cls := .type "tuple", dict := dct, data := .seq items n, slots := sl } ∧
      R (.ok (.ret (.ref (s.heap.push { cls := .type "tuple_iterator", data := .fields #[.ref l, .int 0 0] }).objs.size)))
        { s with heap := (s.heap.push { cls := .type "tuple_iterator", data := .fields #[.ref l, .int 0 0] }).push { cls := .type "enumerate", data := .fields #[.none, .bool false, .ref s.heap.objs.size, rawInt 0, .none, .none] } }) :=
  .of_wp fun prog w A R s h => by
    obtain ⟨hp, g, d, tk, os⟩ := s; obtain ⟨hl, h⟩ := h
    have hsub := sub_enumerate
    have hL : Heap.IsTuple (Shared.heap ⟨hp, g, d, tk, os⟩) l items := ⟨_, hl, rfl, n, rfl⟩
    wp_walk using wpAny_pyIter_tuple hL
    refine wpAny_stack_any fun st => wpAny_pure ?_
    split
    · rename_i c _ _ _ _ _
      cases (c == Value.type "enumerate")
      · wp_walk using wpAny_pyIter_tuple hL
        exact ⟨_, rfl, h⟩
      · wp_walk using wpAny_pyIter_tuple hL
        exact ⟨_, rfl, h⟩
    · wp_walk using wpAny_pyIter_tuple hL
      exact ⟨_, rfl, h⟩
section
variable {prog : Program} {w : World} {A : Around} {E : Value → Shared → Prop} {s : Shared}
theorem call_enumerate_tuple {l : Addr} {items : Array Value} {Q : Value → Shared → Prop} (hL : s.heap.IsTuple l items)
    (h : ∀ h', IsEnum h' (s.heap.objs.size + 1) s.heap.objs.size 0 .none → h'.IsTupleIter s.heap.objs.size l 0 → h'.objs.size = s.heap.objs.size + 2 →
      (∀ b o, s.heap.get? b = some o → h'.get? b = some o) → Q (.ref (s.heap.objs.size + 1)) { s with heap := h' }) :
    wpAny (model prog w) A (call (.type "enumerate") [.ref l]) Q E s := by
  obtain ⟨⟨c, dct, dt, sl⟩, hl, hc, n, hd⟩ := hL
  replace hc : c = .type "tuple" := hc
  replace hd : dt = .seq items n := hd
  subst hc hd
  refine callType_new F.called_enumerate (by decide) (F.typeCall_enumerate_1 _) (F.newCall_enumerate_1 _) (fun obj => F.args_object_init_2 obj _) F.entry_enumerate_new
    (meets_enumerate_newT l items n dct sl) ⟨hl, ?_⟩
  have hz : (s.heap.push { cls := .type "tuple_iterator", data := .fields #[.ref l, .int 0 0] }).objs.size = s.heap.objs.size + 1 := Heap.size_push ..
  show _ ∧ _
  rw [hz]
  have he : IsEnum ((s.heap.push { cls := .type "tuple_iterator", data := .fields #[.ref l, .int 0 0] }).push
      { cls := .type "enumerate", data := .fields #[.none, .bool false, .ref s.heap.objs.size, rawInt 0, .none, .none] }) (s.heap.objs.size + 1) s.heap.objs.size 0 .none := by
    have := Heap.get?_push_size (s.heap.push { cls := .type "tuple_iterator", data := .fields #[.ref l, .int 0 0] })
      (o := { cls := .type "enumerate", data := .fields #[.none, .bool false, .ref s.heap.objs.size, rawInt 0, .none, .none] }) rfl
    rw [hz] at this; exact this
  refine ⟨⟨_, he, rfl⟩, h _ he ⟨_, Heap.get?_push_of_some _ (Heap.get?_push_size _ rfl), rfl, rfl⟩ (by rw [Heap.size_push, hz]) fun b o x => Heap.get?_push_of_some _ (Heap.get?_push_of_some _ x)⟩
end
end F9
namespace My
open PySem PySem.Spec PyProof.Rows L2 Evl
def IteT (K : PySem.W.Frag) (a : Addr) : It :=
  ⟨fun i H => ∃ (xs : List V) (x : V), SqT K H a xs ∧ xs[i]? = some x, fun i H v H' => ∃ T x, v = .ref T ∧ H T = none ∧ H' = upd H T (.tup [.int (i : Nat), x]) ∧ ∀ xs, SqT K H a xs → xs[i]? = some x, fun i H => ∃ xs : List V, SqT K H a xs ∧ xs.length = i⟩
theorem turn_enumT {P : Program} {w : World} {K : PySem.W.Frag} {elts : List Expr} {kk : Nat} {tpos : Pos} (a e it : Addr) (hai : a ≠ it) :
    Turn P w K (.Tuple elts kk tpos) (IteT K a) [e, it] e (fun i h => (∃ old, IsEnum h e it ((i : Nat) : Int) old) ∧ h.IsTupleIter it a i ∧ e ≠ it ∧ e ≠ a) where
  mem := by simp
  obj := fun i h st b hb => by
    obtain ⟨⟨old, he⟩, ⟨o, ho, hc, hd⟩, _⟩ := st
    have e' : b = e ∨ b = it := by simpa using hb
    rcases e' with z | z
    · rw [z]; exact ⟨_, he, fun v q => nomatch q⟩
    · rw [z]; exact ⟨o, ho, fun v q => by rw [hd] at q; cases q⟩
  keep := fun i h h' st k => let ⟨⟨old, he⟩, hi, hne⟩ := st; ⟨⟨old, k e (by simp) _ he⟩, hi.at fun o q => k it (by simp) o q, hne⟩
  item := by
    intro X hP hw hK hc i pins s σ H E I hf st hg
    subst hP hw hK
    obtain ⟨⟨old, he⟩, hit, hne, hea⟩ := st
    obtain ⟨xs, x, hq, hx⟩ := hg
    obtain ⟨its, rv, p, hz⟩ := I.tuple hq
    obtain ⟨u, hu, ru⟩ := rv.get hx
    have hel : e < s.heap.objs.size := Heap.lt_size he
    have hil : it < s.heap.objs.size := by obtain ⟨_, q, _⟩ := hit; exact Heap.lt_size q
    have hil2 : i < its.toArray.size := by
      have := (List.getElem?_eq_some_iff.mp hu).1
      simpa using this
    refine wpAny_pyNext_enum_itemD (Draws.tuple (by exact I.ok.hd hc) it a hai its.toArray) he ⟨hit, p⟩ hil2 hne (by simp [hne, hea]) fun x' h' tk hx' ho hst' hT hsz hk => ?_
    obtain rfl : x' = u := by
      have e1 : its.toArray[i]? = some u := by simpa using hu
      exact Option.some.inj (hx'.symm.trans e1)
    refine ⟨_, rfl, wpAny_letOwnedTupleGo_enum (s := { s with heap := h', toks := tk + 1 }) ho fun h'' he' sb => ?_⟩
    have hT2 : h''.get? s.heap.objs.size = some { cls := .type "tuple", data := .seq #[.int i tk, x'] } := (sb.2 _ (Nat.ne_of_gt hel)).trans hT
    have new : ObjOk X.prog X.w (upd H s.heap.objs.size (.tup [.int (i : Nat), x])) h'' s.heap.objs.size (.tup [.int (i : Nat), x]) :=
      ⟨by show 2 ≤ sizeLine; decide, [.int i tk, x'], .cons ⟨_, rfl⟩ (.cons ru .nil), ⟨_, hT2, rfl, _, rfl⟩⟩
    have I1 : Inv X pins σ (upd H s.heap.objs.size (.tup [.int (i : Nat), x])) { s with heap := h'', toks := tk + 1 } :=
      I.turnedNew (ch := [e, it]) (fun b ob hb q => (sb.2 b (fun z => hb (by simp [z]))).trans (hk b ob (fun z => hb (by simp [z])) (fun z => hb (by simp [z])) q)) hf (Nat.le_refl _) new
    refine ⟨.ref s.heap.objs.size, _, I1, rfl, ⟨_, x, rfl, I.hok.fresh (Nat.le_refl _), rfl, fun ys hy => by rw [I.tuple_inj hy hq]; exact hx⟩, ⟨⟨x', ?_⟩, hst'.1.at fun o q => (sb.2 it (Ne.symm hne)).trans q, hne, hea⟩, fun b hb => ?_⟩
    · have e1 : ((i + 1 : Nat) : Int) = (i : Int) + 1 := by omega
      rw [e1]; exact he'
    · have hb' : b < s.heap.objs.size := by
        have e' : b = e ∨ b = it := by simpa using hb
        rcases e' with z | z
        · rw [z]; exact hel
        · rw [z]; exact hil
      rw [upd_ne (Nat.ne_of_lt hb')]
      exact (hf b hb).1
  done := by
    intro X hP hw hK hc i pins s σ H E I hf st hg
    subst hP hw hK
    obtain ⟨⟨old, he⟩, hit, hne, hea⟩ := st
    obtain ⟨xs, hq, hx⟩ := hg
    obtain ⟨its, rv, p, hz⟩ := I.tuple hq
    obtain ⟨f0, f1, f2, f3, f4, f5⟩ := hf it (by simp)
    have hl := rv.length
    have hs : its.toArray.size = i := by simp; omega
    have hit2 : s.heap.IsTupleIter it a its.toArray.size := by rw [hs]; exact hit
    exact wpAny_pyNext_enum_endD (Draws.tuple (by exact I.ok.hd hc) it a hai its.toArray) he ⟨hit2, p⟩ fun h' eb => ⟨rfl, I.turned (t' := s.toks) (fun b o hb q => eb b o hb q) f0 f1 f3 f4 f5⟩
  self := fun A i s Q E st h => let ⟨⟨_, he⟩, _⟩ := st; wpAny_pyIter_enum he h
def iEnumT (K : PySem.W.Frag) (ta : TA) : TI := fun σ H R => ta σ H fun vs H1 => ∃ a xs, vs = [.ref a] ∧ SqT K H1 a xs ∧ R (IteT K a) H1
theorem pi_enumT {X : Cx} {e : Expr} {ta : TA} {p pos tpos : Pos} {elts : List Expr} {kk : Nat} (hg : Gl X "enumerate") (hm : X.mg "enumerate" = none) (ha : PA X [e] ta) (hs : starEach [e] X.env = [(false, eval e X.env)] := by rfl) :
    PI X (.Tuple elts kk tpos) (.Call (.Name "enumerate" p) [e] [] pos) (iEnumT X.K ta) := by
  refine ⟨fun pins s σ H R I h => ?_⟩
  refine Call_ (ld_blt I hg hm boot_enumerate (PyProof.Rows.callWith_type1 (thn (ha.run pos pins s σ H _ I h) fun us s1 ⟨vs, H1, I1, r1, q1⟩ => ?_) hs rfl))
  obtain ⟨a, xs, ex, hq, q⟩ := q1
  subst ex
  cases r1 with
  | cons r rr =>
    cases rr
    cases r
    obtain ⟨its, rv, p', hz⟩ := I1.tuple hq
    have hal : a < s1.heap.objs.size := by obtain ⟨_, q, _⟩ := id p'; exact Heap.lt_size q
    refine F9.call_enumerate_tuple p' fun h' he hit hsz hk => wpAny_pyIter_enum he ?_
    have I2 : Inv X pins σ H1 { s1 with heap := h' } := I1.kept (t' := s1.toks) hk
    refine ⟨s1.heap.objs.size + 1, [s1.heap.objs.size + 1, s1.heap.objs.size], _, _, H1, rfl, I2, turn_enumT a (s1.heap.objs.size + 1) s1.heap.objs.size (Nat.ne_of_lt hal), ⟨⟨.none, he⟩, hit, Nat.succ_ne_self _, Nat.ne_of_gt (Nat.lt_succ_of_lt hal)⟩, fun b hb => ?_, q⟩
    have e' : b = s1.heap.objs.size + 1 ∨ b = s1.heap.objs.size := by simpa using hb
    have hle : s1.heap.objs.size ≤ b := by
      rcases e' with z | z
      · rw [z]; exact Nat.le_add_right _ _
      · rw [z]; exact Nat.le_refl _
    exact I1.fpOk hle (I1.hok.fresh hle)
theorem walk_enumT {K : PySem.W.Frag} {a : Addr} {xs : List V} : Walk (IteT K a) xs.length (fun H => SqT K H a xs) (YPair (fun i => some (.int (i : Nat))) (fun i => xs[i]?)) where
  goes := fun i H hi h => ⟨xs, xs[i], h, List.getElem?_eq_getElem hi⟩
  stops := fun H h => ⟨xs, h, rfl⟩
  yields := fun i H v H' hi h ⟨T, x, e1, e2, e3, f⟩ => ⟨T, _, x, e1, e2, e3, rfl, f xs h⟩
end My
namespace My
open PySem PySem.Spec PyProof.Rows L2 Evl
theorem get_list {X : Cx} : PGet X (rIxL X.K) := by
  intro pins s σ H x y v u Q I rx ry h
  obtain ⟨p, xs, i, z, rfl, rfl, hq, he, q⟩ := h
  cases rx
  obtain ⟨t, rfl⟩ := ry
  obtain ⟨its, r, pl, hz⟩ := I.list hq
  obtain ⟨j, h1, h2, h3, h4, h5⟩ := atI_get he
  obtain ⟨w, ew, rw'⟩ := r.get h2
  have hl := r.length
  have hn := line63
  have fin : EP X pins σ Q w s := ⟨z, H, I, rw', q⟩
  by_cases h0 : 0 ≤ i
  · have hj : i.toNat = j := by
      rw [seqIndex_of h0 h5] at h1
      exact Option.some.inj h1
    exact wpAny_getItem_list pl.isList h0 (by omega) (by rw [hj]; simpa using ew) fin
  · have hj : (i + (its.toArray.size : Int)).toNat = j := by
      rw [seqIndex_neg (by omega) h4] at h1
      rw [List.size_toArray, ← hl]
      exact Option.some.inj h1
    exact wpAny_getItem_list_neg pl.isList (by omega) (by rw [List.size_toArray] <;> omega) (by omega) (by rw [hj]; simpa using ew) fin
section
variable {K : PySem.W.Frag} {σ : L2.St} {H : Hp} {ta tb te tx : TE} {t u : TT} {x y z v : V} {D : Ends} {tu : TS} {tz : TS} {g : TG} {wi : TI}
/-- the iterator that a for begins with -/
def Gets (wi : TI) (σ : L2.St) (H : Hp) (J : It) : Prop := ∀ R : It → Hp → Prop, (∀ H1, Ex H H1 → R J H1) → wi σ H R
theorem s_forW {J : It} {n : Nat} {G : Hp → Prop} {Y : Nat → Hp → V → Hp → Prop} (h : Gets wi σ H J) (w : Walk J n G Y) (Pv : Nat → L2.St → Hp → Prop) (h0 : ∀ H1, Ex H H1 → Pv 0 σ H1) (hG : ∀ i σ H, i ≤ n → Pv i σ H → G H)
    (hs : ∀ i x σ' H' H2, i < n → Pv i σ' H' → Y i H' x H2 → g x σ' H2 fun σ2 H3 => tu { D with nx := Pv (i + 1), ct := Pv (i + 1), bk := D.nx } σ2 H3) (hd : ∀ σ' H', Pv n σ' H' → D.nx σ' H') : tFor wi g tu D σ H :=
  h _ fun H1 e => for_it w Pv (h0 H1 e) hG hs hd
theorem q_forW {J : It} {n : Nat} {G : Hp → Prop} {Y : Nat → Hp → V → Hp → Prop} (h : Gets wi σ H J) (w : Walk J n G Y) (Pv : Nat → L2.St → Hp → Prop) (h0 : ∀ H1, Ex H H1 → Pv 0 σ H1) (hG : ∀ i σ H, i ≤ n → Pv i σ H → G H)
    (hs : ∀ i x σ' H' H2, i < n → Pv i σ' H' → Y i H' x H2 → g x σ' H2 fun σ2 H3 => tu { D with nx := Pv (i + 1), ct := Pv (i + 1), bk := tz D } σ2 H3) (hd : ∀ σ' H', Pv n σ' H' → tz D σ' H') : tSeq (tFor wi g tu) tz D σ H :=
  s_forW (D := { D with nx := tz D }) h w Pv h0 hG hs hd
theorem gets_rev {a : Addr} {xs : List V} (h : Ev te σ H (.ref a)) (hx : SqL K H a xs) : Gets (iRev K (tCons te tNil)) σ H (Itv K a xs.length) := fun R q => h H (Ex.refl H) _ fun H1 e => ⟨a, xs, rfl, ex_l e hx, q H1 e⟩
theorem gets_enum {a : Addr} {xs : List V} (h : Ev te σ H (.ref a)) (hx : SqL K H a xs) : Gets (iEnum K (tCons te tNil)) σ H (Ite K a) := fun R q => h H (Ex.refl H) _ fun H1 e => ⟨a, xs, rfl, ex_l e hx, q H1 e⟩
theorem gets_enumT {a : Addr} {xs : List V} (h : Ev te σ H (.ref a)) (hx : SqT K H a xs) : Gets (iEnumT K (tCons te tNil)) σ H (IteT K a) := fun R q => h H (Ex.refl H) _ fun H1 e => ⟨a, xs, rfl, ex_t e hx, q H1 e⟩
theorem gets_zip {a b : Addr} {xs ys : List V} (h : Ev ta σ H (.ref a)) (h2 : Ev tb σ H (.ref b)) (hx : SqL K H a xs) (hy : SqL K H b ys) : Gets (iZip K (tCons ta (tCons tb tNil))) σ H (Itz K a b) :=
  fun R q => h H (Ex.refl H) _ fun H1 e => h2 H1 e _ fun H2 e2 => ⟨a, b, xs, ys, rfl, ex_l (e.trans e2) hx, ex_l (e.trans e2) hy, q H2 (e.trans e2)⟩
theorem gets_list {a : Addr} {xs : List V} (h : Ev te σ H (.ref a)) (hx : SqL K H a xs) : Gets (iList K te) σ H (Itl K a) := fun R q => h H (Ex.refl H) _ fun H1 e => ⟨a, rfl, ⟨xs, ex_l e hx⟩, q H1 e⟩
/-- i, x = the pair -/
theorem g_pair {T : Addr} {i j : Nat} {Q : L2.St → Hp → Prop} {H2 : Hp} (h : SqT K H2 T [x, y]) (q : Q ((σ.set i (some x)).set j (some y)) H2) : gTup K 2 (gCons (gName i) (gCons (gName j) gNil)) (.ref T) σ H2 Q :=
  ⟨T, [x, y], rfl, h, rfl, x, [y], rfl, y, [], rfl, rfl, q⟩
theorem ex_newT {T : Addr} {o : HO} (h : H T = none) : Ex H (upd H T o) := Ex.new h
/-- o[i] op= e, a list of ints -/
theorem s_augS {f : Int → Int → Int} {l : Addr} {xs : List V} {j : Nat} {a b : Int} (hl : H l = some (.lst xs)) (ho : Ev ta σ H (.ref l)) (hi : Ev tb σ H (.int (j : Int))) (hj : j < xs.length) (hx : xs[j]? = some (.int a)) (h : Ev te σ H (.int b))
    (k : ∀ H1, Ex H H1 → D.nx σ (upd H1 l (.lst (xs.set j (.int (f a b)))))) : tAugS ta tb te (rIxL K) (ipI f) rSetL D σ H :=
  ho H (Ex.refl H) _ fun H1 e1 => hi H1 e1 _ fun H2 e2 => by
    have e := e1.trans e2
    have hn : ixN xs.length (j : Int) = some j := ixN_nat hj
    refine ⟨l, xs, (j : Int), .int a, rfl, rfl, sq_of (e l _ hl), by unfold atI; rw [hn]; exact hx, ?_⟩
    refine h H2 e _ fun H3 e3 => ⟨a, b, rfl, rfl, l, xs, (j : Int), j, rfl, rfl, e3 l _ (e l _ hl), hn, k H3 (e.trans e3)⟩
theorem q_augS {f : Int → Int → Int} {l : Addr} {xs : List V} {j : Nat} {a b : Int} (hl : H l = some (.lst xs)) (ho : Ev ta σ H (.ref l)) (hi : Ev tb σ H (.int (j : Int))) (hj : j < xs.length) (hx : xs[j]? = some (.int a)) (h : Ev te σ H (.int b))
    (k : ∀ H1, Ex H H1 → tz D σ (upd H1 l (.lst (xs.set j (.int (f a b)))))) : tSeq (tAugS ta tb te (rIxL K) (ipI f) rSetL) tz D σ H := s_augS (D := { D with nx := tz D }) hl ho hi hj hx h k
/-- a, b = x, y -/
theorem s_par {i j : Nat} {vs : TA} (h : EvA vs σ H [x, y]) (k : ∀ H1, Ex H H1 → D.nx ((σ.set i (some x)).set j (some y)) H1) : tPar i j vs D σ H := h H (Ex.refl H) _ fun H1 e => ⟨x, y, rfl, k H1 e⟩
theorem q_par {i j : Nat} {vs : TA} (h : EvA vs σ H [x, y]) (k : ∀ H1, Ex H H1 → tz D ((σ.set i (some x)).set j (some y)) H1) : tSeq (tPar i j vs) tz D σ H := s_par (D := { D with nx := tz D }) h k
/-- a chain of comparisons -/
theorem ev_chain {r r' : R2} {b c : Bool} (ha : Ev ta σ H x) (hb : Ev tb σ H y) (hr : RV r x y H (.bl b)) (hc : b = true → Ev tx σ H z) (hr' : b = true → RV r' y z H (.bl c)) : Ev (tChain r r' ta tb tx) σ H (.bl (b && c)) := fun H1 e Q q =>
  ha H1 e _ fun H2 e2 => hb H2 (e.trans e2) _ fun H3 e3 => hr H3 ((e.trans e2).trans e3) _ fun H4 e4 => ⟨b, rfl, by
    cases b with
    | true => exact hc rfl H4 (((e.trans e2).trans e3).trans e4) _ fun H5 e5 => hr' rfl H5 ((((e.trans e2).trans e3).trans e4).trans e5) Q fun H6 e6 => q H6 ((((e2.trans e3).trans e4).trans e5).trans e6)
    | false => exact q H4 ((e2.trans e3).trans e4)⟩
/-- truth of a list -/
theorem et_truL {a : Addr} {xs : List V} (h : Ev te σ H (.ref a)) (hx : SqL K H a xs) : EvT (fun σ H Q => te σ H fun x H' => ∃ k, TruV K x H' k ∧ Q k H') σ H (!xs.isEmpty) := fun H1 e Q q =>
  h H1 e _ fun H2 e2 => ⟨_, .inl ⟨xs, ex_l (e.trans e2) hx, rfl⟩, q H2 e2⟩
/-- xs.pop() as a value, then a statement: the list changed -/
theorem s_pop {l : Addr} {xs : List V} (hl : H l = some (.lst xs)) (ha : Ev ta σ H (.ref l)) (hx : xs[xs.length - 1]? = some v) (k : ∀ H1, Ex H H1 → D.nx σ (upd H1 l (.lst xs.dropLast))) :
    tDrop (tBM0 K "list" rPop ta) D σ H := ha H (Ex.refl H) _ fun H1 e1 =>
  ⟨Or.inl ⟨rfl, xs, sq_of (e1 l _ hl)⟩, ⟨l, xs, v, rfl, rfl, e1 l _ hl, hx, k H1 e1⟩⟩
theorem q_pop {l : Addr} {xs : List V} (hl : H l = some (.lst xs)) (ha : Ev ta σ H (.ref l)) (hx : xs[xs.length - 1]? = some v) (k : ∀ H1, Ex H H1 → tz D σ (upd H1 l (.lst xs.dropLast))) :
    tSeq (tDrop (tBM0 K "list" rPop ta)) tz D σ H := s_pop (D := { D with nx := tz D }) hl ha hx k
/-- i = xs.pop() % p -/
theorem q_popMod {i : Nat} {l : Addr} {xs : List V} {n p : Int} (hl : H l = some (.lst xs)) (ha : Ev ta σ H (.ref l)) (hx : xs[xs.length - 1]? = some (.int n)) (hp : 0 < p) (hb : ∀ H', Ev tb σ H' (.int p))
    (k : ∀ H1 H2, Ex H H1 → Ex (upd H1 l (.lst xs.dropLast)) H2 → tz D (σ.set i (some (.int (n % p)))) H2) : tSeq (tAsg (tOp (rI (fun _ j => 0 < j) fun i j => .int (i % j)) (tBM0 K "list" rPop ta) tb) (gName i)) tz D σ H :=
  ha H (Ex.refl H) _ fun H1 e1 =>
  ⟨Or.inl ⟨rfl, xs, sq_of (e1 l _ hl)⟩, ⟨l, xs, .int n, rfl, rfl, e1 l _ hl, hx, hb _ _ (Ex.refl _) _ fun H2 e2 => ⟨n, p, rfl, rfl, hp, k H1 H2 e1 e2⟩⟩⟩
/-- i = xs.pop() -/
theorem q_popS {i : Nat} {l : Addr} {xs : List V} (hl : H l = some (.lst xs)) (ha : Ev ta σ H (.ref l)) (hx : xs[xs.length - 1]? = some v)
    (k : ∀ H1, Ex H H1 → tz D (σ.set i (some v)) (upd H1 l (.lst xs.dropLast))) : tSeq (tAsg (tBM0 K "list" rPop ta) (gName i)) tz D σ H :=
  ha H (Ex.refl H) _ fun H1 e1 => ⟨Or.inl ⟨rfl, xs, sq_of (e1 l _ hl)⟩, ⟨l, xs, v, rfl, rfl, e1 l _ hl, hx, k H1 e1⟩⟩
/-- [x] * n, xs + ys: new lists -/
theorem el_rep {xs : List V} {n : Int} (h : EvL ta σ H xs) (hb : ∀ H1, Ex H H1 → Ev tb σ H1 (.int n)) (hn : -1000 ≤ n ∧ n ≤ 1000) (hx : xs.length ≤ 10) : EvL (tOp rRep ta tb) σ H (List.replicate n.toNat xs).flatten := fun H1 e Q q =>
  h H1 e _ fun p H2 hp e2 h2 => hb H2 (e.trans e2) H2 (Ex.refl H2) _ fun H3 e3 => ⟨p, n, xs, rfl, rfl, e3 p _ h2, by omega, by omega, by
    refine sz_of (Nat.le_trans (Nat.mul_le_mul hx (Nat.le_refl _)) ?_); omega, fun l hl => q l _ (fresh_back (e2.trans e3) hl) ((e2.trans e3).trans (Ex.new hl)) upd_same⟩
theorem el_cat {xs ys : List V} (h : EvL ta σ H xs) (hb : ∀ H1, Ex H H1 → EvL tb σ H1 ys) (hn : xs.length + ys.length ≤ 100000) : EvL (tOp rCat ta tb) σ H (xs ++ ys) := fun H1 e Q q =>
  h H1 e _ fun p H2 hp e2 h2 => hb H2 (e.trans e2) H2 (Ex.refl H2) _ fun p2 H3 hp2 e3 h3 => ⟨p, p2, xs, ys, rfl, rfl, e3 p _ h2, h3, sz_of hn, fun l hl => q l _ (fresh_back (e2.trans e3) hl) ((e2.trans e3).trans (Ex.new hl)) upd_same⟩
/-- the first operand a known list -/
theorem el_catK {a : Addr} {xs ys : List V} (h : Ev ta σ H (.ref a)) (ha : H a = some (.lst xs)) (hb : ∀ H1, Ex H H1 → EvL tb σ H1 ys) (hn : xs.length + ys.length ≤ 100000) : EvL (tOp rCat ta tb) σ H (xs ++ ys) := fun H1 e Q q =>
  h H1 e _ fun H2 e2 => hb H2 (e.trans e2) H2 (Ex.refl H2) _ fun p2 H3 hp2 e3 h3 => ⟨a, p2, xs, ys, rfl, rfl, e3 a _ (e2 a _ (e a _ ha)), h3, sz_of hn, fun l hl => q l _ (fresh_back (e2.trans e3) hl) ((e2.trans e3).trans (Ex.new hl)) upd_same⟩
theorem rep1 (x : V) : ∀ n : Nat, (List.replicate n [x]).flatten = List.replicate n x
  | 0 => rfl
  | n + 1 => by rw [List.replicate_succ, List.flatten_cons, rep1 x n]; rfl
/-- a, *xs, b as a list -/
theorem ea_star {p : Addr} {xs vs : List V} {tr : TA} (h : Ev te σ H (.ref p)) (hx : SqT K H p xs ∨ SqL K H p xs) (hr : EvA tr σ H vs) : EvA (StX.tStar K te tr) σ H (xs ++ vs) := fun H1 e Q q =>
  h H1 e _ fun H2 e2 => ⟨p, xs, rfl, hx.imp (ex_t (e.trans e2)) (ex_l (e.trans e2)), hr H2 (e.trans e2) _ fun H3 e3 => q H3 (e2.trans e3)⟩
/-- int(..) of an int, of a bool; abs; max, min -/
theorem ev_int {n : Int} {ta : TA} (h : EvA ta σ H [.int n]) : Ev (tCB (fun xs H Q => (∃ i, xs = [V.int i] ∧ Q (.int i) H) ∨ ∃ k, xs = [V.bl k] ∧ Q (.int (if k then 1 else 0)) H) ta) σ H (.int n) := fun H1 e Q q =>
  h H1 e _ fun H2 e2 => .inl ⟨n, rfl, q H2 e2⟩
theorem ev_intB {b : Bool} {ta : TA} (h : EvA ta σ H [.bl b]) : Ev (tCB (fun xs H Q => (∃ i, xs = [V.int i] ∧ Q (.int i) H) ∨ ∃ k, xs = [V.bl k] ∧ Q (.int (if k then 1 else 0)) H) ta) σ H (.int (if b then 1 else 0)) := fun H1 e Q q =>
  h H1 e _ fun H2 e2 => .inr ⟨b, rfl, q H2 e2⟩
theorem ev_abs {n : Int} {ta : TA} (h : EvA ta σ H [.int n]) : Ev (tCB (fun xs H Q => ∃ i, xs = [V.int i] ∧ Q (.int (if i < 0 then -i else i)) H) ta) σ H (.int (if n < 0 then -n else n)) := fun H1 e Q q =>
  h H1 e _ fun H2 e2 => ⟨n, rfl, q H2 e2⟩
theorem ev_lenL {p : Addr} {xs : List V} (ha : Ev ta σ H (.ref p)) (h : SqL K H p xs ∨ SqT K H p xs) : Ev (tCB (fun vs H Q => ∃ p ys, vs = [V.ref p] ∧ (SqL K H p ys ∨ SqT K H p ys) ∧ Q (.int (ys.length : Int)) H) (tCons ta tNil)) σ H (.int (xs.length : Int)) := fun H1 e Q q =>
  ha H1 e _ fun H2 e2 => ⟨p, xs, rfl, h.imp (ex_l (e.trans e2)) (ex_t (e.trans e2)), q H2 e2⟩
/-- tuple(xs), list(xs) -/
theorem eu_tuple {p : Addr} {xs : List V} (ha : Ev ta σ H (.ref p)) (h : SqL K H p xs) : EvU (tCB (fun vs H Q => ∃ p ys, vs = [V.ref p] ∧ ((SqL K H p ys ∧ ∀ l, H l = none → Q (.ref l) (upd H l (.tup ys))) ∨ (SqT K H p ys ∧ Q (.ref p) H))) (tCons ta tNil)) σ H xs := fun H1 e Q q =>
  ha H1 e _ fun H2 e2 => ⟨p, xs, rfl, .inl ⟨ex_l (e.trans e2) h, fun l hl => q l _ (fresh_back e2 hl) (e2.trans (Ex.new hl)) upd_same⟩⟩
theorem el_listOf {p : Addr} {xs : List V} (ha : Ev ta σ H (.ref p)) (h : SqL K H p xs ∨ SqT K H p xs) : EvL (tCB (fun vs H Q => ∃ p ys, vs = [V.ref p] ∧ (SqL K H p ys ∨ SqT K H p ys) ∧ ∀ l, H l = none → Q (.ref l) (upd H l (.lst ys))) (tCons ta tNil)) σ H xs := fun H1 e Q q =>
  ha H1 e _ fun H2 e2 => ⟨p, xs, rfl, h.imp (ex_l (e.trans e2)) (ex_t (e.trans e2)), fun l hl => q l _ (fresh_back e2 hl) (e2.trans (Ex.new hl)) upd_same⟩
theorem rv_ixLn {p : Addr} {xs : List V} {j : Nat} (h : SqL K H p xs) (ha : xs[j]? = some v) : RV (rIxL K) (.ref p) (.int (j : Int)) H v := rv_ixL h (atI_nat ha)
theorem rv_ixTn {p : Addr} {xs : List V} {j : Nat} (h : SqT K H p xs) (ha : xs[j]? = some v) : RV (rIxT K) (.ref p) (.int (j : Int)) H v := rv_ixT h (atI_nat ha)
end
theorem ints_get {ns : List Int} {i : Nat} {x : V} (h : (ns.map V.int)[i]? = some x) : ∃ n, ns[i]? = some n ∧ x = .int n := by
  rw [List.getElem?_map] at h
  cases e : ns[i]? with
  | none => rw [e] at h; cases h
  | some n => rw [e] at h; exact ⟨n, rfl, (Option.some.inj h).symm⟩
theorem ints_at {ns : List Int} {i : Nat} {n : Int} (h : ns[i]? = some n) : (ns.map V.int)[i]? = some (.int n) := by rw [List.getElem?_map, h]; rfl
/-- a new tuple -/
def RetU (xs : List V) (H : Hp) (Q : VK) : Prop := ∀ p H2, H p = none → Ex H H2 → H2 p = some (.tup xs) → Q (.ref p) H2
end My
namespace My
open PySem PySem.Spec PyProof.Rows L2 Evl
section
variable {K : PySem.W.Frag} {σ : L2.St} {H : Hp} {ta tb te tx : TE}
theorem gets_r1 {n : Int} (h : Ev te σ H (.int n)) (hn : -(2 ^ 62) ≤ n ∧ n < 2 ^ 62) : Gets (iRng1 (tCons te tNil)) σ H (Itr 0 n.toNat) := fun R q => h H (Ex.refl H) _ fun H1 e => ⟨n, rfl, hn.1, hn.2, q H1 e⟩
theorem gets_r2 {lo n : Int} (h : Ev ta σ H (.int lo)) (h2 : Ev tb σ H (.int n)) (hn : -(2 ^ 62) ≤ lo ∧ lo < 2 ^ 62 ∧ -(2 ^ 62) ≤ n ∧ n < 2 ^ 62) : Gets (iRng2 (tCons ta (tCons tb tNil))) σ H (Itr lo (n - lo).toNat) :=
  fun R q => h H (Ex.refl H) _ fun H1 e => h2 H1 e _ fun H2 e2 => ⟨lo, n, rfl, hn, q H2 (e.trans e2)⟩
end
end My
namespace My
open PySem PySem.Spec PyProof.Rows L2 Evl
theorem pe_gi {X : Cx} {x : Str} {n : Int} {pos : Pos} (hg : Gl X x) (h : ∃ t, X.mg x = some (.int n t)) (hdb : (x == ("__debug__" : Str)) = false := by decide) : PE X (.Name x pos) (tC (.int n)) := by
  obtain ⟨t, h⟩ := h
  exact pe_glob hg h ⟨t, rfl⟩ hdb
section
variable {K : PySem.W.Frag} {σ : L2.St} {H : Hp} {ta tb te tx : TE} {x y : V} {D : Ends} {tz : TS}
theorem s_parL {i j : Nat} {ys : List V} (h : Ev ta σ H x) (hb : EvL tb σ H ys) (k : ∀ p H1, H p = none → Ex H H1 → H1 p = some (.lst ys) → D.nx ((σ.set i (some x)).set j (some (.ref p))) H1) : tPar i j (tCons ta (tCons tb tNil)) D σ H :=
  h H (Ex.refl H) _ fun H1 e1 => hb H1 e1 _ fun p H2 hp e2 h2 => ⟨x, .ref p, rfl, k p H2 (fresh_back e1 hp) (e1.trans e2) h2⟩
theorem q_parL {i j : Nat} {ys : List V} (h : Ev ta σ H x) (hb : EvL tb σ H ys) (k : ∀ p H1, H p = none → Ex H H1 → H1 p = some (.lst ys) → tz D ((σ.set i (some x)).set j (some (.ref p))) H1) : tSeq (tPar i j (tCons ta (tCons tb tNil))) tz D σ H :=
  s_parL (D := { D with nx := tz D }) h hb k
end
end My
namespace My
open PySem PySem.Spec PyProof.Rows L2 Evl
section
variable {K : PySem.W.Frag} {σ : L2.St} {H : Hp} {te : TE}
theorem gets_tup {a : Addr} {xs : List V} (h : Ev te σ H (.ref a)) (hx : SqT K H a xs) : Gets (iTup K te) σ H (Itt K a) := fun R q => h H (Ex.refl H) _ fun H1 e => ⟨a, rfl, ⟨xs, ex_t e hx⟩, q H1 e⟩
end
end My
namespace My
open PySem PySem.Spec PyProof.Rows L2 Evl
section
variable {K : PySem.W.Frag} {σ : L2.St} {H : Hp} {te : TE} {x y : V} {D : Ends} {tz : TS}
/-- i, j = a new pair -/
theorem s_asgT2 {i j : Nat} (h : EvU te σ H [x, y]) (k : ∀ H1, Ex H H1 → D.nx ((σ.set i (some x)).set j (some y)) H1) : tAsg te (gTup K 2 (gCons (gName i) (gCons (gName j) gNil))) D σ H :=
  h H (Ex.refl H) _ fun p H1 _ e hp => g_pair (st_of hp) (k H1 e)
theorem q_asgT2 {i j : Nat} (h : EvU te σ H [x, y]) (k : ∀ H1, Ex H H1 → tz D ((σ.set i (some x)).set j (some y)) H1) : tSeq (tAsg te (gTup K 2 (gCons (gName i) (gCons (gName j) gNil)))) tz D σ H :=
  s_asgT2 (D := { D with nx := tz D }) h k
/-- i, j = a known pair -/
theorem q_asgP {i j : Nat} {p : Addr} (h : Ev te σ H (.ref p)) (hp : SqT K H p [x, y]) (k : ∀ H1, Ex H H1 → tz D ((σ.set i (some x)).set j (some y)) H1) : tSeq (tAsg te (gTup K 2 (gCons (gName i) (gCons (gName j) gNil)))) tz D σ H :=
  h H (Ex.refl H) _ fun H1 e => g_pair (ex_t e hp) (k H1 e)
end
end My
namespace My
open PySem PySem.Spec PyProof.Rows L2 Evl
def iEnumA (K : PySem.W.Frag) (ta : TA) : TI := fun σ H R => ta σ H fun vs H1 => ∃ a xs, vs = [.ref a] ∧ ((SqL K H1 a xs ∧ R (Ite K a) H1) ∨ (SqT K H1 a xs ∧ R (IteT K a) H1))
theorem pi_enumA {X : Cx} {e : Expr} {ta : TA} {p pos tpos : Pos} {elts : List Expr} {kk : Nat} (hg : Gl X "enumerate") (hm : X.mg "enumerate" = none) (ha : PA X [e] ta) (hs : starEach [e] X.env = [(false, eval e X.env)] := by rfl) :
    PI X (.Tuple elts kk tpos) (.Call (.Name "enumerate" p) [e] [] pos) (iEnumA X.K ta) := by
  refine ⟨fun pins s σ H R I h => ?_⟩
  refine Call_ (ld_blt I hg hm boot_enumerate (PyProof.Rows.callWith_type1 (thn (ha.run pos pins s σ H _ I h) fun us s1 ⟨vs, H1, I1, r1, q1⟩ => ?_) hs rfl))
  obtain ⟨a, xs, ex, q⟩ := q1
  subst ex
  cases r1 with
  | cons r rr =>
    cases rr
    cases r
    have fp : ∀ b, b ∈ [s1.heap.objs.size + 1, s1.heap.objs.size] → FpOk X pins H1 b := fun b hb => by
      have e' : b = s1.heap.objs.size + 1 ∨ b = s1.heap.objs.size := by simpa using hb
      have hle : s1.heap.objs.size ≤ b := by
        rcases e' with z | z
        · rw [z]; exact Nat.le_add_right _ _
        · rw [z]; exact Nat.le_refl _
      exact I1.fpOk hle (I1.hok.fresh hle)
    rcases q with ⟨hq, q⟩ | ⟨hq, q⟩
    · obtain ⟨its, rv, p', hz⟩ := I1.list hq
      refine call_enumerate_list p'.isList fun h' he hit hsz hk => wpAny_pyIter_enum he ?_
      have I2 : Inv X pins σ H1 { s1 with heap := h' } := I1.kept (t' := s1.toks) hk
      exact ⟨s1.heap.objs.size + 1, [s1.heap.objs.size + 1, s1.heap.objs.size], _, _, H1, rfl, I2, turn_enum a (s1.heap.objs.size + 1) s1.heap.objs.size, ⟨⟨.none, he⟩, hit, Nat.succ_ne_self _⟩, fp, q⟩
    · obtain ⟨its, rv, p', hz⟩ := I1.tuple hq
      have hal : a < s1.heap.objs.size := by obtain ⟨_, q, _⟩ := id p'; exact Heap.lt_size q
      refine F9.call_enumerate_tuple p' fun h' he hit hsz hk => wpAny_pyIter_enum he ?_
      have I2 : Inv X pins σ H1 { s1 with heap := h' } := I1.kept (t' := s1.toks) hk
      exact ⟨s1.heap.objs.size + 1, [s1.heap.objs.size + 1, s1.heap.objs.size], _, _, H1, rfl, I2, turn_enumT a (s1.heap.objs.size + 1) s1.heap.objs.size (Nat.ne_of_lt hal), ⟨⟨.none, he⟩, hit, Nat.succ_ne_self _, Nat.ne_of_gt (Nat.lt_succ_of_lt hal)⟩, fp, q⟩
/-- a list or a tuple -/
def SqA (K : PySem.W.Frag) (H : Hp) (a : Addr) (xs : List V) : Prop := SqL K H a xs ∨ SqT K H a xs
theorem SqA.mono {K : PySem.W.Frag} {H H' : Hp} {a : Addr} {xs : List V} (e : Ex H H') (h : SqA K H a xs) : SqA K H' a xs := h.imp (ex_l e) (ex_t e)
section
variable {K : PySem.W.Frag} {σ : L2.St} {H : Hp} {te : TE} {x y : V} {D : Ends} {tz : TS} {g : TG} {tt : TT} {wi : TI}
/-- the pair's walk, over a list or a tuple -/
structure EnJ (K : PySem.W.Frag) (a : Addr) (xs : List V) (J : It) : Prop where
  walk : ∃ G : Hp → Prop, (∀ H, SqA K H a xs → G H) ∧ Walk J xs.length G (YPair (fun i => some (.int (i : Nat))) (fun i => xs[i]?))
theorem enumA {a : Addr} {xs : List V} (h : Ev te σ H (.ref a)) (hx : SqA K H a xs) {R : It → Hp → Prop} (k : ∀ (J : It) (G : Hp → Prop) (H1 : Hp), Walk J xs.length G (YPair (fun i => some (.int (i : Nat))) (fun i => xs[i]?)) → (∀ H2, Ex H H2 → G H2) → Ex H H1 → R J H1) :
    iEnumA K (tCons te tNil) σ H R := h H (Ex.refl H) _ fun H1 e => by
  rcases hx with hx | hx
  · exact ⟨a, xs, rfl, .inl ⟨ex_l e hx, k _ _ H1 walk_enum (fun H2 e2 => ex_l e2 hx) e⟩⟩
  · exact ⟨a, xs, rfl, .inr ⟨ex_t e hx, k _ _ H1 walk_enumT (fun H2 e2 => ex_t e2 hx) e⟩⟩
/-- a comprehension over a walk -/
theorem lcW {J : It} {n : Nat} {G : Hp → Prop} {Y : Nat → Hp → V → Hp → Prop} {vs : List Nat} {Q : VK} (h : Gets wi σ H J) (w : Walk J n G Y) (Pv : Addr → Nat → Hp → Prop) (h0 : ∀ D H1, Ex H H1 → H1 D = none → Pv D 0 (upd H1 D (.lst []))) (hG : ∀ D i H', i ≤ n → Pv D i H' → G H')
    (hs : ∀ D i x H' H2, i < n → Pv D i H' → Y i H' x H2 → g x (wipe σ vs) H2 fun σ2 H3 => wipe σ2 vs = wipe σ vs ∧ tt σ2 H3 fun b H4 => if b = true then te σ2 H4 fun y H5 => ∃ acc, H5 D = some (.lst acc) ∧ acc.length < sizeLine ∧ Pv D (i + 1) (upd H5 D (.lst (acc ++ [y]))) else Pv D (i + 1) H4)
    (hd : ∀ D H', Pv D n H' → Q (.ref D) H') : tLc wi g tt te vs σ H Q := h _ fun H1 e D hD => lc_it w (Pv D) (h0 D H1 e hD) (hG D) (hs D) (hd D)
end
/-- pairs of ints at addresses -/
def PairsAt (H : Hp) : List V → List (Nat × Int) → Prop := Paired (fun x q => ∃ t, x = V.ref t ∧ H t = some (.tup [.int (q.1 : Nat), .int q.2]))
theorem PairsAt.mono {H H' : Hp} (e : Ex H H') : ∀ {xs : List V} {ps : List (Nat × Int)}, PairsAt H xs ps → PairsAt H' xs ps
  | _, _, .nil => .nil
  | _, _, .cons ⟨t, h1, h2⟩ r => .cons ⟨t, h1, e _ _ h2⟩ (PairsAt.mono e r)
theorem PairsAt.snoc {H : Hp} {x : V} {q : Nat × Int} (h : ∃ t, x = V.ref t ∧ H t = some (.tup [.int (q.1 : Nat), .int q.2])) : ∀ {xs : List V} {ps : List (Nat × Int)}, PairsAt H xs ps → PairsAt H (xs ++ [x]) (ps ++ [q])
  | _, _, .nil => .cons h .nil
  | _, _, .cons r t => .cons r (PairsAt.snoc h t)
theorem PairsAt.get {H : Hp} : ∀ {xs : List V} {ps : List (Nat × Int)} {i : Nat} {x : V}, PairsAt H xs ps → xs[i]? = some x → ∃ q, ps[i]? = some q ∧ ∃ t, x = V.ref t ∧ H t = some (.tup [.int (q.1 : Nat), .int q.2])
  | _, _, _, _, .nil, e => by simp at e
  | _, _, 0, _, .cons (b := q) r _, e => by simp at e; subst e; exact ⟨q, rfl, r⟩
  | _, _, i + 1, x, .cons _ t, e => by
    obtain ⟨q, h1, h2⟩ := PairsAt.get (i := i) (x := x) t (by simpa using e)
    exact ⟨q, by simpa using h1, h2⟩
theorem PairsAt.len {H : Hp} : ∀ {xs : List V} {ps : List (Nat × Int)}, PairsAt H xs ps → xs.length = ps.length
  | _, _, .nil => rfl
  | _, _, .cons _ t => congrArg (· + 1) (PairsAt.len t)
end My
namespace My
open PySem PySem.Spec PyProof.Rows L2 Evl
theorem PairsAt.upd {H : Hp} {D : Addr} {a : List V} {o : HO} (hD : H D = some (.lst a)) : ∀ {xs : List V} {ps : List (Nat × Int)}, PairsAt H xs ps → PairsAt (upd H D o) xs ps
  | _, _, .nil => .nil
  | _, _, .cons ⟨t, h1, h2⟩ r => .cons ⟨t, h1, by rw [upd_ne (ne_of h2 hD (fun z => nomatch z))]; exact h2⟩ (PairsAt.upd hD r)
section
variable {K : PySem.W.Frag} {σ : L2.St} {H : Hp} {te tl : TE}
theorem et_yes : EvT tYes σ H true := fun H1 _ _ q => q H1 (Ex.refl H1)
theorem given_map {f : Int → Int} (ns : List Int) : given ns.length (fun _ => true) (fun i => .int (f (ns.getD i 0))) = (ns.map f).map V.int := by
  unfold given
  rw [List.filter_eq_self.mpr (fun _ _ => rfl)]
  apply List.ext_getElem?
  intro i
  rw [List.getElem?_map, List.getElem?_map, List.getElem?_map]
  by_cases h : i < ns.length
  · rw [List.getElem?_range h, List.getElem?_eq_getElem h]
    simp [List.getD_eq_getElem?_getD, h]
  · rw [List.getElem?_eq_none (by simpa using Nat.not_lt.mp h), List.getElem?_eq_none (by simpa using Nat.not_lt.mp h)]; rfl
theorem el_mapI {j : Nat} {vs : List Nat} {a : Addr} {ns : List Int} (f : Int → Int) (h : Ev tl σ H (.ref a)) (hx : SqL K H a (ns.map V.int)) (hz : ns.length ≤ 40000) (hw : ∀ x, wipe ((wipe σ vs).set j (some x)) vs = wipe σ vs)
    (he : ∀ (n : Int) H1, n ∈ ns → Ex H H1 → Ev te ((wipe σ vs).set j (some (.int n))) H1 (.int (f n))) : EvL (tLc (iList K tl) (gName j) tYes te vs) σ H ((ns.map f).map V.int) := by
  rw [← given_map]
  have hl : ns.length = (ns.map V.int).length := (List.length_map _).symm
  rw [hl]
  refine el_lcL _ _ h hx (by rw [List.length_map]; exact hz) hw (fun i x H1 e hi => et_yes) fun i x H1 e hi _ => ?_
  obtain ⟨n, hn, rfl⟩ := ints_get hi
  have e1 : ns.getD i 0 = n := by rw [List.getD_eq_getElem?_getD, hn]; rfl
  rw [e1]
  exact he n H1 (List.mem_of_getElem? hn) e
end
theorem getD_at {ns : List Int} {i : Nat} (h : i < ns.length) : ns[i]? = some (ns.getD i 0) := by rw [List.getD_eq_getElem?_getD, List.getElem?_eq_getElem h]; rfl
theorem getD_of {ns : List Int} {i : Nat} {n : Int} (h : ns[i]? = some n) : ns.getD i 0 = n := by rw [List.getD_eq_getElem?_getD, h]; rfl
theorem take_at {α : Type} {ns : List α} {i : Nat} {n : α} (h : ns[i]? = some n) : ns.take (i + 1) = ns.take i ++ [n] := by rw [List.take_add_one, h]; rfl
end My
namespace My
open PySem PySem.Spec PyProof.Rows L2 Evl
section
variable {X : Cx} {K : PySem.W.Frag} {pos : Pos}
theorem ix_listK (h : X.K = K) : IxR X (rIxL K) := h ▸ ix_list
theorem ix_tupK (h : X.K = K) : IxR X (rIxT K) := h ▸ ix_tup
theorem call_lenK (h : X.K = K) : CallR X (.builtin "len") (fun xs H Q => ∃ p ys, xs = [.ref p] ∧ (SqL K H p ys ∨ SqT K H p ys) ∧ Q (.int ys.length) H) := h ▸ call_len_seq
theorem call_tupleK (h : X.K = K) : CallR X (.type "tuple") (fun xs H Q => ∃ p ys, xs = [.ref p] ∧ ((SqL K H p ys ∧ ∀ l, H l = none → Q (.ref l) (upd H l (.tup ys))) ∨ (SqT K H p ys ∧ Q (.ref p) H))) := h ▸ call_tuple_of
theorem call_listK (h : X.K = K) : CallR X (.type "list") (fun xs H Q => ∃ p ys, xs = [.ref p] ∧ (SqL K H p ys ∨ SqT K H p ys) ∧ ∀ l, H l = none → Q (.ref l) (upd H l (.lst ys))) := h ▸ call_list_of
theorem pg_tupK (h0 : X.K = K) {es : List Expr} {k : Nat} {t : TGs} {n : Nat} (hc : X.calm = true) (h : PGs X es t)
    (hn : (assignEach es X.env).length = n := by rfl) (hst : (assignEach es X.env).findIdx? (·.1) = none := by rfl) : PG X (.Tuple es k pos) (gTup K n t) := h0 ▸ pg_tup hc h hn hst
theorem pi_listK {tg l : Expr} {tl : TE} (h0 : X.K = K) (h : PE X l tl) : PI X tg l (iList K tl) := h0 ▸ pi_list h
theorem pi_tupK {tg l : Expr} {tl : TE} (h0 : X.K = K) (h : PE X l tl) : PI X tg l (iTup K tl) := h0 ▸ pi_tup h
end
end My
namespace My
open PySem PySem.Spec PyProof.Rows L2 Evl
section
variable {K : PySem.W.Frag} {σ : L2.St} {H : Hp} {te t0 : TE} {D : Ends} {tz : TS} {g : TG} {tt : TT}
theorem lcEA {a : Addr} {xs : List V} {vs : List Nat} {Q : VK} (h : Ev t0 σ H (.ref a)) (hx : SqA K H a xs) (Pv : Addr → Nat → Hp → Prop) (h0 : ∀ D H1, Ex H H1 → H1 D = none → Pv D 0 (upd H1 D (.lst []))) (hE : ∀ D i H', Pv D i H' → Ex H H')
    (hs : ∀ D i x H' H2, i < xs.length → Pv D i H' → YPair (fun i => some (.int (i : Nat))) (fun i => xs[i]?) i H' x H2 → g x (wipe σ vs) H2 fun σ2 H3 => wipe σ2 vs = wipe σ vs ∧ tt σ2 H3 fun b H4 => if b = true then te σ2 H4 fun y H5 => ∃ acc, H5 D = some (.lst acc) ∧ acc.length < sizeLine ∧ Pv D (i + 1) (upd H5 D (.lst (acc ++ [y]))) else Pv D (i + 1) H4)
    (hd : ∀ D H', Pv D xs.length H' → Q (.ref D) H') : tLc (iEnumA K (tCons t0 tNil)) g tt te vs σ H Q :=
  enumA h hx fun J G H1 wk hG e D hD => lc_it wk (Pv D) (h0 D H1 e hD) (fun i H' _ p => hG H' (hE D i H' p)) (hs D) (hd D)
theorem q_asgTE {i : Nat} (h : te σ H (fun x H1 => tz D (σ.set i (some x)) H1)) : tSeq (tAsg te (gName i)) tz D σ H := h
end
end My
namespace My
open PySem PySem.Spec PyProof.Rows L2 Evl
/-! ### a class, its __init__, its methods -/
structure Md (P : Program) (w : World) (K : PySem.W.Frag) (mg : Str → Option Value) (base : Heap) (k : Nat) (x : Str) (C : Addr) (sp : Sp) : Prop where
  ex : ∃ (f : Addr) (fd : FuncData) (ps : List Str), Mk K C f ∧ FnOk P w K mg base L2.CX0 k f fd ps sp ∧ mg x = some (.ref C) ∧ Binds K fd ps []
structure Td (P : Program) (w : World) (K : PySem.W.Frag) (mg : Str → Option Value) (base : Heap) (k : Nat) (C : Addr) (m : Str) (sp : Sp) : Prop where
  ex : ∃ (f : Addr) (fd : FuncData) (ps : List Str), Cls K C ∧ Meth K C m f ∧ FnOk P w K mg base L2.CX0 k f fd ps sp ∧ Binds K fd ps []
/-- __init__ of the class at C as the top has written it -/
structure Di (K : PySem.W.Frag) (mg : Str → Option Value) (x : Str) (qual : Str) (C : Addr) (st : Stmt) (ps : List Str) : Prop where
  ex : ∃ f fd, Fun K "__init__" qual st f fd ∧ Mk K C f ∧ mg x = some (.ref C) ∧ Binds K fd ps []
structure Dm (K : PySem.W.Frag) (C : Addr) (m qual : Str) (st : Stmt) (ps : List Str) : Prop where
  ex : ∃ f fd, Fun K m qual st f fd ∧ Cls K C ∧ Meth K C m f ∧ Binds K fd ps []
section
variable {P : Program} {w : World} {K : PySem.W.Frag} {mg : Str → Option Value} {base : Heap}
theorem Di.ok {x qual : Str} {C : Addr} {st : Stmt} {N ps : List Str} {k : Nat} {sp : Sp} (D : Di K mg x qual C st ps) (S : FnScope N ps (defScope st)) (len : ∀ vs H Q E, sp vs H Q E → vs.length = ps.length)
    (hbody : ∀ (f : Addr) (cdv : Value) (A : Around) (outer : List Env) (s : Shared) (H : Hp) (vs : List V) (Q : VK) (E : XK), Room k (A.deeper (envOfC qual (defScope st) s.heap.objs.size f cdv)) → sp vs H Q E →
      ∃ t, PSs (cxOf L2.CX0 P w K mg base N qual (defScope st) f cdv A outer s H E).nox (defBody st) t ∧ t { nx := fun _ H' => Q .non H', rt := Q } (start N vs) H) : Md P w K mg base (k + 1) x C sp := by
  obtain ⟨f, fd, F, M, m, b⟩ := D.ex
  exact ⟨f, fd, ps, M, F.ok S len (hbody f), m, b⟩
theorem Dm.ok {m qual : Str} {C : Addr} {st : Stmt} {N ps : List Str} {k : Nat} {sp : Sp} (D : Dm K C m qual st ps) (S : FnScope N ps (defScope st)) (len : ∀ vs H Q E, sp vs H Q E → vs.length = ps.length)
    (hbody : ∀ (f : Addr) (cdv : Value) (A : Around) (outer : List Env) (s : Shared) (H : Hp) (vs : List V) (Q : VK) (E : XK), Room k (A.deeper (envOfC qual (defScope st) s.heap.objs.size f cdv)) → sp vs H Q E →
      ∃ t, PSs (cxOf L2.CX0 P w K mg base N qual (defScope st) f cdv A outer s H E).nox (defBody st) t ∧ t { nx := fun _ H' => Q .non H', rt := Q } (start N vs) H) : Td P w K mg base (k + 1) C m sp := by
  obtain ⟨f, fd, F, c, me, b⟩ := D.ex
  exact ⟨f, fd, ps, c, me, F.ok S len (hbody f), b⟩
end
section
variable {X : Cx} {p pos apos : Pos} {e o : Expr} {es : List Expr} {x m : Str} {k j : Nat} {C : Addr} {sp : Sp} {t : TA} {ta : TE} {pl : Sem Bool}
theorem pe_mak (c : Md X.prog X.w X.K X.mg X.base k x C sp) (hr : Room j X.A) (hk : k + 1 ≤ j) (hg : Gl X x) (ha : PA X (e :: es) t)
    (hdb : (x == ("__debug__" : Str)) = false := by decide) (he : starEach (e :: es) X.env = (false, eval e X.env) :: starEach es X.env := by rfl) (hpl : (backTo pos (starEach es X.env)).any (·.1) = false := by rfl) :
    PE X (.Call (.Name x p) (e :: es) [] pos) (tMake C sp [] L2.E0 t) := by
  obtain ⟨f, fd, ps, M, F, hm, b⟩ := c.ex
  exact pe_make M F (hr.mono hk) hg hm b .nil pass0 ha hdb he hpl
theorem pe_met (c : Td X.prog X.w X.K X.mg X.base k C m sp) (hr : Room j X.A) (hk : k ≤ j) (he : PE X o ta) (ha : PA X (e :: es) t)
    (hst : starEach (e :: es) X.env = (false, eval e X.env) :: starEach es X.env := by rfl) (hpl : (backTo pos (starEach es X.env)).any (·.1) = false := by rfl)
    (ht : eval (.Call (.Attribute o m apos) (e :: es) [] pos) X.env = (do
      let ov ← eval o X.env
      standAt apos.atName
      let (f, first) ← holding [ov] (getMethod ov m pl)
      callWith pos f first (backTo pos (starEach (e :: es) X.env)) (backToKw pos (keywordEach [] X.env))) := by rfl) :
    PE X (.Call (.Attribute o m apos) (e :: es) [] pos) (tMeth C m sp [] L2.E0 ta t) := by
  obtain ⟨f, fd, ps, cl, me, F, b⟩ := c.ex
  exact pe_meth he cl me F (hr.mono hk) b .nil pass0 ha hst hpl ht
end
section
variable {K : PySem.W.Frag} {σ : L2.St} {H : Hp} {ta tb tc tv : TE} {x y v : V} {D : Ends} {tz : TS} {a C dx : Addr} {f : Str} {fs : List (Str × V)}
theorem s_fldE (h : Ev tv σ H y) (ha : Ev ta σ H (.ref a)) (ho : H a = some (.ins C dx fs)) (c : Cls K C) (n : NoAttr K C f) (hl : fs.length < 1000) (k : ∀ H1, Ex H H1 → D.nx σ (upd H1 a (.ins C dx (putF f y fs)))) : sFld K ta tv f D σ H :=
  h H (Ex.refl H) _ fun H1 e1 => ha H1 e1 _ fun H2 e2 => ⟨a, C, dx, fs, rfl, e2 a _ (e1 a _ ho), c, n, hl, k H2 (e1.trans e2)⟩
theorem q_fldE (h : Ev tv σ H y) (ha : Ev ta σ H (.ref a)) (ho : H a = some (.ins C dx fs)) (c : Cls K C) (n : NoAttr K C f) (hl : fs.length < 1000) (k : ∀ H1, Ex H H1 → tz D σ (upd H1 a (.ins C dx (putF f y fs)))) : tSeq (sFld K ta tv f) tz D σ H :=
  s_fldE (D := { D with nx := tz D }) h ha ho c n hl k
theorem s_fldU {xs : List V} (h : EvU tv σ H xs) (ha : Ev ta σ H (.ref a)) (ho : H a = some (.ins C dx fs)) (c : Cls K C) (n : NoAttr K C f) (hl : fs.length < 1000) (k : ∀ p H1, H p = none → Ex H H1 → H1 p = some (.tup xs) → D.nx σ (upd H1 a (.ins C dx (putF f (.ref p) fs)))) : sFld K ta tv f D σ H :=
  h H (Ex.refl H) _ fun p H1 hp e1 h1 => ha H1 e1 _ fun H2 e2 => ⟨a, C, dx, fs, rfl, e2 a _ (e1 a _ ho), c, n, hl, k p H2 hp (e1.trans e2) (e2 p _ h1)⟩
theorem ev_fld (ha : Ev ta σ H (.ref a)) (ho : H a = some (.ins C dx fs)) (c : Cls K C) (n : NoAttr K C f) (hl : fs.lookup f = some v) : Ev (tFld K ta f) σ H v := fun H1 e Q q =>
  ha H1 e _ fun H2 e2 => ⟨a, C, dx, fs, v, rfl, e2 a _ (e a _ ho), c, n, hl, q H2 e2⟩
/-- f(x, [..], z), the second argument a new list -/
theorem ev_call3L {sp : Sp} {E : XK} {ys : List V} {z : V} (ha : Ev ta σ H x) (hb : EvL tb σ H ys) (hc : ∀ H1, Ex H H1 → Ev tc σ H1 z) (hs : ∀ b H1, Ex H H1 → H1 b = some (.lst ys) → ∀ Q : VK, (∀ H2, Ex H1 H2 → Q v H2) → ∀ E, sp [x, .ref b, z] H1 Q E) :
    Ev (tCall sp [] E (tCons ta (tCons tb (tCons tc tNil)))) σ H v := fun H1 e Q q =>
  ha H1 e _ fun H2 e2 => hb H2 (e.trans e2) _ fun b H3 nb e3 h3 => hc H3 ((e.trans e2).trans e3) H3 (Ex.refl H3) _ fun H4 e4 => hs b H4 (((e.trans e2).trans e3).trans e4) (e4 b _ h3) Q (fun H5 e5 => q H5 (((e2.trans e3).trans e4).trans e5)) E
/-- f(x, [..]) -/
theorem ev_call2L {sp : Sp} {E : XK} {ys : List V} (ha : Ev ta σ H x) (hb : EvL tb σ H ys) (hs : ∀ b H1, Ex H H1 → H1 b = some (.lst ys) → ∀ Q : VK, (∀ H2, Ex H1 H2 → Q v H2) → ∀ E, sp [x, .ref b] H1 Q E) :
    Ev (tCall sp [] E (tCons ta (tCons tb tNil))) σ H v := fun H1 e Q q =>
  ha H1 e _ fun H2 e2 => hb H2 (e.trans e2) _ fun b H3 nb e3 h3 => hs b H3 ((e.trans e2).trans e3) h3 Q (fun H5 e5 => q H5 ((e2.trans e3).trans e5)) E
theorem eu_call {sp : Sp} {E : XK} {t : TA} {vs xs : List V} (h : EvA t σ H vs) (hs : ∀ H1, Ex H H1 → ∀ Q : VK, (∀ p H2, H1 p = none → Ex H1 H2 → H2 p = some (.tup xs) → Q (.ref p) H2) → ∀ E, sp (vs ++ []) H1 Q E) : EvU (tCall sp [] E t) σ H xs := fun H1 e Q q =>
  h H1 e _ fun H2 e2 => hs H2 (e.trans e2) Q (fun p H3 hp e3 h3 => q p H3 (fresh_back e2 hp) (e2.trans e3) h3) E
end
end My
namespace My
open PySem PySem.Spec PyProof.Rows L2 Evl
/-- a new list of so many ints, of which each is so -/
def RetS (n : Nat) (G : Int → Prop) (H : Hp) (Q : VK) : Prop := ∀ p H2 (ns : List Int), H p = none → Ex H H2 → H2 p = some (.lst (ns.map V.int)) → ns.length = n → (∀ x ∈ ns, G x) → Q (.ref p) H2
/-- an int that is so -/
def RetI (G : Int → Prop) (H : Hp) (Q : VK) : Prop := ∀ H2 (n : Int), Ex H H2 → G n → Q (.int n) H2
def EvS (te : TE) (σ : L2.St) (H : Hp) (n : Nat) (G : Int → Prop) : Prop := ∀ H1, Ex H H1 → ∀ Q : VK, RetS n G H1 Q → te σ H1 Q
def EvI (te : TE) (σ : L2.St) (H : Hp) (G : Int → Prop) : Prop := ∀ H1, Ex H H1 → ∀ Q : VK, RetI G H1 Q → te σ H1 Q
/-- a list of pairs, each a new tuple -/
def EvP (ta : TA) (σ : L2.St) (H : Hp) (ps : List (Nat × Int)) : Prop := ∀ H1, Ex H H1 → ∀ Q : List V → Hp → Prop, (∀ vs H2, Ex H1 H2 → PairsAt H2 vs ps → Q vs H2) → ta σ H1 Q
section
variable {K : PySem.W.Frag} {σ : L2.St} {H : Hp} {ta tb te tl th : TE} {t u : TT} {x y v : V} {D : Ends} {tz tu : TS}
theorem evp_nil : EvP tNil σ H [] := fun H1 _ Q q => q _ H1 (Ex.refl H1) .nil
theorem evp_cons {p : Nat} {k : Int} {ps : List (Nat × Int)} {tr : TA} (h : EvU te σ H [.int (p : Nat), .int k]) (hr : EvP tr σ H ps) : EvP (tCons te tr) σ H ((p, k) :: ps) := fun H1 e Q q =>
  h H1 e _ fun a H2 _ e2 h2 => hr H2 (e.trans e2) _ fun vs H3 e3 hP => q _ H3 (e2.trans e3) (.cons ⟨a, rfl, e3 a _ h2⟩ hP)
theorem evs_call {sp : Sp} {E : XK} {t : TA} {vs : List V} {n : Nat} {G : Int → Prop} (h : EvA t σ H vs) (hs : ∀ H1, Ex H H1 → ∀ Q : VK, RetS n G H1 Q → ∀ E, sp (vs ++ []) H1 Q E) : EvS (tCall sp [] E t) σ H n G := fun H1 e Q q =>
  h H1 e _ fun H2 e2 => hs H2 (e.trans e2) Q (fun p H3 ns hp e3 h3 => q p H3 ns (fresh_back e2 hp) (e2.trans e3) h3) E
theorem evi_call {sp : Sp} {E : XK} {t : TA} {vs : List V} {G : Int → Prop} (h : EvA t σ H vs) (hs : ∀ H1, Ex H H1 → ∀ Q : VK, RetI G H1 Q → ∀ E, sp (vs ++ []) H1 Q E) : EvI (tCall sp [] E t) σ H G := fun H1 e Q q =>
  h H1 e _ fun H2 e2 => hs H2 (e.trans e2) Q (fun H3 n e3 hn => q H3 n (e2.trans e3) hn) E
theorem q_asgS {i n : Nat} {G : Int → Prop} (h : EvS te σ H n G) (k : ∀ p H1 (ns : List Int), H p = none → Ex H H1 → H1 p = some (.lst (ns.map V.int)) → ns.length = n → (∀ x ∈ ns, G x) → tz D (σ.set i (some (.ref p))) H1) : tSeq (tAsg te (gName i)) tz D σ H := h H (Ex.refl H) _ k
theorem q_asgI {i : Nat} {G : Int → Prop} (h : EvI te σ H G) (k : ∀ H1 (n : Int), Ex H H1 → G n → tz D (σ.set i (some (.int n))) H1) : tSeq (tAsg te (gName i)) tz D σ H := h H (Ex.refl H) _ k
/-- xs[a:b] -/
theorem el_slice {p : Addr} {xs : List V} {lo hi : Option Int} (h : Ev te σ H (.ref p)) (hx : SqL K H p xs) {tlo thi : TO} (hl : EvO tlo σ H lo) (hh : EvO thi σ H hi) : EvL (tSl (rSlL K) te tlo thi) σ H (cutV xs lo hi) := fun H1 e Q q =>
  h H1 e _ fun H2 e2 => hl H2 (e.trans e2) _ fun H3 e3 => hh H3 ((e.trans e2).trans e3) _ fun H4 e4 => ⟨p, xs, rfl, ex_l (((e.trans e2).trans e3).trans e4) hx, fun l hl => q l _ (fresh_back ((e2.trans e3).trans e4) hl) (((e2.trans e3).trans e4).trans (Ex.new hl)) upd_same⟩
theorem evo_none : EvO tNoPart σ H none := fun H1 _ Q q => q H1 (Ex.refl H1)
theorem evo_some {n : Int} (h : Ev te σ H (.int n)) : EvO (tPart te) σ H (some n) := fun H1 e Q q => h H1 e _ fun H2 e2 => ⟨n, rfl, q H2 e2⟩
theorem cut_to (xs : List V) (n : Nat) : cutV xs none (some (n : Int)) = xs.take n := by
  unfold cutV
  rw [HT.sIx_none, HT.sIx_nat]
  show ((xs.drop 0).take (min n xs.length - 0)) = xs.take n
  rw [List.drop_zero, Nat.sub_zero]
  rcases Nat.le_total n xs.length with h | h
  · rw [Nat.min_eq_left h]
  · rw [Nat.min_eq_right h, List.take_length, List.take_of_length_le h]
/-- max(a, b) -/
theorem ev_max2 {i j : Int} {ta : TA} (h : EvA ta σ H [.int i, .int j]) : Ev (tCB (fun xs H Q => ∃ i j, xs = [V.int i, V.int j] ∧ Q (.int (if j > i then j else i)) H) ta) σ H (.int (if j > i then j else i)) := fun H1 e Q q =>
  h H1 e _ fun H2 e2 => ⟨i, j, rfl, q H2 e2⟩
theorem ev_min2 {i j : Int} {ta : TA} (h : EvA ta σ H [.int i, .int j]) : Ev (tCB (fun xs H Q => ∃ i j, xs = [V.int i, V.int j] ∧ Q (.int (if j < i then j else i)) H) ta) σ H (.int (if j < i then j else i)) := fun H1 e Q q =>
  h H1 e _ fun H2 e2 => ⟨i, j, rfl, q H2 e2⟩
/-- isinstance(x, T) of an int -/
theorem ev_isi {ta : TE} {i : Int} {T : String} {b : Bool} (h : Ev ta σ H (.int i)) (hk : PySem.W.kitOne K (.type "int") (.type T) = some b) : Ev (tCB (rIsi K) (tCons ta (tCons (tC (.ty T)) tNil))) σ H (.bl b) := fun H1 e Q q =>
  h H1 e _ fun H2 e2 => ⟨.int i, .ty T, .type "int", .type T, b, rfl, .ty T, .base (.int i), hk, q H2 e2⟩
/-- for x in a new list -/
theorem gets_listN {xs : List V} {R : It → Hp → Prop} (h : EvL te σ H xs) (k : ∀ p H1, H p = none → Ex H H1 → H1 p = some (.lst xs) → R (Itl K p) H1) : iList K te σ H R := h H (Ex.refl H) _ fun p H1 hp e h1 => ⟨p, rfl, ⟨xs, sq_of h1⟩, k p H1 hp e h1⟩
/-- xs[::-1] -/
theorem el_rev {p : Addr} {xs : List V} (h : Ev te σ H (.ref p)) (hx : SqL K H p xs) : EvL (tRevL K te) σ H xs.reverse := fun H1 e Q q =>
  h H1 e _ fun H2 e2 => ⟨p, xs, rfl, ex_l (e.trans e2) hx, fun l hl => q l _ (fresh_back e2 hl) (e2.trans (Ex.new hl)) upd_same⟩
/-- while, by a word that falls, told with what the loop's turn wants -/
theorem s_setLI {l : Addr} {xs : List V} {j : Nat} (hl : H l = some (.lst xs)) (h : Ev te σ H v) (ho : Ev ta σ H (.ref l)) (hi : Ev tb σ H (.int (j : Int))) (hj : j < xs.length) (k : ∀ H1, Ex H H1 → D.nx σ (upd H1 l (.lst (xs.set j v)))) : tAsg te (gSub ta tb rSetL) D σ H := s_setL hl h ho hi hj k
/-- the truth of a bool -/
theorem et_truB {b : Bool} (h : Ev te σ H (.bl b)) : EvT (fun σ H Q => te σ H fun x H' => ∃ k, TruV K x H' k ∧ Q k H') σ H b := fun H1 e Q q => h H1 e _ fun H2 e2 => ⟨b, rfl, q H2 e2⟩
end
section
variable {X : Cx} {pos : Pos} {K : PySem.W.Frag}
theorem pe_revLK (h0 : X.K = K) {e : Expr} {te : TE} {k : Nat} {p1 p2 p3 pos : Pos} (he : PE X e te) : PE X (.Subscript e (.Slice none none (some (.UnaryOp .USub (.Constant (.int 1) k p1) p2)) p3) pos) (tRevL K te) := h0 ▸ pe_revL he
theorem call_isiK2 (h : X.K = K) : CallR X (.builtin "isinstance") (rIsi K) := h ▸ call_isi
theorem sl_listK (h : X.K = K) : SlR X (rSlL K) := h ▸ sl_list
theorem cr_maxK (h : X.K = K) (hc : X.calm = true) : CallR X (.builtin "max") (rMax K) := h ▸ cr_max hc
end
end My
namespace My
open PySem L2 Evl
theorem el_is {te : TE} {σ : L2.St} {H : Hp} {xs ys : List V} (h : EvL te σ H xs) (e : xs = ys) : EvL te σ H ys := e ▸ h
end My
namespace My
open PySem L2 Evl
section
variable {σ : L2.St} {H : Hp} {te : TE} {D : Ends} {tz : TS}
theorem evp_cons2 {p : Nat} {k z : Int} {ps : List (Nat × Int)} {tr : TA} (hz : z = (p : Int)) (hr : EvP tr σ H ps) : EvP (tCons (tTup (tCons (tC (.int z)) (tCons (tC (.int k)) tNil))) tr) σ H ((p, k) :: ps) := by
  subst hz
  exact evp_cons (eu_tup (ea_cons ev_c (ea_cons ev_c ea_nil)) (by show 2 ≤ 100000; decide)) hr
theorem q_asgPs {i : Nat} {ps : List (Nat × Int)} {ta : TA} (h : EvP ta σ H ps) (hl : ps.length ≤ 100) (k : ∀ o H1 vs, H o = none → Ex H H1 → H1 o = some (.lst vs) → PairsAt H1 vs ps → tz D (σ.set i (some (.ref o))) H1) : tSeq (tAsg (tLst ta) (gName i)) tz D σ H :=
  h H (Ex.refl H) _ fun vs H1 e1 hP => ⟨sz_of (by have := hP.len; omega), fun o no => k o _ vs (fresh_back e1 no) (e1.trans (Ex.new no)) upd_same (hP.mono (Ex.new no))⟩
end
end My
namespace My
open PySem PySem.Spec L2 Evl Mi
section
variable {K : PySem.W.Frag} {σ : L2.St} {H : Hp} {ta tb tc te : TE} {x y z v : V} {D : Ends} {tz tu : TS}
/-- max(..) of a new list -/
theorem ev_maxL {ns : List Int} (h : EvL te σ H (ns.map V.int)) (h0 : ns ≠ []) : Ev (tCB (rMax K) (tCons te tNil)) σ H (.int (maxI ns)) := fun H1 e Q q =>
  h H1 e _ fun p H2 hp e2 h2 => ⟨p, ns, rfl, sq_of h2, List.length_pos_iff.mpr h0, fun m hm hle => by rw [maxI_eq hm hle]; exact q H2 e2⟩
/-- f(x, [..], [..]) -/
theorem el_call3LL {sp : Sp} {E : XK} {xs ys zs : List V} (ha : Ev ta σ H x) (hb : EvL tb σ H ys) (hc : ∀ H1, Ex H H1 → EvL tc σ H1 zs) (hs : ∀ b c H1, Ex H H1 → H1 b = some (.lst ys) → H1 c = some (.lst zs) → ∀ Q : VK, RetL xs H1 Q → ∀ E, sp [x, .ref b, .ref c] H1 Q E) :
    EvL (tCall sp [] E (tCons ta (tCons tb (tCons tc tNil)))) σ H xs := fun H1 e Q q =>
  ha H1 e _ fun H2 e2 => hb H2 (e.trans e2) _ fun b H3 nb e3 h3 => hc H3 ((e.trans e2).trans e3) H3 (Ex.refl H3) _ fun c H4 nc e4 h4 =>
    hs b c H4 (((e.trans e2).trans e3).trans e4) (e4 b _ h3) h4 Q (fun p H5 hp e5 h5 => q p H5 (fresh_back ((e2.trans e3).trans e4) hp) (((e2.trans e3).trans e4).trans e5) h5) E
end
/-- pairs of values at addresses -/
def PairsV (H : Hp) : List V → List (V × V) → Prop := Paired (fun x q => ∃ t, x = V.ref t ∧ H t = some (.tup [q.1, q.2]))
theorem PairsV.mono {H H' : Hp} (e : Ex H H') : ∀ {xs : List V} {ps : List (V × V)}, PairsV H xs ps → PairsV H' xs ps
  | _, _, .nil => .nil
  | _, _, .cons ⟨t, h1, h2⟩ r => .cons ⟨t, h1, e _ _ h2⟩ (PairsV.mono e r)
theorem PairsV.get {H : Hp} : ∀ {xs : List V} {ps : List (V × V)} {i : Nat} {x : V}, PairsV H xs ps → xs[i]? = some x → ∃ q, ps[i]? = some q ∧ ∃ t, x = V.ref t ∧ H t = some (.tup [q.1, q.2])
  | _, _, _, _, .nil, e => by simp at e
  | _, _, 0, _, .cons (b := q) r _, e => by simp at e; subst e; exact ⟨q, rfl, r⟩
  | _, _, i + 1, x, .cons _ t, e => by
    obtain ⟨q, h1, h2⟩ := PairsV.get (i := i) (x := x) t (by simpa using e)
    exact ⟨q, by simpa using h1, h2⟩
theorem PairsV.len {H : Hp} : ∀ {xs : List V} {ps : List (V × V)}, PairsV H xs ps → xs.length = ps.length
  | _, _, .nil => rfl
  | _, _, .cons _ t => congrArg (· + 1) (PairsV.len t)
def EvPV (ta : TA) (σ : L2.St) (H : Hp) (ps : List (V × V)) : Prop := ∀ H1, Ex H H1 → ∀ Q : List V → Hp → Prop, (∀ vs H2, Ex H1 H2 → PairsV H2 vs ps → Q vs H2) → ta σ H1 Q
section
variable {K : PySem.W.Frag} {σ : L2.St} {H : Hp} {te : TE} {x y : V} {D : Ends} {tz tu : TS}
theorem evpv_nil : EvPV tNil σ H [] := fun H1 _ Q q => q _ H1 (Ex.refl H1) .nil
theorem evpv_cons {ps : List (V × V)} {tr : TA} (h : EvU te σ H [x, y]) (hr : EvPV tr σ H ps) : EvPV (tCons te tr) σ H ((x, y) :: ps) := fun H1 e Q q =>
  h H1 e _ fun a H2 _ e2 h2 => hr H2 (e.trans e2) _ fun vs H3 e3 hP => q _ H3 (e2.trans e3) (.cons ⟨a, rfl, e3 a _ h2⟩ hP)
/-- for a, b in [(..), ..] -/
theorem q_forPV {ps : List (V × V)} {ta : TA} {j l : Nat} (h : EvPV ta σ H ps) (hl : ps.length ≤ 100) (Pv : Hp → Nat → L2.St → Hp → Prop) (h0 : ∀ H1, Ex H H1 → Pv H1 0 σ H1) (hE : ∀ H1 i σ' H', Pv H1 i σ' H' → Ex H1 H')
    (hs : ∀ H1 i x y σ' H', ps[i]? = some (x, y) → Pv H1 i σ' H' → tu { D with nx := Pv H1 (i + 1), ct := Pv H1 (i + 1), bk := tz D } ((σ'.set j (some x)).set l (some y)) H') (hd : ∀ H1 σ' H', Pv H1 ps.length σ' H' → tz D σ' H') :
    tSeq (tFor (iList K (tLst ta)) (gTup K 2 (gCons (gName j) (gCons (gName l) gNil))) tu) tz D σ H :=
  h H (Ex.refl H) _ fun vs H1 e1 hP => ⟨sz_of (by have := hP.len; omega), fun o no => by
    have hP2 := hP.mono (Ex.new (o := .lst vs) no)
    have hlen := hP2.len
    refine ⟨o, rfl, ⟨vs, sq_of upd_same⟩, for_it (walk_list (xs := vs)) (Pv (upd H1 o (.lst vs))) (h0 _ (e1.trans (Ex.new no))) (fun i σ' H' _ p => ex_l (hE _ _ _ _ p) (sq_of upd_same)) ?_ (fun σ' H' p => hd _ σ' H' (by rw [← hlen]; exact p))⟩
    rintro i v σ' H' H2 hi p ⟨rfl, hv⟩
    obtain ⟨⟨x, y⟩, hq, t, rfl, ht⟩ := hP2.get hv
    exact g_pair (st_of (hE _ _ _ _ p t _ ht)) (hs _ i x y σ' _ hq p)⟩
end
end My
/-! a law's own frame, of which it is known that nothing is being shown: repr of what it holds -/
namespace L2
open PySem PySem.Spec PyProof.Rows
structure FnG (P : Program) (w : World) (K : PySem.W.Frag) (mg : Str → Option Value) (base : Heap) (CX : CXT) (k : Nat) (f : Addr) (fd : FuncData) (ps : List Str) (sp : Sp) : Prop where
  len : ∀ vs H Q E, sp vs H Q E → vs.length = ps.length
  run : ∀ (A : Around) (_ : A.guards = some []) (outer : List Env) (s : Shared) (H : Hp) (args : Args) (us : List Value) (vs : List V) (Q : VK) (E : XK), Room k A → Env0 P w K mg base A outer s H → BindsTo s fd args (ps.zip us) → Vals vs us → sp vs H Q E →
    codeAny (model P w) A (.call (.ref f) args) (CR CX outer P w H s Q E) s

theorem fn_ofG {CX : CXT} {P : Program} {w : World} {K : PySem.W.Frag} {mg : Str → Option Value} {base : Heap} {k : Nat} {f : Addr} {name qual : Str} {params : Arguments} {body : List Stmt} {scope : Scope} {dV kV doc pm cdv ct oc : Value} {an od : Option Addr}
    {osl : Array (Option Value)} {N ps : List Str} {sp : Sp} (lk : K.lookup f = some ⟨oc, od, .func (PySem.W.fnOf name qual params body scope dV kV doc pm an cdv ct), osl⟩) (hcd : PySem.W.codeIn K cdv qual = true) (S : FnScope N ps scope)
    (len : ∀ vs H Q E, sp vs H Q E → vs.length = ps.length)
    (hbody : ∀ (A : Around) (_ : A.guards = some []) (outer : List Env) (s : Shared) (H : Hp) (vs : List V) (Q : VK) (E : XK), Room k (A.deeper (envOfC qual scope s.heap.objs.size f cdv)) → sp vs H Q E →
      ∃ t, PSs (cxOf CX P w K mg base N qual scope f cdv A outer s H E) body t ∧ t { nx := fun _ H' => Q .non H', rt := Q } (start N vs) H) :
    FnG P w K mg base CX (k + 1) f (PySem.W.fnOf name qual params body scope dV kV doc pm an cdv ct) ps sp := by
  refine ⟨len, fun A gA outer s H args us vs Q E hr e0 hb r hsp => ?_⟩
  have hl := len _ _ _ _ hsp
  have KX : K.In s.heap := e0.mod.kin.keeps fun b o e => (e0.bs b o e).1
  have lim : s.heap.NoLimit := e0.mod.nolimit.keeps fun b o e => (e0.bs b o e).1
  have hkind : ∀ y ∈ ps.zip us, scope.names.lookup y.1 = some .local ∨ (scope.names.lookup y.1 = some .cell ∧ ((cellsFrom (s.heap.objs.size + 1) scope.names []).lookup y.1).isSome = true) := fun ⟨n, v⟩ hy => by
    rcases S.par n (List.of_mem_zip hy).1 with q | q
    · exact .inl q
    · exact .inr ⟨q, PySem.W.cellsFrom_some _ _ _ (.inl q)⟩
  refine codeAny_call_function hr.depth (KX _ _ lk) rfl S.co S.gen rfl (PySem.W.codeRec_of KX hcd) (hb _ _ _ _ ?_)
  refine wpAny_newFunctionEnv_cells S.kind hkind fun env he s1 x => ?_
  subst he
  refine ⟨lim.keeps x.toInCall.keep, codeAny_func ?_⟩
  obtain ⟨t, ht, hq⟩ := hbody A gA outer s H vs Q E (hr.deeper _) hsp
  have I : Inv (cxOf CX P w K mg base N qual scope f cdv A outer s H E) [] (start N vs) H s1 := inv_start S hr.hd e0 hl r x
  refine wpAny_mono (ht.run [] s1 (start N vs) H _ I hq) (fun fl s' hs => ?_) fun e s' hs => hs
  have fin : ∀ {σ' : St} {H' : Hp} {v : V} {u : Value}, Inv (cxOf CX P w K mg base N qual scope f cdv A outer s H E) [] σ' H' s' → RelV v u → Q v H' → CE outer P w H s Q u s' :=
    fun {σ' H' v u} J rv q => ⟨v, H', J.os, J.bare, J.base, J.hok, rv, q⟩
  cases fl with
  | ret u =>
    obtain ⟨v, σ', H', J, rv, q⟩ := hs
    exact fin J rv q
  | next =>
    obtain ⟨σ', H', J, q⟩ := hs
    exact fin (v := V.non) (u := Value.none) J rfl q
  | brk =>
    obtain ⟨_, _, _, q⟩ := hs
    exact False.elim q
  | cont =>
    obtain ⟨_, _, _, q⟩ := hs
    exact False.elim q
theorem law_callG {P : Program} {w : World} {K : PySem.W.Frag} {mg mb : Str → Option Value} {CX : CXT} {k : Nat} {fa a : Addr} {fd : FuncData} {x : Str} {sp : Sp} {s₁ : Shared} {vs : List Value} {ns : List Int}
    (KX : K.In s₁.heap) (hns : s₁.heap.Ns mainGlobals mg) (hb : s₁.heap.Ns builtinsNs mb) (hbb : ∀ x : Str, x ≠ "__name__" → mb x = bootBuiltins x) (hlim : s₁.heap.NoLimit) (hg : s₁.gens = #[])
    (ha : s₁.heap.get? a = some { cls := .type "list", data := .seq vs.toArray }) (hi : IntsAre vs ns) (hl : ns.length ≤ sizeLine) (hr : Room k callerA)
    (F : ∀ base : Heap, K.In base → base.Ns mainGlobals mg → FnG P w K mg base CX k fa fd [x] sp) (hbind : ∀ (s : Shared) (u : Value), BindsTo s fd ⟨[u], []⟩ [(x, u)])
    (hsp : ∀ H : Hp, Only H → SqL K H a (ns.map V.int) → sp [.ref a] H (fun v _ => v = .bl true) fun _ _ _ => False)
    (hCX : ∀ H e s', CX [] H s₁ (fun _ _ _ => False) e s' → False) :
    codeAny (model P w) callerA (.call (.ref fa) ⟨[.ref a], []⟩) (fun r s' => r = .ok (.ret (.bool true)) ∧ OldK s₁.heap s'.heap ∧ s'.os = s₁.os ∧ AllBare s'.gens) s₁ := by
  have rv := vals_ints hi
  have lenV := hi.length
  -- from an abstract heap in which nothing but the script may be tracked
  have core : ∀ H : Hp, Only H → SqL K H a (ns.map V.int) → HOk P w H s₁.heap → (∀ b, H b ≠ none → b = a) → (H a ≠ none → K.lookup a = none) →
      codeAny (model P w) callerA (.call (.ref fa) ⟨[.ref a], []⟩) (fun r s' => r = .ok (.ret (.bool true)) ∧ OldK s₁.heap s'.heap ∧ s'.os = s₁.os ∧ AllBare s'.gens) s₁ := by
    intro H hO hS hok hA hK
    have base_of : ∀ {b : Addr} {o : Obj}, s₁.heap.get? b = some o → H b = none → (hidT s₁.heap H).get? b = some o := fun e n => hidT_get e n
    have noA : ∀ {b : Addr} {o : Obj} {es : Array DictEntry} {ep : Nat}, s₁.heap.get? b = some o → o.data = .dict es ep → H b = none := fun {b o es ep} e d => by
      cases q : H b with
      | none => rfl
      | some u =>
        have e' : b = a := hA b (by rw [q]; simp)
        subst e'
        rw [ha] at e; cases e
        have d' : Data.seq vs.toArray _ = Data.dict es ep := d
        cases d'
    have nsK : ∀ {b : Addr} {m : Str → Option Value}, s₁.heap.Ns b m → (hidT s₁.heap H).Ns b m := fun {b m} ⟨o, es, ep, e, d, r⟩ => ⟨o, es, ep, base_of e (noA e d), d, r⟩
    have hKb : K.In (hidT s₁.heap H) := fun b o e => base_of (KX b o e) (by
      cases q : H b with
      | none => rfl
      | some u =>
        have e' : b = a := hA b (by rw [q]; simp)
        subst e'
        rw [hK (by rw [q]; simp)] at e; cases e)
    have hM : Mod K mg (hidT s₁.heap H) := ⟨hKb, nsK hns, ⟨mb, nsK hb, hbb⟩, let ⟨mc, h1, h2⟩ := hlim; ⟨mc, nsK h1, h2⟩⟩
    have e0 : Env0 P w K mg (hidT s₁.heap H) callerA [] s₁ H := ⟨rfl, hM, fun b o e => of_hidT e, Nat.le_of_eq (hidT_size _ _), trivial, fun b hb => absurd (show b ∈ ([] : List Addr) from hb) (by simp), hok, .of_eq hg⟩
    refine codeAny_mono ((F _ hKb (nsK hns)).run callerA rfl [] s₁ H ⟨[.ref a], []⟩ [.ref a] [.ref a] _ _ hr e0 (hbind s₁ (.ref a)) (.cons rfl .nil) (hsp H hO hS)) fun r s' h => ?_
    cases r with
    | error e => exact (hCX H e s' h).elim
    | ok fl =>
      cases fl with
      | next => exact False.elim h
      | brk => exact False.elim h
      | cont => exact False.elim h
      | ret u =>
        obtain ⟨v, H', os, bare, un, hok', r', q⟩ := h
        have q' : v = .bl true := q
        subst q'
        obtain rfl : u = Value.bool true := r'
        refine ⟨rfl, OldK.of_keep fun b o e => ?_, os, bare⟩
        cases q : H b with
        | none => exact un.keep b o e q (by intro z; exact absurd (show b ∈ ([] : List Addr) from z) (by simp)) (by simp)
        | some u =>
          rcases hO b with z | ⟨ob, xs, z⟩
          · rw [q] at z; cases z
          · have z2 := un.frzs b ob _ z
            obtain ⟨e1, _⟩ := hok b _ z
            obtain ⟨e2, _⟩ := hok' b _ z2
            rw [e] at e1; cases e1
            exact e2
  cases hk : K.lookup a with
  | some o =>
    -- the script is one of the module's own objects
    have e := KX a o hk
    rw [ha] at e
    cases e
    refine core (fun _ => none) (fun _ => .inl rfl) (.inr ⟨_, vs.toArray, _, hk, rfl, rfl, rfl, by rw [List.size_toArray, lenV]; exact hl, by simpa using rv⟩) (fun b u z => by have z' : (none : Option HO) = some u := z; cases z') (fun b z => absurd rfl z) fun z => absurd rfl z
  | none =>
    refine core (fun b => if b = a then some (.frz { cls := .type "list", data := .seq vs.toArray } (.lst (ns.map V.int))) else none) (fun b => ?_) (.inl (.inr ⟨{ cls := .type "list", data := .seq vs.toArray }, if_pos rfl⟩)) (fun b u z => ?_) (fun b z => ?_) fun _ => hk
    · by_cases hb : b = a
      · exact .inr ⟨_, _, if_pos hb⟩
      · exact .inl (if_neg hb)
    · by_cases hb : b = a
      · have z' := (if_pos hb).symm.trans z
        cases z'
        subst hb
        exact ⟨ha, by rw [List.length_map]; exact hl, vs, _, rv, ha⟩
      · have z' := (if_neg hb).symm.trans z
        cases z'
    · by_cases hb : b = a
      · exact hb
      · exact absurd (if_neg hb) z
theorem walk_ofG {l : PySem.W.OpenLaw} {n k : Nat} {q : Program} {loose : List Str} {XP : (Str → Option Value) → Heap → Prop} {YP : World → Heap → Prop} {d : DefRec} {K : Params → PySem.W.Frag} {CX : World → CXT} {sp : World → Sp} {x : Str}
    (hn : l.most = some n) (hn2 : n ≤ sizeLine) (hdf : d.params.defaults = []) (hr : Room k callerA)
    (hY : ∀ (w : World) (h : Heap), YP w h → (K w.params).In h)
    (F : ∀ (w : World) (mg : Str → Option Value) (fa : Addr) (h : Heap), (K w.params).In h → h.Ns mainGlobals mg → mg d.name = some (.ref fa) →
      ∃ fd : FuncData, (∀ (s : Shared) (u : Value), BindsTo s fd ⟨[u], []⟩ [(x, u)]) ∧
        ∀ base : Heap, (K w.params).In base → base.Ns mainGlobals mg → FnG l.prog w (K w.params) mg base (CX w) k fa fd [x] (sp w))
    (hsp : ∀ (w : World) (H : Hp) (a : Addr) (ns : List Int), ns.length ≤ n → Only H → SqL (K w.params) H a (ns.map V.int) → sp w [.ref a] H (fun v _ => v = .bl true) fun _ _ _ => False)
    (hCX : ∀ (w : World) (H : Hp) (s : Shared) (e : Value) (s' : Shared), CX w [] H s (fun _ _ _ => False) e s' → False) :
    PySem.W.WalkO q loose XP YP l.row.toRowW d [] (fun f vs => PySem.call f vs) := by
  refine Att.attach_call hn hdf fun w s₀ s₁ mg mb fa o pm cd doc a vs ns G Y ho hd hcd hmg hobj hints hlen hg => ?_
  have KX := hY w _ Y
  obtain ⟨fd, hb, hF⟩ := F w mg fa _ KX G.T.g hmg
  exact law_callG KX G.T.g G.T.b G.T.builtins G.T.nolimit hg hobj hints (Nat.le_trans hlen hn2) hr hF hb (fun H hO hS => hsp w H a ns hlen hO hS) fun H e s' => hCX w H s₁ e s'
theorem Fun.okG {P : Program} {w : World} {K : PySem.W.Frag} {mg : Str → Option Value} {base : Heap} {x qual : Str} {st : Stmt} {f : Addr} {fd : FuncData} {N ps : List Str} {k : Nat} {sp : Sp} (F : Fun K x qual st f fd) (S : FnScope N ps (defScope st)) (len : ∀ vs H Q E, sp vs H Q E → vs.length = ps.length)
    (hbody : ∀ (cdv : Value) (A : Around) (_ : (A.deeper (envOfC qual (defScope st) 0 f cdv)).guards = some []) (outer : List Env) (s : Shared) (H : Hp) (vs : List V) (Q : VK) (E : XK), Room k (A.deeper (envOfC qual (defScope st) s.heap.objs.size f cdv)) → sp vs H Q E →
      ∃ t, PSs (cxOf CX0 P w K mg base N qual (defScope st) f cdv A outer s H E).nox (defBody st) t ∧ t { nx := fun _ H' => Q .non H', rt := Q } (start N vs) H) : FnG P w K mg base CX0 (k + 1) f fd ps sp := by
  obtain ⟨oc, od, kV, doc, pm, an, cdv, ct, osl, rfl, lk, hcd⟩ := F.ex
  refine fn_ofG lk hcd S len fun A gA outer s H vs Q E hr hsp => ?_
  obtain ⟨t, h, q⟩ := hbody cdv A (by show A.guards = some []; exact gA) outer s H vs Q E hr hsp
  exact ⟨t, h.nox, q⟩
/-- repr of data -/
def rRepr (K : PySem.W.Frag) : List V → Hp → VK → Prop := fun xs H Q => ∃ (x : V) (d : PyData), xs = [x] ∧ Dp K H x d ∧ d.showable = true ∧ d.hasDict = false ∧ d.depth ≤ 60 ∧ d.shown.length ≤ sizeLine ∧ Q (.str d.shown) H
theorem call_repr {X : Cx} (hg : X.A.guards = some []) (hu : X.A.units + 64 < cLine) : CallR X (.builtin "repr") (rRepr X.K) := by
  intro pins s σ H xs us Q I r h
  obtain ⟨x, d, rfl, hd, h1, h2, h3, h4, q⟩ := h
  obtain ⟨u, rfl, ru⟩ := vals1 r
  cases d with
  | none => cases hd; cases ru; exact PySem.P.repr_of_none ⟨.str _, H, I.tok _, ⟨_, rfl⟩, q⟩
  | bool b =>
    cases hd; cases ru
    refine PySem.P.repr_of_bool ⟨.str _, H, I.tok _, ⟨_, rfl⟩, ?_⟩
    exact q
  | int i =>
    cases hd
    obtain ⟨t, rfl⟩ := ru
    exact PySem.P.repr_of_int (by simpa [PyData.showable] using h1) ⟨.str _, H, I.tok _, ⟨_, rfl⟩, q⟩
  | str z =>
    cases hd
    obtain ⟨t, rfl⟩ := ru
    exact PySem.P.repr_of_str ⟨.str _, H, I.tok _, ⟨_, rfl⟩, q⟩ h4
  | list ds =>
    obtain ⟨as, rd⟩ := Dp.reads I _ x u hd ru
    cases hd with
    | lst a1 a2 =>
      cases ru
      exact repr_of_reads' rd h1 (fun z => by rw [h2] at z; cases z) hg (by omega) (fun b o e => e) (fun h' u tk hk => ⟨.str _, H, I.kept (t' := tk) hk, ⟨_, rfl⟩, q⟩) h4
  | tuple ds =>
    obtain ⟨as, rd⟩ := Dp.reads I _ x u hd ru
    cases hd with
    | tup a1 a2 =>
      cases ru
      exact repr_of_reads' rd h1 (fun z => by rw [h2] at z; cases z) hg (by omega) (fun b o e => e) (fun h' u tk hk => ⟨.str _, H, I.kept (t' := tk) hk, ⟨_, rfl⟩, q⟩) h4
  | dict kvs => cases h2
end L2
namespace My
open PySem PySem.Spec PyProof.Rows L2 Evl
section
variable {K : PySem.W.Frag} {σ : L2.St} {H : Hp} {ta te : TE} {D : Ends} {tz : TS}
/-- tuple(..) of a new list -/
theorem eu_tupleN {xs : List V} (ha : EvL ta σ H xs) : EvU (tCB (fun vs H Q => ∃ p ys, vs = [V.ref p] ∧ ((SqL K H p ys ∧ ∀ l, H l = none → Q (.ref l) (upd H l (.tup ys))) ∨ (SqT K H p ys ∧ Q (.ref p) H))) (tCons ta tNil)) σ H xs := fun H1 e Q q =>
  ha H1 e _ fun p H2 hp e2 h2 => ⟨p, xs, rfl, .inl ⟨sq_of h2, fun l hl => q l _ (fresh_back e2 hl) (e2.trans (Ex.new hl)) upd_same⟩⟩
/-- repr of data: of a value that stands, of a new tuple -/
theorem ev_repr {x : V} {d : PyData} {ta : TA} (h : EvA ta σ H [x]) (hd : ∀ H1, Ex H H1 → Dp K H1 x d) (h1 : d.showable = true) (h2 : d.hasDict = false) (h3 : d.depth ≤ 60) (h4 : d.shown.length ≤ sizeLine) : Ev (tCB (rRepr K) ta) σ H (.str d.shown) := fun H1 e Q q =>
  h H1 e _ fun H2 e2 => ⟨x, d, rfl, hd H2 (e.trans e2), h1, h2, h3, h4, q H2 e2⟩
theorem ev_reprU {xs : List V} {d : PyData} (h : EvU te σ H xs) (hd : ∀ p H1, Ex H H1 → H1 p = some (.tup xs) → Dp K H1 (.ref p) d) (h1 : d.showable = true) (h2 : d.hasDict = false) (h3 : d.depth ≤ 60) (h4 : d.shown.length ≤ sizeLine) : Ev (tCB (rRepr K) (tCons te tNil)) σ H (.str d.shown) := fun H1 e Q q =>
  h H1 e _ fun p H2 _ e2 hp => ⟨.ref p, d, rfl, hd p H2 (e.trans e2) hp, h1, h2, h3, h4, q H2 e2⟩
theorem ev_reprL {xs : List V} {d : PyData} (h : EvL te σ H xs) (hd : ∀ p H1, Ex H H1 → H1 p = some (.lst xs) → Dp K H1 (.ref p) d) (h1 : d.showable = true) (h2 : d.hasDict = false) (h3 : d.depth ≤ 60) (h4 : d.shown.length ≤ sizeLine) : Ev (tCB (rRepr K) (tCons te tNil)) σ H (.str d.shown) := fun H1 e Q q =>
  h H1 e _ fun p H2 _ e2 hp => ⟨.ref p, d, rfl, hd p H2 (e.trans e2) hp, h1, h2, h3, h4, q H2 e2⟩
/-- the data of a list of pints -/
def pints (ns : List Int) : List PyData := ns.map PyData.int
theorem dpAll_ints {K : PySem.W.Frag} {H : Hp} : ∀ ns : List Int, DpAll K H (ns.map V.int) (pints ns)
  | [] => .nil
  | n :: ns => .cons (.int n) (dpAll_ints ns)
theorem dp_tupI {K : PySem.W.Frag} {H : Hp} {a : Addr} {ns : List Int} (h : SqT K H a (ns.map V.int)) : Dp K H (.ref a) (.tuple (pints ns)) := .tup h (dpAll_ints ns)
theorem dp_lstI {K : PySem.W.Frag} {H : Hp} {a : Addr} {ns : List Int} (h : SqL K H a (ns.map V.int)) : Dp K H (.ref a) (.list (pints ns)) := .lst h (dpAll_ints ns)
theorem log2_small {n : Int} (h : n.natAbs < 2 ^ 64) : n.natAbs.log2 < 1920 := Nat.lt_of_lt_of_le (PySem.Flt.log2_lt_of (by decide) h) (by decide)
theorem showAll_ints : ∀ ns : List Int, (∀ x ∈ ns, x.natAbs < 2 ^ 64) → PyData.showableAll (pints ns) = true
  | [], _ => rfl
  | n :: ns, h => by
    show (decide (n.natAbs.log2 < 1920) && PyData.showableAll (pints ns)) = true
    rw [decide_eq_true (log2_small (h n (List.mem_cons_self ..))), showAll_ints ns fun x hx => h x (List.mem_cons_of_mem _ hx)]; rfl
theorem dictAll_ints : ∀ ns : List Int, PyData.hasDictAll (pints ns) = false
  | [] => rfl
  | n :: ns => by show (PyData.hasDict (.int n) || PyData.hasDictAll (pints ns)) = false; rw [dictAll_ints ns]; rfl
theorem depthAll_ints : ∀ ns : List Int, PyData.depthAll (pints ns) = 0
  | [] => rfl
  | n :: ns => by show max 0 (PyData.depthAll (pints ns)) = 0; rw [depthAll_ints ns]; rfl
end
section
variable {X : Cx} {K : PySem.W.Frag}
theorem call_reprK (h : X.K = K) (hg : X.A.guards = some []) (hu : X.A.units + 64 < cLine) : CallR X (.builtin "repr") (rRepr K) := h ▸ call_repr hg hu
end
end My

namespace My
open PySem PySem.Spec PyProof.Rows L2 Evl
theorem shown_len : ∀ ns : List Int, (∀ x ∈ ns, x.natAbs < 2 ^ 64) → ((PyData.shownAll (pints ns)).map (·.length)).sum ≤ 100 * ns.length ∧ (PyData.shownAll (pints ns)).length = ns.length
  | [], _ => ⟨Nat.le_refl _, rfl⟩
  | n :: ns, h => by
    have ih := shown_len ns fun x hx => h x (List.mem_cons_of_mem _ hx)
    have h1 := int_text_length_le (k := 64) (by decide) (PySem.Flt.log2_lt_of (by decide) (h n (List.mem_cons_self ..)))
    have h2 : (PyData.shown (.int n)).length ≤ 65 := by
      show (Str.ofString (toString n)).length ≤ 65
      rw [PySem.ofString_length]; exact h1
    show (((PyData.shown (.int n)) :: PyData.shownAll (pints ns)).map (·.length)).sum ≤ 100 * (ns.length + 1) ∧ (PyData.shownAll (pints ns)).length + 1 = ns.length + 1
    rw [List.map_cons, List.sum_cons]
    omega
theorem shown_tup {ns : List Int} (h : ∀ x ∈ ns, x.natAbs < 2 ^ 64) (hl : ns.length ≤ 1000) : (PyData.shown (.tuple (pints ns))).length ≤ sizeLine := by
  have h1 := shown_len ns h
  have h2 := tupleText_len_le (PyData.shownAll (pints ns))
  show (tupleText (PyData.shownAll (pints ns))).length ≤ sizeLine
  refine Nat.le_trans h2 (Nat.le_trans (m := 103003) ?_ (by decide))
  omega
theorem shown_lst {ns : List Int} (h : ∀ x ∈ ns, x.natAbs < 2 ^ 64) (hl : ns.length ≤ 1000) : (PyData.shown (.list (pints ns))).length ≤ sizeLine := by
  have h1 := shown_len ns h
  have h2 := listText_len_le (PyData.shownAll (pints ns))
  show (listText (PyData.shownAll (pints ns))).length ≤ sizeLine
  refine Nat.le_trans h2 (Nat.le_trans (m := 103003) ?_ (by decide))
  omega
section
variable {K : PySem.W.Frag} {σ : L2.St} {H : Hp} {te ta : TE} {ns : List Int}
theorem ev_reprTI (h : EvU te σ H (ns.map V.int)) (hb : ∀ x ∈ ns, x.natAbs < 2 ^ 64) (hl : ns.length ≤ 1000) : Ev (tCB (rRepr K) (tCons te tNil)) σ H (.str (PyData.shown (.tuple (pints ns)))) :=
  ev_reprU h (fun p H1 _ hp => dp_tupI (st_of hp)) (showAll_ints ns hb) (dictAll_ints ns) (by show PyData.depthAll (pints ns) + 1 ≤ 60; rw [depthAll_ints]; decide) (shown_tup hb hl)
theorem ev_reprTK {p : Addr} (h : Ev te σ H (.ref p)) (hp : SqT K H p (ns.map V.int)) (hb : ∀ x ∈ ns, x.natAbs < 2 ^ 64) (hl : ns.length ≤ 1000) : Ev (tCB (rRepr K) (tCons te tNil)) σ H (.str (PyData.shown (.tuple (pints ns)))) :=
  ev_repr (ea_cons h ea_nil) (fun H1 e => dp_tupI (ex_t e hp)) (showAll_ints ns hb) (dictAll_ints ns) (by show PyData.depthAll (pints ns) + 1 ≤ 60; rw [depthAll_ints]; decide) (shown_tup hb hl)
theorem ev_reprLI (h : EvL te σ H (ns.map V.int)) (hb : ∀ x ∈ ns, x.natAbs < 2 ^ 64) (hl : ns.length ≤ 1000) : Ev (tCB (rRepr K) (tCons te tNil)) σ H (.str (PyData.shown (.list (pints ns)))) :=
  ev_reprL h (fun p H1 _ hp => dp_lstI (sq_of hp)) (showAll_ints ns hb) (dictAll_ints ns) (by show PyData.depthAll (pints ns) + 1 ≤ 60; rw [depthAll_ints]; decide) (shown_lst hb hl)
theorem ev_reprLK {p : Addr} (h : Ev te σ H (.ref p)) (hp : SqL K H p (ns.map V.int)) (hb : ∀ x ∈ ns, x.natAbs < 2 ^ 64) (hl : ns.length ≤ 1000) : Ev (tCB (rRepr K) (tCons te tNil)) σ H (.str (PyData.shown (.list (pints ns)))) :=
  ev_repr (ea_cons h ea_nil) (fun H1 e => dp_lstI (ex_l e hp)) (showAll_ints ns hb) (dictAll_ints ns) (by show PyData.depthAll (pints ns) + 1 ≤ 60; rw [depthAll_ints]; decide) (shown_lst hb hl)
theorem ev_reprInt {n : Int} (h : Ev te σ H (.int n)) (hb : n.natAbs < 2 ^ 64) : Ev (tCB (rRepr K) (tCons te tNil)) σ H (.str (PyData.shown (.int n))) :=
  ev_repr (ea_cons h ea_nil) (fun H1 e => .int n) (decide_eq_true (log2_small hb)) rfl (Nat.zero_le _) (int_text_fits (log2_small hb))
theorem ev_reprBl {b : Bool} (h : Ev te σ H (.bl b)) : Ev (tCB (rRepr K) (tCons te tNil)) σ H (.str (PyData.shown (.bool b))) :=
  ev_repr (ea_cons h ea_nil) (fun H1 e => .bl b) rfl rfl (Nat.zero_le _) (by cases b <;> decide)
theorem ev_reprNon (h : Ev te σ H .non) : Ev (tCB (rRepr K) (tCons te tNil)) σ H (.str (PyData.shown .none)) :=
  ev_repr (ea_cons h ea_nil) (fun H1 e => .non) rfl rfl (Nat.zero_le _) (by decide)
end
end My
/-! defs that may raise -/
namespace My
open PySem PySem.Spec PyProof.Rows L2 Evl
structure Ce (P : Program) (w : World) (K : PySem.W.Frag) (mg : Str → Option Value) (base : Heap) (k : Nat) (x : Str) (sp : Sp) : Prop where
  ex : ∃ (f : Addr) (fd : FuncData) (ps : List Str), FnOk P w K mg base (L2.CX P w) k f fd ps sp ∧ mg x = some (.ref f) ∧ PySem.W.keepIn K (.ref f) = true ∧ Binds K fd ps []
/-- a class of errors as the top has written it -/
structure ErrC (K : PySem.W.Frag) (mg : Str → Option Value) (x : Str) (C : Addr) : Prop where
  gP : mg x = some (.ref C)
  xP : PySem.W.excIn K C [.type "ValueError", .type "Exception", .type "BaseException", .type "object"] "ValueError.__new__" = true
  kP : PySem.W.keepIn K (.ref C) = true
  bP : PySem.W.subIn K (.ref C) (.type "BaseException") = some true
  tP : PySem.W.typeIn K (.ref C) = some (.type "type")
  eP : PySem.W.exmOne K (.ref C) (.ref C) = some true
theorem exm_self {K : PySem.W.Frag} {S : Addr} (h1 : PySem.W.subIn K (.ref S) (.type "BaseException") = some true) (h2 : PySem.W.isClsIn K S = true) (h3 : PySem.W.typeIn K (.ref S) = some (.type "type")) (h4 : PySem.W.subIn K (.ref S) (.ref S) = some true) :
    PySem.W.exmOne K (.ref S) (.ref S) = some true := by
  have e1 : (PySem.W.subIn K (.ref S) (.type "BaseException") == some true) = true := by rw [h1] <;> rfl
  have e2 : ((PySem.W.clsIn K S).isSome && PySem.W.typeIn K (.ref S) == some (.type "type")) = true := by
    have h2' : (PySem.W.clsIn K S).isSome = true := h2
    rw [h2', h3] <;> rfl
  show (if (PySem.W.subIn K (.ref S) (.type "BaseException") == some true) = true then (if ((PySem.W.clsIn K S).isSome && PySem.W.typeIn K (.ref S) == some (.type "type")) = true then PySem.W.subIn K (.ref S) (.ref S) else none) else none) = some true
  rw [if_pos e1, if_pos e2]
  exact h4
section
variable {P : Program} {w : World} {K : PySem.W.Frag} {mg : Str → Option Value} {base : Heap}
theorem Df.okX {x : Str} {st : Stmt} {N ps : List Str} {k : Nat} {sp : Sp} (D : Df K mg x st ps) (S : FnScope N ps (defScope st)) (len : ∀ vs H Q E, sp vs H Q E → vs.length = ps.length)
    (hbody : ∀ (f : Addr) (cdv : Value) (A : Around) (outer : List Env) (s : Shared) (H : Hp) (vs : List V) (Q : VK) (E : XK), Room k (A.deeper (envOfC x (defScope st) s.heap.objs.size f cdv)) → sp vs H Q E →
      ∃ t, PSs (cxOf (L2.CX P w) P w K mg base N x (defScope st) f cdv A outer s H E) (defBody st) t ∧ t { nx := fun _ H' => Q .non H', rt := Q } (start N vs) H) : Ce P w K mg base (k + 1) x sp := by
  obtain ⟨f, fd, F, m, b⟩ := D.ex
  exact ⟨f, fd, ps, F.okX S len (hbody f), m, F.kp, b⟩
end
section
variable {X : Cx} {p p2 pos pos2 : Pos} {e : Expr} {es : List Expr} {x m : Str} {k j i : Nat} {sp : Sp} {t : TA} {W : WX} {C : Addr}
theorem pe_ce (c : Ce X.prog X.w X.K X.mg X.base k x sp) (hr : Room j X.A) (hk : k ≤ j) (hg : Gl X x) (tk : Takes X W) (ha : PA X (e :: es) t)
    (hdb : (x == ("__debug__" : Str)) = false := by decide) (he : starEach (e :: es) X.env = (false, eval e X.env) :: starEach es X.env := by rfl) (hpl : (backTo pos (starEach es X.env)).any (·.1) = false := by rfl) :
    PE X (.Call (.Name x p) (e :: es) [] pos) (tCallS sp (WE W) t) := by
  obtain ⟨f, fd, ps, F, hm, kp, b⟩ := c.ex
  exact pe_callS F (hr.mono hk) hg hm kp b (fun σ => passAt tk σ) ha hdb he hpl
/-- where nothing is raised -/
theorem pe_ce0 (c : Ce X.prog X.w X.K X.mg X.base k x sp) (hr : Room j X.A) (hk : k ≤ j) (hg : Gl X x) (ha : PA X (e :: es) t)
    (hdb : (x == ("__debug__" : Str)) = false := by decide) (he : starEach (e :: es) X.env = (false, eval e X.env) :: starEach es X.env := by rfl) (hpl : (backTo pos (starEach es X.env)).any (·.1) = false := by rfl) :
    PE X (.Call (.Name x p) (e :: es) [] pos) (tCall sp [] L2.E0 t) := by
  obtain ⟨f, fd, ps, F, hm, kp, b⟩ := c.ex
  exact pe_call F (hr.mono hk) hg hm kp b .nil passL ha hdb he hpl
/-- raise X('..') -/
theorem ps_raiseC (hc : X.calm = true) (tk : Takes X W) (T : ErrC X.K X.mg x C) (hg : Gl X x) (hdb : (x == ("__debug__" : Str)) = false := by decide) :
    PS X (.Raise (some (.Call (.Name x p) [.Constant (.str m) i p2] [] pos)) none pos2) (fun _ σ H => W (.ref C) none σ H) :=
  ps_raise hc tk (pmk_own PySem.F.excBase_ValueError T.xP T.gP T.kP (raises_own T.bP T.tP) hg hdb)
end
section
variable {K : PySem.W.Frag} {σ : L2.St} {H : Hp} {ta tb te : TE} {x y v z : V} {D : Ends} {tz : TS} {sp : Sp} {E : L2.St → XK} {t : TA} {vs xs : List V}
theorem ev_callS (h : EvA t σ H vs) (hs : ∀ H1, Ex H H1 → ∀ Q : VK, RetV z H1 Q → sp vs H1 Q (E σ)) : Ev (tCallS sp E t) σ H z := fun H1 e Q q =>
  h H1 e _ fun H2 e2 => hs H2 (e.trans e2) Q fun H3 e3 => q H3 (e2.trans e3)
/-- it raises, whatever is asked behind -/
def EvX (te : TE) (σ : L2.St) (H : Hp) : Prop := ∀ H1, Ex H H1 → ∀ Q : VK, te σ H1 Q
theorem ex_callS (h : EvA t σ H vs) (hs : ∀ H1, Ex H H1 → ∀ Q : VK, sp vs H1 Q (E σ)) : EvX (tCallS sp E t) σ H := fun H1 e Q =>
  h H1 e _ fun H2 e2 => hs H2 (e.trans e2) Q
theorem q_dropX (h : EvX te σ H) : tSeq (tDrop te) tz D σ H := h H (Ex.refl H) _
theorem s_retX (h : EvX te σ H) : tRet te D σ H := h H (Ex.refl H) _
end
end My
namespace My
open PySem PySem.Spec PyProof.Rows L2 Evl
theorem s_dropX {te : TE} {σ : L2.St} {H : Hp} {D : Ends} (h : EvX te σ H) : tDrop te D σ H := h H (Ex.refl H) _
end My
namespace My
open PySem PySem.Spec PyProof.Rows L2 Evl
section
variable {X : Cx} {K : PySem.W.Frag} {σ : L2.St} {H : Hp} {te tl : TE} {t : TT}
theorem cr_allK (h : X.K = K) (hc : X.calm = true) : CallR X (.builtin "all") (rAll K) := h ▸ cr_all hc
/-- all([..]) of a new list of bools -/
theorem ev_allL {bs : List Bool} (h : EvL te σ H (bs.map V.bl)) : Ev (tCB (rAll K) (tCons te tNil)) σ H (.bl (bs.all id)) := fun H1 e Q q =>
  h H1 e _ fun p H2 hp e2 h2 => ⟨p, bs, rfl, sq_of h2, q H2 e2⟩
/-- a comprehension over a tuple -/
theorem el_lcT {a : Addr} {xs : List V} {j : Nat} {vs : List Nat} (f : Nat → Bool) (v : Nat → V) (h : Ev tl σ H (.ref a)) (hx : SqT K H a xs) (hz : xs.length ≤ 40000) (hw : ∀ x, wipe ((wipe σ vs).set j (some x)) vs = wipe σ vs)
    (ht : ∀ (i : Nat) (x : V) H1, Ex H H1 → xs[i]? = some x → EvT t ((wipe σ vs).set j (some x)) H1 (f i)) (he : ∀ (i : Nat) (x : V) H1, Ex H H1 → xs[i]? = some x → f i = true → Ev te ((wipe σ vs).set j (some x)) H1 (v i)) :
    EvL (tLc (iTup K tl) (gName j) t te vs) σ H (given xs.length f v) := fun H0 e Q q =>
  lcW (gets_tup (h.mono e) (ex_t e hx)) (walk_tup (xs := xs)) (fun D i H' => Cw H0 f v D i H') (fun D H1 e1 hD => ⟨fresh_back e1 hD, e1.mut (fresh_back e1 hD), upd_same⟩) (fun D i H' _ p => ex_t (e.trans p.2.1) hx)
    (fun D i x H' H2 hi p y => by
      obtain ⟨rfl, hv⟩ := y
      exact ⟨hw x, cw_turn p (by omega) (ht i x H0 e hv) (fun hf => he i x H0 e hv hf)⟩) (fun D H' p => q D H' p.1 p.2.1 p.2.2)
theorem cut_neg1 (xs : List V) : cutV xs none (some (-1)) = xs.dropLast := by
  unfold cutV
  rw [HT.sIx_none]
  show ((xs.drop 0).take (HT.sIx xs.length xs.length (some (-1)) - 0)) = xs.dropLast
  have e : HT.sIx xs.length xs.length (some (-1)) = xs.length - 1 := by
    show (if (-1 : Int) < 0 then ((-1 : Int) + (xs.length : Int)).toNat else min (-1 : Int).toNat xs.length) = _
    rw [if_pos (by decide)]; omega
  rw [e, List.drop_zero, Nat.sub_zero, List.dropLast_eq_take]
theorem given_const {n : Nat} {v : V} : given n (fun _ => true) (fun _ => v) = List.replicate n v := by
  unfold given
  rw [List.filter_eq_self.mpr (fun _ _ => rfl)]
  apply List.ext_getElem?
  intro i
  rw [List.getElem?_map, List.getElem?_replicate]
  by_cases h : i < n
  · rw [List.getElem?_range h, if_pos h]; rfl
  · rw [List.getElem?_eq_none (by simpa using Nat.not_lt.mp h), if_neg h]; rfl
end
end My
namespace My
open PySem PySem.Spec PyProof.Rows L2 Evl
theorem ev_lenN' {K : PySem.W.Frag} {σ : L2.St} {H : Hp} {ta : TE} {xs : List V} (ha : EvL ta σ H xs) : Ev (tCB (fun vs H Q => ∃ p ys, vs = [V.ref p] ∧ (SqL K H p ys ∨ SqT K H p ys) ∧ Q (.int (ys.length : Int)) H) (tCons ta tNil)) σ H (.int (xs.length : Int)) := fun H1 e Q q =>
  ha H1 e _ fun p H2 hp e2 h2 => ⟨p, xs, rfl, .inl (sq_of h2), q H2 e2⟩
end My
/-! values that are data: kept as the heap grows, compared at any depth -/
namespace My
open PySem PySem.Spec PyProof.Rows L2 Evl
mutual
theorem dp_mono {K : PySem.W.Frag} {H H' : Hp} (e : Ex H H') : ∀ (d : PyData) (v : V), Dp K H v d → Dp K H' v d
  | .none, _, h => by cases h; exact .non
  | .bool b, _, h => by cases h; exact .bl b
  | .int i, _, h => by cases h; exact .int i
  | .str x, _, h => by cases h; exact .str x
  | .list ds, _, h => by cases h with | lst h1 h2 => exact .lst (ex_l e h1) (dpAll_mono e ds _ h2)
  | .tuple ds, _, h => by cases h with | tup h1 h2 => exact .tup (ex_t e h1) (dpAll_mono e ds _ h2)
  | .dict _, _, h => by cases h
theorem dpAll_mono {K : PySem.W.Frag} {H H' : Hp} (e : Ex H H') : ∀ (ds : List PyData) (vs : List V), DpAll K H vs ds → DpAll K H' vs ds
  | [], _, h => by cases h; exact .nil
  | d :: ds, _, h => by cases h with | cons h1 h2 => exact .cons (dp_mono e d _ h1) (dpAll_mono e ds _ h2)
end
/-- data of ints, none, plain texts, lists and tuples -/
def txtOk (s : Str) : Bool := PyData.canLay0 (.str s)
mutual
def plD : PyData → Bool
  | .none => true
  | .bool _ => false
  | .int _ => true
  | .str s => txtOk s
  | .list ds => plDA ds
  | .tuple ds => plDA ds
  | .dict _ => false
def plDA : List PyData → Bool
  | [] => true
  | d :: ds => plD d && plDA ds
end
mutual
theorem plD_lay : ∀ d : PyData, plD d = true → PyData.canLay0 d = true
  | .none, _ => rfl
  | .bool _, h => nomatch h
  | .int _, _ => rfl
  | .str s, h => h
  | .list ds, h => by have := plDA_lay ds h; simpa [PyData.canLay0] using this
  | .tuple ds, h => by have := plDA_lay ds h; simpa [PyData.canLay0] using this
  | .dict _, h => nomatch h
theorem plDA_lay : ∀ ds : List PyData, plDA ds = true → PyData.canLayAll0 ds = true
  | [], _ => rfl
  | d :: ds, h => by
    have h' : plD d = true ∧ plDA ds = true := by simpa [plDA] using h
    simp only [PyData.canLayAll0, plD_lay d h'.1, plDA_lay ds h'.2, Bool.and_self]
end
mutual
theorem eqv_pl : ∀ d e : PyData, plD d = true → plD e = true → (PyData.eqv d e = true ↔ d = e)
  | .none, e, _, he => by cases e <;> simp [PyData.eqv]
  | .bool _, _, h, _ => nomatch h
  | .int i, e, _, he => by
    cases e with
    | bool b => exact nomatch he
    | _ => simp [PyData.eqv]
  | .str s, e, _, he => by cases e <;> simp [PyData.eqv]
  | .list ds, e, h, he => by
    cases e with
    | list es => rw [PyData.eqv, eqvAll_pl ds es h he]; exact ⟨fun z => by rw [z], fun z => by cases z; rfl⟩
    | _ => simp [PyData.eqv]
  | .tuple ds, e, h, he => by
    cases e with
    | tuple es => rw [PyData.eqv, eqvAll_pl ds es h he]; exact ⟨fun z => by rw [z], fun z => by cases z; rfl⟩
    | _ => simp [PyData.eqv]
  | .dict _, _, h, _ => nomatch h
theorem eqvAll_pl : ∀ ds es : List PyData, plDA ds = true → plDA es = true → (PyData.eqvAll ds es = true ↔ ds = es)
  | [], [], _, _ => by simp [PyData.eqvAll]
  | [], e :: es, _, _ => by simp [PyData.eqvAll]
  | d :: ds, [], _, _ => by simp [PyData.eqvAll]
  | d :: ds, e :: es, h, he => by
    have h' : plD d = true ∧ plDA ds = true := by simpa [plDA] using h
    have he' : plD e = true ∧ plDA es = true := by simpa [plDA] using he
    rw [PyData.eqvAll, Bool.and_eq_true, eqv_pl d e h'.1 he'.1, eqvAll_pl ds es h'.2 he'.2]
    exact ⟨fun ⟨a, b⟩ => by rw [a, b], fun z => by cases z; exact ⟨rfl, rfl⟩⟩
end
theorem eqv_dec {d e : PyData} (h : plD d = true) (he : plD e = true) {b : Bool} (hb : b = true ↔ d = e) : PyData.eqv d e = b := by
  cases b with
  | true => exact (eqv_pl d e h he).mpr (hb.mp rfl)
  | false =>
    cases h1 : PyData.eqv d e with
    | false => rfl
    | true => exact absurd (hb.mpr ((eqv_pl d e h he).mp h1)) (by decide)
theorem shaped_of {d : PyData} (h : plD d = true) (hd : d.depth ≤ 64) : SeqAt.shaped d = true := by
  unfold SeqAt.shaped
  rw [plD_lay d h, decide_eq_true hd]; rfl
theorem plD_ints (ns : List Int) : plDA (pints ns) = true := by
  induction ns with
  | nil => rfl
  | cons n ns ih => show (plD (.int n) && plDA (pints ns)) = true; rw [ih]; rfl
/-- what evaluates to data; the arguments of a display that do -/
def EvD (K : PySem.W.Frag) (te : TE) (σ : L2.St) (H : Hp) (d : PyData) : Prop := ∀ H1, Ex H H1 → ∀ Q : VK, (∀ v H2, Ex H1 H2 → Dp K H2 v d → Q v H2) → te σ H1 Q
def EvDA (K : PySem.W.Frag) (ta : TA) (σ : L2.St) (H : Hp) (ds : List PyData) : Prop := ∀ H1, Ex H H1 → ∀ Q : List V → Hp → Prop, (∀ vs H2, Ex H1 H2 → DpAll K H2 vs ds → Q vs H2) → ta σ H1 Q
/-- data returned -/
def RetD (K : PySem.W.Frag) (d : PyData) (H : Hp) (Q : VK) : Prop := ∀ v H2, Ex H H2 → Dp K H2 v d → Q v H2
theorem dpAll_len {K : PySem.W.Frag} {H : Hp} : ∀ (ds : List PyData) (vs : List V), DpAll K H vs ds → vs.length = ds.length
  | [], _, h => by cases h; rfl
  | d :: ds, _, h => by cases h with | cons _ h2 => exact congrArg (· + 1) (dpAll_len ds _ h2)
theorem dpAll_get {K : PySem.W.Frag} {H : Hp} : ∀ (ds : List PyData) (vs : List V) (i : Nat) (v : V), DpAll K H vs ds → vs[i]? = some v → ∃ d, ds[i]? = some d ∧ Dp K H v d
  | [], _, i, v, h, e => by cases h; simp at e
  | d :: ds, _, 0, v, h, e => by cases h with | cons h1 h2 => simp at e; subst e; exact ⟨d, rfl, h1⟩
  | d :: ds, _, i + 1, v, h, e => by
    cases h with
    | cons h1 h2 =>
      obtain ⟨d', h3, h4⟩ := dpAll_get ds _ i v h2 (by simpa using e)
      exact ⟨d', by simpa using h3, h4⟩
theorem dpAll_at {K : PySem.W.Frag} {H : Hp} {ds : List PyData} {vs : List V} {i : Nat} {d : PyData} (h : DpAll K H vs ds) (e : ds[i]? = some d) : ∃ v, vs[i]? = some v ∧ Dp K H v d := by
  have hl := dpAll_len _ _ h
  have hi := (List.getElem?_eq_some_iff.mp e).1
  have h1 := List.getElem?_eq_getElem (l := vs) (i := i) (by omega)
  obtain ⟨d', h2, h3⟩ := dpAll_get _ _ i _ h h1
  rw [e] at h2
  exact ⟨_, h1, by rw [Option.some.inj h2]; exact h3⟩
theorem dpAll_snoc {K : PySem.W.Frag} {H : Hp} {v : V} {d : PyData} : ∀ {ds : List PyData} {vs : List V}, DpAll K H vs ds → Dp K H v d → DpAll K H (vs ++ [v]) (ds ++ [d])
  | [], _, h, hv => by cases h; exact .cons hv .nil
  | d' :: ds, _, h, hv => by cases h with | cons h1 h2 => exact .cons h1 (dpAll_snoc h2 hv)
section
variable {K : PySem.W.Frag} {σ : L2.St} {H : Hp} {ta tb te : TE} {x y z v : V} {D : Ends} {tz tu : TS}
theorem EvD.mono {H' : Hp} {d : PyData} (e : Ex H H') (h : EvD K te σ H d) : EvD K te σ H' d := fun H1 a Q q => h H1 (e.trans a) Q q
theorem evd_of {d : PyData} (h : Ev te σ H v) (hd : Dp K H v d) : EvD K te σ H d := fun H1 e Q q => h H1 e _ fun H2 e2 => q v H2 e2 (dp_mono (e.trans e2) _ _ hd)
theorem evd_int {n : Int} (h : Ev te σ H (.int n)) : EvD K te σ H (.int n) := evd_of h (.int n)
theorem evd_U {xs : List V} {ds : List PyData} (h : EvU te σ H xs) (hd : ∀ H1, Ex H H1 → DpAll K H1 xs ds) : EvD K te σ H (.tuple ds) := fun H1 e Q q => h H1 e _ fun p H2 _ e2 hp => q (.ref p) H2 e2 (.tup (st_of hp) (hd H2 (e.trans e2)))
theorem evd_UI {ns : List Int} (h : EvU te σ H (ns.map V.int)) : EvD K te σ H (.tuple (pints ns)) := evd_U h fun _ _ => dpAll_ints ns
theorem evd_L {xs : List V} {ds : List PyData} (h : EvL te σ H xs) (hd : ∀ H1, Ex H H1 → DpAll K H1 xs ds) : EvD K te σ H (.list ds) := fun H1 e Q q => h H1 e _ fun p H2 _ e2 hp => q (.ref p) H2 e2 (.lst (sq_of hp) (hd H2 (e.trans e2)))
theorem evd_LI {ns : List Int} (h : EvL te σ H (ns.map V.int)) : EvD K te σ H (.list (pints ns)) := evd_L h fun _ _ => dpAll_ints ns
theorem evda_nil : EvDA K tNil σ H [] := fun H1 _ Q q => q _ H1 (Ex.refl H1) .nil
theorem evda_cons {d : PyData} {ds : List PyData} {tr : TA} (h : EvD K te σ H d) (hr : EvDA K tr σ H ds) : EvDA K (tCons te tr) σ H (d :: ds) := fun H1 e Q q =>
  h H1 e _ fun v H2 e2 hv => hr H2 (e.trans e2) _ fun vs H3 e3 hvs => q _ H3 (e2.trans e3) (.cons (dp_mono e3 _ _ hv) hvs)
theorem evd_tup {ds : List PyData} {tr : TA} (h : EvDA K tr σ H ds) (hl : ds.length ≤ 100000) : EvD K (tTup tr) σ H (.tuple ds) := fun H1 e Q q =>
  h H1 e _ fun vs H2 e2 hvs => ⟨sz_of (by rw [dpAll_len _ _ hvs]; exact hl), fun p hp => q (.ref p) _ (e2.trans (Ex.new hp)) (.tup (st_of upd_same) (dpAll_mono (Ex.new hp) _ _ hvs))⟩
theorem evd_lst {ds : List PyData} {tr : TA} (h : EvDA K tr σ H ds) (hl : ds.length ≤ 100000) : EvD K (tLst tr) σ H (.list ds) := fun H1 e Q q =>
  h H1 e _ fun vs H2 e2 hvs => ⟨sz_of (by rw [dpAll_len _ _ hvs]; exact hl), fun p hp => q (.ref p) _ (e2.trans (Ex.new hp)) (.lst (sq_of upd_same) (dpAll_mono (Ex.new hp) _ _ hvs))⟩
theorem evd_call {sp : Sp} {E : XK} {t : TA} {vs : List V} {d : PyData} (h : EvA t σ H vs) (hs : ∀ H1, Ex H H1 → ∀ Q : VK, RetD K d H1 Q → ∀ E, sp (vs ++ []) H1 Q E) : EvD K (tCall sp [] E t) σ H d := fun H1 e Q q =>
  h H1 e _ fun H2 e2 => hs H2 (e.trans e2) Q (fun v H3 e3 hv => q v H3 (e2.trans e3) hv) E
theorem evd_callD {sp : Sp} {E : XK} {t : TA} {ds : List PyData} {d : PyData} (h : EvDA K t σ H ds) (hs : ∀ vs H1, Ex H H1 → DpAll K H1 vs ds → ∀ Q : VK, RetD K d H1 Q → ∀ E, sp (vs ++ []) H1 Q E) : EvD K (tCall sp [] E t) σ H d := fun H1 e Q q =>
  h H1 e _ fun vs H2 e2 hvs => hs vs H2 (e.trans e2) hvs Q (fun v H3 e3 hv => q v H3 (e2.trans e3) hv) E
theorem ev_callD {sp : Sp} {E : XK} {t : TA} {ds : List PyData} (h : EvDA K t σ H ds) (hs : ∀ vs H1, Ex H H1 → DpAll K H1 vs ds → ∀ Q : VK, RetV z H1 Q → ∀ E, sp (vs ++ []) H1 Q E) : Ev (tCall sp [] E t) σ H z := fun H1 e Q q =>
  h H1 e _ fun vs H2 e2 hvs => hs vs H2 (e.trans e2) hvs Q (fun H3 e3 => q H3 (e2.trans e3)) E
theorem ev_eqD {d e : PyData} {b : Bool} (h : EvD K ta σ H d) (h2 : EvD K tb σ H e) (pd : plD d = true) (pe : plD e = true) (nd : d.depth ≤ 64) (ne : e.depth ≤ 64) (hb : b = true ↔ d = e) : Ev (tOp (rEqD K) ta tb) σ H (.bl b) := fun H1 ex Q q =>
  h H1 ex _ fun v H2 e2 hv => h2 H2 (ex.trans e2) _ fun w H3 e3 hw => ⟨d, e, dp_mono e3 _ _ hv, hw, shaped_of pd nd, shaped_of pe ne, by rw [eqv_dec pd pe hb]; exact q H3 (e2.trans e3)⟩
theorem ev_neD {d e : PyData} {b : Bool} (h : EvD K ta σ H d) (h2 : EvD K tb σ H e) (pd : plD d = true) (pe : plD e = true) (nd : d.depth ≤ 64) (ne : e.depth ≤ 64) (hb : b = true ↔ d = e) : Ev (tOp (rNeD K) ta tb) σ H (.bl (!b)) := fun H1 ex Q q =>
  h H1 ex _ fun v H2 e2 hv => h2 H2 (ex.trans e2) _ fun w H3 e3 hw => ⟨d, e, dp_mono e3 _ _ hv, hw, shaped_of pd nd, shaped_of pe ne, by rw [eqv_dec pd pe hb]; exact q H3 (e2.trans e3)⟩
/-- i = (x, y, new tuple) -/
theorem q_asgT3 {i : Nat} {t1 t2 t3 : TE} {zs : List V} (h1 : Ev t1 σ H x) (h2 : Ev t2 σ H y) (h3 : EvU t3 σ H zs) (k : ∀ p o H1, Ex H H1 → H1 o = some (.tup zs) → H1 p = some (.tup [x, y, .ref o]) → tz D (σ.set i (some (.ref p))) H1) : tSeq (tAsg (tTup (tCons t1 (tCons t2 (tCons t3 tNil)))) (gName i)) tz D σ H :=
  h1 H (Ex.refl H) _ fun H1 e1 => h2 H1 e1 _ fun H2 e2 => h3 H2 (e1.trans e2) _ fun o H3 no e3 ho => ⟨sz_of (by show 3 ≤ 100000; decide), fun p hp => k p o _ (((e1.trans e2).trans e3).trans (Ex.new hp)) (Ex.new hp o _ ho) upd_same⟩
theorem q_asgD {i : Nat} {d : PyData} (h : EvD K te σ H d) (k : ∀ v H1, Ex H H1 → Dp K H1 v d → tz D (σ.set i (some v)) H1) : tSeq (tAsg te (gName i)) tz D σ H := h H (Ex.refl H) _ k
theorem s_asgD {i : Nat} {d : PyData} (h : EvD K te σ H d) (k : ∀ v H1, Ex H H1 → Dp K H1 v d → D.nx (σ.set i (some v)) H1) : tAsg te (gName i) D σ H := h H (Ex.refl H) _ k
theorem s_retD {d : PyData} (h : EvD K te σ H d) (k : ∀ v H1, Ex H H1 → Dp K H1 v d → D.rt v H1) : tRet te D σ H := h H (Ex.refl H) _ k
end
section
variable {X : Cx} {K : PySem.W.Frag}
theorem op_eqDK (h : X.K = K) (hu : X.A.units + 64 < cLine) : OpR X (compareOp .Eq) (rEqD K) := h ▸ op_eqD hu
theorem op_neDK (h : X.K = K) (hu : X.A.units + 64 < cLine) : OpR X (compareOp .NotEq) (rNeD K) := h ▸ op_neD hu
end
theorem depth_ints (ns : List Int) : (PyData.tuple (pints ns)).depth = 1 := by show PyData.depthAll (pints ns) + 1 = 1; rw [depthAll_ints]
theorem depthAll_le {n : Nat} : ∀ {ds : List PyData}, (∀ d ∈ ds, d.depth ≤ n) → PyData.depthAll ds ≤ n
  | [], _ => Nat.zero_le _
  | d :: ds, h => by
    show max d.depth (PyData.depthAll ds) ≤ n
    exact Nat.max_le.mpr ⟨h d (List.mem_cons_self ..), depthAll_le fun x hx => h x (List.mem_cons_of_mem _ hx)⟩
theorem plDA_of : ∀ {ds : List PyData}, (∀ d ∈ ds, plD d = true) → plDA ds = true
  | [], _ => rfl
  | d :: ds, h => by show (plD d && plDA ds) = true; rw [h d (List.mem_cons_self ..), plDA_of fun x hx => h x (List.mem_cons_of_mem _ hx)]; rfl
end My
namespace My
open PySem PySem.Spec PyProof.Rows L2 Evl Mi
def top (i : Nat) : Stmt := PySem.Challenge.pw_matedsquares_k20_whole_powers_by_the_pri.main.body.getD i (.Pass ⟨0, 0, 0, 0⟩)
abbrev s_is_field : Stmt := top 8
theorem sc_is_field : FnScope ["prime", "degree"] ["prime", "degree"] (defScope s_is_field) := ⟨rfl, rfl, rfl, by decide +kernel, rfl, by decide +kernel, by decide +kernel⟩
abbrev s_added : Stmt := top 9
theorem sc_added : FnScope ["prime", "degree", "one", "other"] ["prime", "degree", "one", "other"] (defScope s_added) := ⟨rfl, rfl, rfl, by decide +kernel, rfl, by decide +kernel, by decide +kernel⟩
abbrev s_product : Stmt := top 10
theorem sc_product : FnScope ["prime", "degree", "one", "other"] ["prime", "degree", "one", "other"] (defScope s_product) := ⟨rfl, rfl, rfl, by decide +kernel, rfl, by decide +kernel, by decide +kernel⟩
abbrev s_Field___init__ : Stmt := inClass (top 12) 0
theorem sc_Field___init__ : FnScope ["self", "prime", "degree"] ["self", "prime", "degree"] (defScope s_Field___init__) := ⟨rfl, rfl, rfl, by decide +kernel, rfl, by decide +kernel, by decide +kernel⟩
abbrev s_Field_product : Stmt := inClass (top 12) 3
theorem sc_Field_product : FnScope ["self", "one", "other", "left", "right"] ["self", "one", "other"] (defScope s_Field_product) := ⟨rfl, rfl, rfl, by decide +kernel, rfl, by decide +kernel, by decide +kernel⟩
abbrev s_need_field : Stmt := top 13
theorem sc_need_field : FnScope ["prime", "degree"] ["prime", "degree"] (defScope s_need_field) := ⟨rfl, rfl, rfl, by decide +kernel, rfl, by decide +kernel, by decide +kernel⟩
abbrev s_need_members : Stmt := top 14
theorem sc_need_members : FnScope ["prime", "degree", "members", "size", "member"] ["prime", "degree", "members"] (defScope s_need_members) := ⟨rfl, rfl, rfl, by decide +kernel, rfl, by decide +kernel, by decide +kernel⟩
abbrev s_is_prime : Stmt := top 16
theorem sc_is_prime : FnScope ["number", "divisor"] ["number"] (defScope s_is_prime) := ⟨rfl, rfl, rfl, by decide +kernel, rfl, by decide +kernel, by decide +kernel⟩
abbrev s_size_of : Stmt := top 17
theorem sc_size_of : FnScope ["prime", "degree", "size", "_"] ["prime", "degree"] (defScope s_size_of) := ⟨rfl, rfl, rfl, by decide +kernel, rfl, by decide +kernel, by decide +kernel⟩
abbrev s_figures_of : Stmt := top 18
theorem sc_figures_of : FnScope ["prime", "count", "number", "figures", "_"] ["prime", "count", "number"] (defScope s_figures_of) := ⟨rfl, rfl, rfl, by decide +kernel, rfl, by decide +kernel, by decide +kernel⟩
abbrev s_number_of : Stmt := top 19
theorem sc_number_of : FnScope ["prime", "figures", "number", "figure"] ["prime", "figures"] (defScope s_number_of) := ⟨rfl, rfl, rfl, by decide +kernel, rfl, by decide +kernel, by decide +kernel⟩
abbrev s_with_multiple : Stmt := top 20
theorem sc_with_multiple : FnScope ["prime", "one", "other", "factor", "total", "place"] ["prime", "one", "other", "factor"] (defScope s_with_multiple) := ⟨rfl, rfl, rfl, by decide +kernel, rfl, by decide +kernel, by decide +kernel⟩
abbrev s_inverse_modulo : Stmt := top 21
theorem sc_inverse_modulo : FnScope ["number", "modulus", "before", "rest", "before_factor", "factor", "many"] ["number", "modulus"] (defScope s_inverse_modulo) := ⟨rfl, rfl, rfl, by decide +kernel, rfl, by decide +kernel, by decide +kernel⟩
abbrev s_first_irreducible : Stmt := top 22
theorem sc_first_irreducible : FnScope ["prime", "degree", "number", "lower"] ["prime", "degree"] (defScope s_first_irreducible) := ⟨rfl, rfl, rfl, by decide +kernel, rfl, by decide +kernel, by decide +kernel⟩
abbrev s_is_irreducible : Stmt := top 23
theorem sc_is_irreducible : FnScope ["prime", "lower", "degree", "unknown", "reached", "_", "change", "figure", "own"] ["prime", "lower"] (defScope s_is_irreducible) := ⟨rfl, rfl, rfl, by decide +kernel, rfl, by decide +kernel, by decide +kernel⟩
abbrev s_multiplied : Stmt := top 24
theorem sc_multiplied : FnScope ["prime", "lower", "one", "other", "degree", "rest", "place", "figure", "step", "factor", "low", "lead"] ["prime", "lower", "one", "other"] (defScope s_multiplied) := ⟨rfl, rfl, rfl, by decide +kernel, rfl, by decide +kernel, by decide +kernel⟩
abbrev s_raised : Stmt := top 25
theorem sc_raised : FnScope ["prime", "lower", "figures", "times", "result"] ["prime", "lower", "figures", "times"] (defScope s_raised) := ⟨rfl, rfl, rfl, by decide +kernel, rfl, by decide +kernel, by decide +kernel⟩
abbrev s_have_common_factor : Stmt := top 26
theorem sc_have_common_factor : FnScope ["prime", "one", "other"] ["prime", "one", "other"] (defScope s_have_common_factor) := ⟨rfl, rfl, rfl, by decide +kernel, rfl, by decide +kernel, by decide +kernel⟩
abbrev s_remainder_by : Stmt := top 27
theorem sc_remainder_by : FnScope ["prime", "one", "other", "back", "rest", "factor", "place", "step", "figure"] ["prime", "one", "other"] (defScope s_remainder_by) := ⟨rfl, rfl, rfl, by decide +kernel, rfl, by decide +kernel, by decide +kernel⟩
abbrev s_without_high_zeros : Stmt := top 28
theorem sc_without_high_zeros : FnScope ["figures", "kept"] ["figures"] (defScope s_without_high_zeros) := ⟨rfl, rfl, rfl, by decide +kernel, rfl, by decide +kernel, by decide +kernel⟩
abbrev s__law_row : Stmt := top 43
theorem sc__law_row : FnScope ["cell", "many", "row", "rest", "mixed", "k"] ["cell", "many"] (defScope s__law_row) := ⟨rfl, rfl, rfl, by decide +kernel, rfl, by decide +kernel, by decide +kernel⟩
abbrev s__law_numbers : Stmt := top 44
theorem sc__law_numbers : FnScope ["script", "many", "cells", "each", "numbers", "cell", "number"] ["script", "many"] (defScope s__law_numbers) := ⟨rfl, rfl, rfl, by decide +kernel, rfl, by decide +kernel, by decide +kernel⟩
abbrev s__law_field : Stmt := top 45
theorem sc__law_field : FnScope ["numbers", "at", "rows"] ["numbers", "at"] (defScope s__law_field) := ⟨rfl, rfl, rfl, by decide +kernel, rfl, by decide +kernel, by decide +kernel⟩
abbrev s__law_size : Stmt := top 47
theorem sc__law_size : FnScope ["p", "k", "size", "turn"] ["p", "k"] (defScope s__law_size) := ⟨rfl, rfl, rfl, by decide +kernel, rfl, by decide +kernel, by decide +kernel⟩
abbrev s__law_element : Stmt := top 48
theorem sc__law_element : FnScope ["numbers", "at", "size", "total", "k"] ["numbers", "at", "size"] (defScope s__law_element) := ⟨rfl, rfl, rfl, by decide +kernel, rfl, by decide +kernel, by decide +kernel⟩
structure Bt (mg : Str → Option Value) : Prop where
  range : mg "range" = none
  len : mg "len" = none
  int : mg "int" = none
  abs : mg "abs" = none
  max : mg "max" = none
  min : mg "min" = none
  list : mg "list" = none
  tuple : mg "tuple" = none
  reversed : mg "reversed" = none
  enumerate : mg "enumerate" = none
  zip : mg "zip" = none
  isinstance : mg "isinstance" = none
  bool : mg "bool" = none
  repr : mg "repr" = none
  all : mg "all" = none
structure Ct (mg : Str → Option Value) : Prop where
  GREATEST_PRIME : ∃ t, mg "GREATEST_PRIME" = some (.int 1000000 t)
  GREATEST_DEGREE : ∃ t, mg "GREATEST_DEGREE" = some (.int 12 t)
  GREATEST_PRIME_OF_POWERS : ∃ t, mg "GREATEST_PRIME_OF_POWERS" = some (.int 97 t)
  GREATEST_POWER : ∃ t, mg "GREATEST_POWER" = some (.int 1000000000000000 t)
section
variable {P : Program} {w : World} {K : PySem.W.Frag} {mg : Str → Option Value} {base : Heap}
def spFigs : Sp := fun vs H Q _ => ∃ p c n : Int, vs = [.int p, .int c, .int n] ∧ (0 < p ∧ p ≤ 1000000) ∧ (0 ≤ c ∧ c ≤ 1000) ∧ RetL ((figs p c.toNat n).map V.int) H Q
theorem ok_figures_of (D : Df K mg "figures_of" s_figures_of ["prime", "count", "number"]) (B : Bt mg) : Cd P w K mg base 1 "figures_of" spFigs := by
  refine D.ok sc_figures_of (fun vs H Q E h => ?_) (fun f cdv A outer s H vs Q E hr h => ?_)
  · obtain ⟨p, c, n, rfl, _⟩ := h; rfl
  · obtain ⟨p, c, n, rfl, hp, hc, q⟩ := h
    refine ⟨_, (pss_cons (ps_set (i := 3) sc_figures_of.nd rfl (Or.inl rfl) (pe_lst pa_nil))
      (pss_cons (ps_for PassesOwn.never rfl (pi_range1 (by rfl) B.range (pa_cons (pv 1) pa_nil)) (pg_name (i := 4) sc_figures_of.nd rfl (Or.inl rfl)) (pss_cons (ps_expr (pe_bm PySem.F.plainAttrs_list PySem.F.slot_list_append PySem.F.type_list_append mt_append (pv 3) (pa_cons (pe_op op_mod (pv 2) (pv 0)) pa_nil)))
          (pss_one (ps_set (i := 2) sc_figures_of.nd rfl (Or.inl rfl) (pe_op op_fdiv (pv 2) (pv 0))))))
      (pss_one (ps_ret (pv 3))))), ?_⟩
    refine q_asgL (el_lst ea_nil (by decide)) fun o H1 no e1 ho => ?_
    refine q_forR1 (n := c) (ea_cons (ev_var rfl) ea_nil) ⟨hc.1, by omega⟩ (fun i σ' H' => i ≤ 1000 ∧ ∃ x, σ' = [some (.int p), some (.int c), some (.int (divs p i n)), some (.ref o), x] ∧ Ex H H' ∧ H' o = some (.lst ((figs p i n).map V.int))) ?_ ?_ ?_
    · intro H2 e2; exact ⟨by omega, none, rfl, e1.trans e2, e2 o _ ho⟩
    · rintro i σ' H' hi ⟨h1000, x, rfl, e, h⟩
      refine q_app h (ev_var rfl) (ev_op (ev_var rfl) (ev_var rfl) (rv_I hp.1)) (by rw [List.length_map, figs_len]; omega) fun H2 e2 => ?_
      refine s_asg (ev_op (ev_var rfl) (ev_var rfl) (rv_I ⟨hp.1, by omega⟩)) fun H3 e3 => ?_
      refine ⟨by omega, _, rfl, ((e.trans e2).mut no).trans e3, ?_⟩
      rw [figs_snoc, List.map_append]; exact e3 o _ upd_same
    · rintro σ' H' ⟨_, x, rfl, e, h⟩
      refine s_ret (ev_var rfl) fun H2 e2 => ?_
      exact q o H2 no (e.trans e2) (e2 o _ h)

/-! ### number_of, size_of, is_prime, is_field -/
theorem num_drop (p : Int) (ns : List Int) (i : Nat) (x : Int) (h : i < ns.length) (e : ns[ns.length - 1 - i]? = some x) : num p (ns.drop (ns.length - (i + 1))) = num p (ns.drop (ns.length - i)) * p + x := by
  have h1 : ns.length - (i + 1) < ns.length := by omega
  have h2 : ns.length - 1 - i = ns.length - (i + 1) := by omega
  have h3 : ns.length - (i + 1) + 1 = ns.length - i := by omega
  rw [h2, List.getElem?_eq_getElem h1] at e
  rw [List.drop_eq_getElem_cons h1, h3, Option.some.inj e]; rfl
def spNum (K : PySem.W.Frag) : Sp := fun vs H Q _ => ∃ (p : Int) (a : Addr) (ns : List Int), vs = [.int p, .ref a] ∧ (0 < p ∧ p ≤ 1000000) ∧ SqL K H a (ns.map V.int) ∧ RetV (.int (num p ns)) H Q
theorem ok_number_of (D : Df K mg "number_of" s_number_of ["prime", "figures"]) (B : Bt mg) : Cd P w K mg base 1 "number_of" (spNum K) := by
  refine D.ok sc_number_of (fun vs H Q E h => ?_) (fun f cdv A outer s H vs Q E hr h => ?_)
  · obtain ⟨p, a, ns, rfl, _⟩ := h; rfl
  · obtain ⟨p, a, ns, rfl, hp, hS, q⟩ := h
    refine ⟨_, (pss_cons (ps_set (i := 2) sc_number_of.nd rfl (Or.inl rfl) pe_int)
      (pss_cons (ps_for PassesOwn.never rfl (pi_reversed (by rfl) B.reversed (pa_cons (pv 1) pa_nil)) (pg_name (i := 3) sc_number_of.nd rfl (Or.inl rfl)) (pss_one (ps_set (i := 2) sc_number_of.nd rfl (Or.inl rfl) (pe_op op_add (pe_op op_mul (pv 2) (pv 0)) (pv 3)))))
      (pss_one (ps_ret (pv 2))))), ?_⟩
    refine q_asg ev_c fun H1 e1 => ?_
    refine q_forW (gets_rev (ev_var rfl) (ex_l e1 hS)) walk_rev (fun i σ' H' => ∃ x, σ' = [some (.int p), some (.ref a), some (.int (num p (ns.drop (ns.length - i)))), x] ∧ Ex H H') ?_ ?_ ?_ ?_
    · intro H2 e2; exact ⟨none, by rw [Nat.sub_zero, List.drop_length]; rfl, e1.trans e2⟩
    · rintro i σ' H' hi ⟨x, rfl, e⟩; exact ex_l e hS
    · rintro i x σ' H' H2 hi ⟨y, rfl, e⟩ ⟨rfl, hx⟩
      rw [List.length_map] at hi hx
      obtain ⟨n, hn, rfl⟩ := ints_get hx
      refine s_asg (ev_op (ev_op (ev_var rfl) (ev_var rfl) (rv_I (.inr ⟨by omega, by omega⟩))) (ev_var rfl) rv_I0) fun H3 e3 => ?_
      exact ⟨some (.int n), by rw [num_drop p ns i n hi hn]; rfl, e.trans e3⟩
    · rintro σ' H' ⟨x, rfl, e⟩
      refine s_ret (ev_var rfl) fun H2 e2 => ?_
      have e0 : ns.drop (ns.length - (ns.map V.int).length) = ns := by rw [List.length_map, Nat.sub_self]; rfl
      rw [e0]
      exact q H2 (e.trans e2)
def spSize : Sp := fun vs H Q _ => ∃ p k : Int, vs = [.int p, .int k] ∧ (-1000001 ≤ p ∧ p ≤ 1000001) ∧ (-1000 ≤ k ∧ k ≤ 1000) ∧ RetV (.int (sizeI p k.toNat)) H Q
theorem ok_size_of (D : Df K mg "size_of" s_size_of ["prime", "degree"]) (B : Bt mg) : Cd P w K mg base 1 "size_of" spSize := by
  refine D.ok sc_size_of (fun vs H Q E h => ?_) (fun f cdv A outer s H vs Q E hr h => ?_)
  · obtain ⟨p, k, rfl, _⟩ := h; rfl
  · obtain ⟨p, k, rfl, hp, hk, q⟩ := h
    refine ⟨_, (pss_cons (ps_set (i := 2) sc_size_of.nd rfl (Or.inl rfl) pe_int)
      (pss_cons (ps_for PassesOwn.never rfl (pi_range1 (by rfl) B.range (pa_cons (pv 1) pa_nil)) (pg_name (i := 3) sc_size_of.nd rfl (Or.inl rfl)) (pss_one (ps_set (i := 2) sc_size_of.nd rfl (Or.inl rfl) (pe_op op_mul (pv 2) (pv 0)))))
      (pss_one (ps_ret (pv 2))))), ?_⟩
    refine q_asg ev_c fun H1 e1 => ?_
    refine q_forW (gets_r1 (n := k) (ev_var rfl) ⟨by omega, by omega⟩) walk_range (fun i σ' H' => ∃ x, σ' = [some (.int p), some (.int k), some (.int (sizeI p i)), x] ∧ Ex H H') ?_ ?_ ?_ ?_
    · intro H2 e2; exact ⟨none, rfl, e1.trans e2⟩
    · intros; trivial
    · rintro i x σ' H' H2 hi ⟨y, rfl, e⟩ ⟨rfl, rfl⟩
      refine s_asg (ev_op (ev_var rfl) (ev_var rfl) (rv_I (.inr ⟨by omega, by omega⟩))) fun H3 e3 => ?_
      exact ⟨_, rfl, e.trans e3⟩
    · rintro σ' H' ⟨x, rfl, e⟩
      refine s_ret (ev_var rfl) fun H2 e2 => ?_
      exact q H2 (e.trans e2)
def spPrime : Sp := fun vs H Q _ => ∃ n : Int, vs = [.int n] ∧ n ≤ 1000001 ∧ RetV (.bl (isPr n)) H Q
theorem ok_is_prime (D : Df K mg "is_prime" s_is_prime ["number"]) : Cd P w K mg base 1 "is_prime" spPrime := by
  refine D.ok sc_is_prime (fun vs H Q E h => ?_) (fun f cdv A outer s H vs Q E hr h => ?_)
  · obtain ⟨n, rfl, _⟩ := h; rfl
  · obtain ⟨n, rfl, hn, q⟩ := h
    refine ⟨_, (pss_cons (ps_if (pt_cmpR op_lt (pv 0) pe_int (nomark _)) (pss_one (ps_ret pe_bl)) pss_nil)
      (pss_cons (ps_set (i := 1) sc_is_prime.nd rfl (Or.inl rfl) pe_int)
      (pss_cons (ps_while PassesOwn.never (pt_cmpR op_le (pe_op op_mul (pv 1) (pv 1)) (pv 0) (nomark _)) (pss_cons (ps_if (pt_cmpR op_eq (pe_op op_mod (pv 0) (pv 1)) pe_int (nomark _)) (pss_one (ps_ret pe_bl)) pss_nil)
          (pss_one (ps_aug (i := 1) sc_is_prime.nd rfl (Or.inl rfl) pe_int ip_add))))
      (pss_one (ps_ret pe_bl))))), ?_⟩
    refine q_when (et_test (ev_op (ev_var rfl) ev_c rv_I0)) (fun hb H1 e1 => ?_) (fun hb H1 e1 => ?_)
    · refine s_ret ev_c fun H2 e2 => ?_
      have h0 : isPr n = false := by unfold isPr; rw [if_pos (of_decide_eq_true hb)]
      have := q H2 (e1.trans e2)
      rw [h0] at this; exact this
    · have h2 : ¬ n < 2 := of_decide_eq_false hb
      refine q_asg ev_c fun H2 e2 => ?_
      refine q_while (fun m σ' H' => ∃ d : Int, σ' = [some (.int n), some (.int d)] ∧ Ex H H' ∧ 2 ≤ d ∧ (m : Int) = 1003 - d ∧ isPr n = trial n m d) 1001 ⟨2, rfl, e1.trans e2, by omega, by omega, by unfold isPr; rw [if_neg h2]⟩ ?_
      rintro m σ' H' ⟨d, rfl, e, hd, hm, ht⟩
      refine ⟨_, et_test (ev_op (ev_op (ev_var rfl) (ev_var rfl) (rv_I (.inl ⟨by omega, by omega⟩))) (ev_var rfl) rv_I0), fun hb H3 e3 => ?_, fun hb H3 e3 => ?_⟩
      · have hdd : d * d ≤ n := of_decide_eq_true hb
        have hd1 : d ≤ 1001 := by
          rcases Int.lt_or_le d 1002 with h | h
          · omega
          · have := Int.mul_le_mul h h (by omega) (by omega)
            omega
        obtain ⟨m', rfl⟩ : ∃ m', m = m' + 1 := ⟨m - 1, by omega⟩
        refine ⟨fun σ2 H2 => ∃ m2, m2 < m' + 1 ∧ ∃ d : Int, σ2 = [some (.int n), some (.int d)] ∧ Ex H H2 ∧ 2 ≤ d ∧ (m2 : Int) = 1003 - d ∧ isPr n = trial n m2 d, fun _ _ h => h, ?_⟩
        refine q_when (et_test (ev_op (ev_op (ev_var rfl) (ev_var rfl) (rv_I (by omega))) ev_c (rv_eq rfl))) (fun hb2 H4 e4 => ?_) (fun hb2 H4 e4 => ?_)
        · refine s_ret ev_c fun H5 e5 => ?_
          have h0 : isPr n = false := by
            rw [ht]; unfold trial
            rw [if_pos hdd, if_pos (V.int.inj (of_decide_eq_true hb2))]
          have := q H5 (((e.trans e3).trans e4).trans e5)
          rw [h0] at this; exact this
        · refine s_aug rfl ev_c fun H5 e5 => ?_
          refine ⟨m', by omega, d + 1, rfl, ((e.trans e3).trans e4).trans e5, by omega, by omega, ?_⟩
          rw [ht]
          show trial n (m' + 1) d = _
          have hb3 : ¬ n % d = 0 := fun z => of_decide_eq_false hb2 (congrArg V.int z)
          rw [trial, if_pos hdd, if_neg hb3]
      · refine s_ret ev_c fun H5 e5 => ?_
        have hdd : ¬ d * d ≤ n := of_decide_eq_false hb
        have h0 : isPr n = true := by
          rw [ht]
          cases m with
          | zero => rfl
          | succ m => rw [trial, if_neg hdd]
        have := q H5 ((e.trans e3).trans e5)
        rw [h0] at this; exact this

def spIsField : Sp := fun vs H Q _ => ∃ p k : Int, vs = [.int p, .int k] ∧ RetV (.bl (isField p k)) H Q
theorem ok_is_field (D : Df K mg "is_field" s_is_field ["prime", "degree"]) (C : Ct mg) (c_is_prime : Cd P w K mg base 1 "is_prime" spPrime) (c_size_of : Cd P w K mg base 1 "size_of" spSize) : Cd P w K mg base 2 "is_field" spIsField := by
  refine D.ok sc_is_field (fun vs H Q E h => ?_) (fun f cdv A outer s H vs Q E hr h => ?_)
  · obtain ⟨p, k, rfl, _⟩ := h; rfl
  · obtain ⟨p, k, rfl, q⟩ := h
    have hpr : ∀ {σ : L2.St} {H : Hp} {te : TE}, (p ≤ 1000001) → Ev te σ H (.int p) → Ev (tCall spPrime [] L2.E0 (tCons te tNil)) σ H (.bl (isPr p)) := fun hp h =>
      ev_call (vs := [.int p]) (ea_cons h ea_nil) fun H1 e Q q E => ⟨p, rfl, hp, q⟩
    refine ⟨_, (pss_cons (ps_if (pt_cmpR op_eq (pv 1) pe_int (nomark _)) (pss_one (ps_ret (pe_and (pe_cmpR op_le (pv 0) (pe_gi (by rfl) C.GREATEST_PRIME) (nomark _)) (pe_one (pe_cd c_is_prime hr (by decide) (by rfl) (pa_cons (pv 0) pa_nil)))))) pss_nil)
      (pss_cons (ps_if (pw_or (pt_cmpR op_lt (pv 1) pe_int (nomark _)) (pw_or (pt_cmpR op_gt (pv 1) (pe_gi (by rfl) C.GREATEST_DEGREE) (nomark _)) (pw_or1 (pt_cmpR op_gt (pv 0) (pe_gi (by rfl) C.GREATEST_PRIME_OF_POWERS) (nomark _))))).pt (pss_one (ps_ret pe_bl)) pss_nil)
      (pss_one (ps_ret (pe_and (pe_cd c_is_prime hr (by decide) (by rfl) (pa_cons (pv 0) pa_nil)) (pe_one (pe_cmpR op_le (pe_cd c_size_of hr (by decide) (by rfl) (pa_cons (pv 0) (pa_cons (pv 1) pa_nil))) (pe_gi (by rfl) C.GREATEST_POWER) (nomark _)))))))), ?_⟩
    refine q_when (et_test (ev_op (ev_var rfl) ev_c (rv_eq rfl))) (fun hb H1 e1 => ?_) (fun hb H1 e1 => ?_)
    · have hk : k = 1 := V.int.inj (of_decide_eq_true hb)
      refine s_ret (ev_andV (ev_op (ev_var rfl) ev_c rv_I0) fun hb2 => hpr (by have := of_decide_eq_true hb2; omega) (ev_var rfl)) fun H2 e2 => ?_
      have h0 : isField p k = (decide (p ≤ 1000000) && isPr p) := by unfold isField; rw [if_pos hk]
      have := q H2 (e1.trans e2)
      rw [h0] at this; exact this
    · have hk : ¬ k = 1 := fun z => of_decide_eq_false hb (congrArg V.int z)
      refine q_when (et_or (et_test (ev_op (ev_var rfl) ev_c rv_I0)) fun _ => et_or (et_test (ev_op (ev_var rfl) ev_c rv_I0)) fun _ => et_test (ev_op (ev_var rfl) ev_c rv_I0)) (fun hb2 H2 e2 => ?_) (fun hb2 H2 e2 => ?_)
      · refine s_ret ev_c fun H3 e3 => ?_
        have h0 : isField p k = false := by
          unfold isField; rw [if_neg hk, if_pos (by rw [Bool.or_assoc]; exact hb2)]
        have := q H3 ((e1.trans e2).trans e3)
        rw [h0] at this; exact this
      · have hb3 := hb2
        simp only [Bool.or_eq_false_iff, decide_eq_false_iff_not] at hb3
        refine s_ret (ev_andV (hpr (by omega) (ev_var rfl)) fun hb4 => ev_op (ev_call (vs := [.int p, .int k]) (ea_cons (ev_var rfl) (ea_cons (ev_var rfl) ea_nil)) fun H1 e Q q E => ⟨p, k, rfl, ?_, ?_, q⟩) ev_c rv_I0) fun H3 e3 => ?_
        · have := isPr_two hb4; omega
        · omega
        · have h0 : isField p k = (isPr p && decide (sizeI p k.toNat ≤ 1000000000000000)) := by
            unfold isField; rw [if_neg hk, if_neg (by rw [Bool.or_assoc, hb2]; decide)]
          have := q H3 ((e1.trans e2).trans e3)
          rw [h0] at this; exact this
def spNeedField : Sp := fun vs H Q _ => ∃ p k : Int, vs = [.int p, .int k] ∧ isField p k = true ∧ RetV .non H Q
theorem ok_need_field (D : Df K mg "need_field" s_need_field ["prime", "degree"]) (c_is_field : Cd P w K mg base 2 "is_field" spIsField) : Cd P w K mg base 3 "need_field" spNeedField := by
  refine D.ok sc_need_field (fun vs H Q E h => ?_) (fun f cdv A outer s H vs Q E hr h => ?_)
  · obtain ⟨p, k, rfl, _⟩ := h; rfl
  · obtain ⟨p, k, rfl, hf, q⟩ := h
    refine ⟨_, (pss_one (ps_if (pt_not (pt_val (pe_cd c_is_field hr (by decide) (by rfl) (pa_cons (pv 0) (pa_cons (pv 1) pa_nil))))) (pss_one ps_never) pss_nil)), ?_⟩
    refine s_when (et_not (et_B (ev_call (vs := [.int p, .int k]) (ea_cons (ev_var rfl) (ea_cons (ev_var rfl) ea_nil)) fun H1 e Q q E => ⟨p, k, rfl, q⟩))) (fun hb H1 e1 => ?_) (fun hb H1 e1 => ?_)
    · rw [hf] at hb; cases hb
    · exact q H1 e1
def spNeedMembers (K : PySem.W.Frag) : Sp := fun vs H Q _ => ∃ (p k : Int) (a : Addr) (ns : List Int), vs = [.int p, .int k, .ref a] ∧ isField p k = true ∧ SqT K H a (ns.map V.int) ∧ (∀ n ∈ ns, 0 ≤ n ∧ n < sizeI p k.toNat) ∧ RetV .non H Q
theorem ok_need_members (D : Df K mg "need_members" s_need_members ["prime", "degree", "members"]) (c_need_field : Cd P w K mg base 3 "need_field" spNeedField) (c_size_of : Cd P w K mg base 1 "size_of" spSize) : Cd P w K mg base 4 "need_members" (spNeedMembers K) := by
  refine D.ok sc_need_members (fun vs H Q E h => ?_) (fun f cdv A outer s H vs Q E hr h => ?_)
  · obtain ⟨p, k, a, ns, rfl, _⟩ := h; rfl
  · obtain ⟨p, k, a, ns, rfl, hf, hS, hm, q⟩ := h
    have hb := isField_b hf
    refine ⟨_, (pss_cons (ps_expr (pe_cd c_need_field hr (by decide) (by rfl) (pa_cons (pv 0) (pa_cons (pv 1) pa_nil))))
      (pss_cons (ps_set (i := 3) sc_need_members.nd rfl (Or.inl rfl) (pe_cd c_size_of hr (by decide) (by rfl) (pa_cons (pv 0) (pa_cons (pv 1) pa_nil))))
      (pss_one (ps_for PassesOwn.never rfl (pi_tupK (K := K) rfl (pv 2)) (pg_name (i := 4) sc_need_members.nd rfl (Or.inl rfl)) (pss_one (ps_if (pw_or (pt_cmpR op_lt (pv 4) pe_int (nomark _)) (pw_or1 (pt_cmpR op_ge (pv 4) (pv 3) (nomark _)))).pt (pss_one ps_never) pss_nil)))))), ?_⟩
    refine q_drop (ev_call (vs := [.int p, .int k]) (ea_cons (ev_var rfl) (ea_cons (ev_var rfl) ea_nil)) fun H1 e Q q E => ⟨p, k, rfl, hf, q⟩) fun H1 e1 => ?_
    refine q_asg (ev_call (vs := [.int p, .int k]) (ea_cons (ev_var rfl) (ea_cons (ev_var rfl) ea_nil)) fun H1 e Q q E => ⟨p, k, rfl, by omega, by omega, q⟩) fun H2 e2 => ?_
    refine s_forW (gets_tup (ev_var rfl) (ex_t (e1.trans e2) hS)) (walk_tup (xs := ns.map V.int)) (fun i σ' H' => ∃ x, σ' = [some (.int p), some (.int k), some (.ref a), some (.int (sizeI p k.toNat)), x] ∧ Ex H H') ?_ ?_ ?_ ?_
    · intro H3 e3; exact ⟨none, rfl, (e1.trans e2).trans e3⟩
    · rintro i σ' H' _ ⟨x, rfl, e⟩; exact ex_t e hS
    · rintro i x σ' H' H3 hi ⟨y, rfl, e⟩ ⟨rfl, hx⟩
      obtain ⟨n, hn, rfl⟩ := ints_get hx
      have hnm := hm n (List.mem_of_getElem? hn)
      refine s_when (et_or (et_test (ev_op (ev_var rfl) ev_c rv_I0)) fun _ => et_test (ev_op (ev_var rfl) (ev_var rfl) rv_I0)) (fun hb H4 e4 => ?_) (fun hb H4 e4 => ?_)
      · rw [Bool.or_eq_true, decide_eq_true_eq, decide_eq_true_eq] at hb; omega
      · exact ⟨_, rfl, e.trans e4⟩
    · rintro σ' H' ⟨x, rfl, e⟩
      exact q H' e
def spWith : Sp := fun vs H Q _ => ∃ (p a b f : Int) (d : Nat), vs = [.int p, .int a, .int b, .int f] ∧ (2 ≤ p ∧ p ≤ 1000000) ∧ (0 ≤ a ∧ a < sizeI p d) ∧ (0 ≤ b ∧ b < sizeI p d) ∧ RetV (.int (wm p f d a b)) H Q
theorem div_size {p a : Int} {d : Nat} (hp : 2 ≤ p) (h : 0 ≤ a ∧ a < sizeI p (d + 1)) : 0 ≤ a / p ∧ a / p < sizeI p d :=
  ⟨Int.ediv_nonneg h.1 (by omega), Int.ediv_lt_of_lt_mul (by omega) h.2⟩
theorem ok_with_multiple (D : Df K mg "with_multiple" s_with_multiple ["prime", "one", "other", "factor"]) : Cd P w K mg base 1 "with_multiple" spWith := by
  refine D.ok sc_with_multiple (fun vs H Q E h => ?_) (fun f cdv A outer s H vs Q E hr h => ?_)
  · obtain ⟨p, a, b, f, d, rfl, _⟩ := h; rfl
  · obtain ⟨p, a, b, f, d, rfl, hp, ha, hb, q⟩ := h
    refine ⟨_, (pss_cons (ps_set (i := 4) sc_with_multiple.nd rfl (Or.inl rfl) pe_int)
      (pss_cons (ps_set (i := 5) sc_with_multiple.nd rfl (Or.inl rfl) pe_int)
      (pss_cons (ps_while PassesOwn.never (pw_or (pt_cmpR op_gt (pv 1) pe_int (nomark _)) (pw_or1 (pt_cmpR op_gt (pv 2) pe_int (nomark _)))).pt (pss_cons (ps_aug (i := 4) sc_with_multiple.nd rfl (Or.inl rfl) (pe_op op_mul (pe_op op_mod (pe_op op_add (pe_op op_mod (pv 1) (pv 0)) (pe_op op_mul (pv 3) (pe_op op_mod (pv 2) (pv 0)))) (pv 0)) (pv 5)) ip_add)
          (pss_cons (ps_set (i := 1) sc_with_multiple.nd rfl (Or.inl rfl) (pe_op op_fdiv (pv 1) (pv 0)))
          (pss_cons (ps_set (i := 2) sc_with_multiple.nd rfl (Or.inl rfl) (pe_op op_fdiv (pv 2) (pv 0)))
          (pss_one (ps_set (i := 5) sc_with_multiple.nd rfl (Or.inl rfl) (pe_op op_mul (pv 5) (pv 0))))))))
      (pss_one (ps_ret (pv 4)))))), ?_⟩
    refine q_asg ev_c fun H1 e1 => ?_
    refine q_asg ev_c fun H2 e2 => ?_
    refine q_while (fun m σ' H' => ∃ a' b' t pl : Int, σ' = [some (.int p), some (.int a'), some (.int b'), some (.int f), some (.int t), some (.int pl)] ∧ Ex H H' ∧ (0 ≤ a' ∧ a' < sizeI p m) ∧ (0 ≤ b' ∧ b' < sizeI p m) ∧ t + pl * wm p f m a' b' = wm p f d a b) d
      ⟨a, b, 0, 1, rfl, e1.trans e2, ha, hb, by omega⟩ ?_
    rintro m σ' H' ⟨a', b', t, pl, rfl, e, ha', hb', ht⟩
    refine ⟨_, et_or (et_test (ev_op (ev_var rfl) ev_c rv_I0)) fun _ => et_test (ev_op (ev_var rfl) ev_c rv_I0), fun hc H3 e3 => ?_, fun hc H3 e3 => ?_⟩
    · rw [Bool.or_eq_true, decide_eq_true_eq, decide_eq_true_eq] at hc
      obtain ⟨m', rfl⟩ : ∃ m', m = m' + 1 := by
        cases m with
        | zero => have h1 : sizeI p 0 = 1 := rfl
                  rw [h1] at ha' hb'; omega
        | succ m => exact ⟨m, rfl⟩
      refine ⟨fun σ2 H2 => ∃ m2, m2 < m' + 1 ∧ ∃ a' b' t pl : Int, σ2 = [some (.int p), some (.int a'), some (.int b'), some (.int f), some (.int t), some (.int pl)] ∧ Ex H H2 ∧ (0 ≤ a' ∧ a' < sizeI p m2) ∧ (0 ≤ b' ∧ b' < sizeI p m2) ∧ t + pl * wm p f m2 a' b' = wm p f d a b, fun _ _ h => h, ?_⟩
      have hp0 : 0 < p := by omega
      have hm1 : ∀ z : Int, 0 ≤ z % p ∧ z % p < p := fun z => ⟨Int.emod_nonneg _ (by omega), Int.emod_lt_of_pos _ hp0⟩
      have h1 := hm1 b'
      have h2 := hm1 (a' % p + f * (b' % p))
      refine q_aug rfl (ev_op (ev_op (ev_op (ev_op (ev_var rfl) (ev_var rfl) (rv_I hp0)) (ev_op (ev_var rfl) (ev_op (ev_var rfl) (ev_var rfl) (rv_I hp0)) (rv_I (.inr ⟨by omega, by omega⟩))) rv_I0) (ev_var rfl) (rv_I hp0)) (ev_var rfl) (rv_I (.inl ⟨by omega, by omega⟩))) fun H4 e4 => ?_
      refine q_asg (ev_op (ev_var rfl) (ev_var rfl) (rv_I ⟨hp0, by omega⟩)) fun H5 e5 => ?_
      refine q_asg (ev_op (ev_var rfl) (ev_var rfl) (rv_I ⟨hp0, by omega⟩)) fun H6 e6 => ?_
      refine s_asg (ev_op (ev_var rfl) (ev_var rfl) (rv_I (.inr ⟨by omega, by omega⟩))) fun H7 e7 => ?_
      refine ⟨m', by omega, a' / p, b' / p, t + (a' % p + f * (b' % p)) % p * pl, pl * p, rfl, ((((e.trans e3).trans e4).trans e5).trans e6).trans e7, div_size hp.1 ha', div_size hp.1 hb', ?_⟩
      rw [← ht, wm, if_pos hc]
      simp only [Int.mul_add, Int.add_assoc, Int.mul_assoc, Int.mul_comm, Int.mul_left_comm]
    · rw [Bool.or_eq_false_iff, decide_eq_false_iff_not, decide_eq_false_iff_not] at hc
      refine s_ret (ev_var rfl) fun H4 e4 => ?_
      have h0 : wm p f m a' b' = 0 := by
        cases m with
        | zero => rfl
        | succ m => rw [wm, if_neg (by omega)]
      rw [h0, Int.mul_zero, Int.add_zero] at ht
      subst ht
      exact q H4 ((e.trans e3).trans e4)
def spAdd (f : Int) : Sp := fun vs H Q _ => ∃ (p k a b : Int), vs = [.int p, .int k, .int a, .int b] ∧ isField p k = true ∧ (0 ≤ a ∧ a < sizeI p k.toNat) ∧ (0 ≤ b ∧ b < sizeI p k.toNat) ∧ RetV (.int (wm p f k.toNat a b)) H Q
theorem mem2 {P : Int → Prop} {a b : Int} (h1 : P a) (h2 : P b) : ∀ n ∈ [a, b], P n := by
  intro n hn
  rcases List.mem_cons.mp hn with e | e
  · rw [e]; exact h1
  · rcases List.mem_cons.mp e with e | e
    · rw [e]; exact h2
    · cases e
theorem need2 {σ : L2.St} {H : Hp} {ta tb tc td : TE} {p k a b : Int} (h1 : Ev ta σ H (.int p)) (h2 : Ev tb σ H (.int k)) (h3 : Ev tc σ H (.int a)) (h4 : Ev td σ H (.int b)) (hf : isField p k = true) (ha : 0 ≤ a ∧ a < sizeI p k.toNat) (hb : 0 ≤ b ∧ b < sizeI p k.toNat) :
    Ev (tCall (spNeedMembers K) [] L2.E0 (tCons ta (tCons tb (tCons (tTup (tCons tc (tCons td tNil))) tNil)))) σ H .non := fun H1 e Q q =>
  h1 H1 e _ fun H2 e2 => h2 H2 (e.trans e2) _ fun H3 e3 => eu_tup (vs := [.int a, .int b]) (ea_cons h3 (ea_cons h4 ea_nil)) (by show 2 ≤ 100000; decide) H3 ((e.trans e2).trans e3) _ fun t H4 _ e4 ht =>
    ⟨p, k, t, [a, b], rfl, hf, st_of ht, mem2 (P := fun n => 0 ≤ n ∧ n < sizeI p k.toNat) ha hb, fun H5 e5 => q H5 (((e2.trans e3).trans e4).trans e5)⟩
theorem ok_added (D : Df K mg "added" s_added ["prime", "degree", "one", "other"]) (c_need_members : Cd P w K mg base 4 "need_members" (spNeedMembers K)) (c_with_multiple : Cd P w K mg base 1 "with_multiple" spWith) : Cd P w K mg base 5 "added" (spAdd 1) := by
  refine D.ok sc_added (fun vs H Q E h => ?_) (fun f cdv A outer s H vs Q E hr h => ?_)
  · obtain ⟨p, k, a, b, rfl, _⟩ := h; rfl
  · obtain ⟨p, k, a, b, rfl, hf, ha, hb, q⟩ := h
    have hB := isField_b hf
    refine ⟨_, (pss_cons (ps_expr (pe_cd c_need_members hr (by decide) (by rfl) (pa_cons (pv 0) (pa_cons (pv 1) (pa_cons (pe_tup (pa_cons (pv 2) (pa_cons (pv 3) pa_nil))) pa_nil)))))
      (pss_one (ps_ret (pe_cd c_with_multiple hr (by decide) (by rfl) (pa_cons (pv 0) (pa_cons (pv 2) (pa_cons (pv 3) (pa_cons pe_int pa_nil)))))))), ?_⟩
    refine q_drop (need2 (ev_var rfl) (ev_var rfl) (ev_var rfl) (ev_var rfl) hf ha hb) fun H1 e1 => ?_
    refine s_ret (ev_call (vs := [.int p, .int a, .int b, .int 1]) (ea_cons (ev_var rfl) (ea_cons (ev_var rfl) (ea_cons (ev_var rfl) (ea_cons ev_c ea_nil)))) fun H1 e Q q E => ⟨p, a, b, 1, k.toNat, rfl, by omega, ha, hb, q⟩) fun H2 e2 => ?_
    exact q H2 (e1.trans e2)
def spInvM : Sp := fun vs H Q _ => ∃ x m : Int, vs = [.int x, .int m] ∧ (1 ≤ m ∧ m ≤ 1000000) ∧ RetV (.int (invM x m)) H Q
theorem ok_inverse_modulo (D : Df K mg "inverse_modulo" s_inverse_modulo ["number", "modulus"]) : Cd P w K mg base 1 "inverse_modulo" spInvM := by
  refine D.ok sc_inverse_modulo (fun vs H Q E h => ?_) (fun f cdv A outer s H vs Q E hr h => ?_)
  · obtain ⟨x, m, rfl, _⟩ := h; rfl
  · obtain ⟨x, m, rfl, hm, q⟩ := h
    refine ⟨_, (pss_cons (ps_par (i := 2) (j := 3) rfl sc_inverse_modulo.nd rfl rfl (by decide) rfl rfl (pa_cons (pv 1) (pa_cons (pe_op op_mod (pv 0) (pv 1)) pa_nil)) rfl)
      (pss_cons (ps_asg (pe_tup (pa_cons pe_int (pa_cons pe_int pa_nil))) (pg_tupK (K := K) (n := 2) rfl rfl (pgs_cons (pg_name (i := 4) sc_inverse_modulo.nd rfl (Or.inl rfl)) (pgs_cons (pg_name (i := 5) sc_inverse_modulo.nd rfl (Or.inl rfl)) pgs_nil))))
      (pss_cons (ps_while PassesOwn.never (pt_cmpR op_gt (pv 3) pe_int (nomark _)) (pss_cons (ps_set (i := 6) sc_inverse_modulo.nd rfl (Or.inl rfl) (pe_op op_fdiv (pv 2) (pv 3)))
          (pss_cons (ps_par (i := 2) (j := 3) rfl sc_inverse_modulo.nd rfl rfl (by decide) rfl rfl (pa_cons (pv 3) (pa_cons (pe_op op_sub (pv 2) (pe_op op_mul (pv 6) (pv 3))) pa_nil)) rfl)
          (pss_one (ps_par (i := 4) (j := 5) rfl sc_inverse_modulo.nd rfl rfl (by decide) rfl rfl (pa_cons (pv 5) (pa_cons (pe_op op_sub (pv 4) (pe_op op_mul (pv 6) (pv 5))) pa_nil)) rfl)))))
      (pss_one (ps_ret (pe_op op_mod (pv 4) (pv 1))))))), ?_⟩
    refine q_par (ea_cons (ev_var rfl) (ea_cons (ev_op (ev_var rfl) (ev_var rfl) (rv_I (by omega))) ea_nil)) fun H1 e1 => ?_
    refine q_asgT2 (eu_tup (ea_cons ev_c (ea_cons ev_c ea_nil)) (by show 2 ≤ 100000; decide)) fun H2 e2 => ?_
    have h0 : 0 ≤ x % m := Int.emod_nonneg _ (by omega)
    have h1 : x % m < m := Int.emod_lt_of_pos _ (by omega)
    refine q_while (fun n σ' H' => ∃ (b r bf fa : Int) (y : Option V), σ' = [some (.int x), some (.int m), some (.int b), some (.int r), some (.int bf), some (.int fa), y] ∧ Ex H H' ∧ (0 ≤ b ∧ b ≤ 1000000) ∧ (0 ≤ r ∧ r ≤ 1000000 ∧ r ≤ (n : Int)) ∧ euc n b r bf fa % m = invM x m) m.toNat
      ⟨m, x % m, 0, 1, none, rfl, e1.trans e2, by omega, by omega, rfl⟩ ?_
    rintro n σ' H' ⟨b, r, bf, fa, y, rfl, e, hb, hr', hi⟩
    refine ⟨_, et_test (ev_op (ev_var rfl) ev_c rv_I0), fun hc H3 e3 => ?_, fun hc H3 e3 => ?_⟩
    · have hr0 : 0 < r := of_decide_eq_true hc
      obtain ⟨n', rfl⟩ : ∃ n', n = n' + 1 := ⟨n - 1, by omega⟩
      refine ⟨fun σ2 H2 => ∃ m2, m2 < n' + 1 ∧ ∃ (b r bf fa : Int) (y : Option V), σ2 = [some (.int x), some (.int m), some (.int b), some (.int r), some (.int bf), some (.int fa), y] ∧ Ex H H2 ∧ (0 ≤ b ∧ b ≤ 1000000) ∧ (0 ≤ r ∧ r ≤ 1000000 ∧ r ≤ (m2 : Int)) ∧ euc m2 b r bf fa % m = invM x m, fun _ _ h => h, ?_⟩
      have hq0 : 0 ≤ b / r := Int.ediv_nonneg hb.1 (by omega)
      have hq1 : b / r ≤ b := Int.ediv_le_self _ hb.1
      have hmod : b - b / r * r = b % r := by rw [Int.emod_def, Int.mul_comm]
      have hm0 : 0 ≤ b % r := Int.emod_nonneg _ (by omega)
      have hm1 : b % r < r := Int.emod_lt_of_pos _ hr0
      refine q_asg (ev_op (ev_var rfl) (ev_var rfl) (rv_I ⟨hr0, by omega⟩)) fun H4 e4 => ?_
      refine q_par (ea_cons (ev_var rfl) (ea_cons (ev_op (ev_var rfl) (ev_op (ev_var rfl) (ev_var rfl) (rv_I (.inl ⟨by omega, by omega⟩))) rv_I0) ea_nil)) fun H5 e5 => ?_
      refine s_par (ea_cons (ev_var rfl) (ea_cons (ev_op (ev_var rfl) (ev_op (ev_var rfl) (ev_var rfl) (rv_I (.inl ⟨by omega, by omega⟩))) rv_I0) ea_nil)) fun H6 e6 => ?_
      refine ⟨n', by omega, r, b - b / r * r, fa, bf - b / r * fa, _, rfl, (((e.trans e3).trans e4).trans e5).trans e6, by omega, ?_, ?_⟩
      · rw [hmod]; omega
      · rw [← hi, euc, if_pos hr0]
    · have hr0 : ¬ 0 < r := of_decide_eq_false hc
      refine s_ret (ev_op (ev_var rfl) (ev_var rfl) (rv_I (by omega))) fun H4 e4 => ?_
      have hz : euc n b r bf fa = bf := by
        cases n with
        | zero => rfl
        | succ n => rw [euc, if_neg hr0]
      rw [hz] at hi
      have := q H4 ((e.trans e3).trans e4)
      rw [← hi] at this; exact this
def spHZ (K : PySem.W.Frag) : Sp := fun vs H Q _ => ∃ (a : Addr) (ns : List Int), vs = [.ref a] ∧ SqL K H a (ns.map V.int) ∧ ns.length ≤ 1000 ∧ RetL ((dropHZ ns).map V.int) H Q
theorem last_int {ks : List Int} (h : ks ≠ []) : ∃ l z, ks = l ++ [z] := ⟨ks.dropLast, ks.getLast h, (List.dropLast_concat_getLast h).symm⟩
theorem ok_without_high_zeros (D : Df K mg "without_high_zeros" s_without_high_zeros ["figures"]) (B : Bt mg) : Cd P w K mg base 1 "without_high_zeros" (spHZ K) := by
  refine D.ok sc_without_high_zeros (fun vs H Q E h => ?_) (fun f cdv A outer s H vs Q E hr h => ?_)
  · obtain ⟨a, ns, rfl, _⟩ := h; rfl
  · obtain ⟨a, ns, rfl, hS, hl, q⟩ := h
    refine ⟨_, (pss_cons (ps_set (i := 1) sc_without_high_zeros.nd rfl (Or.inl rfl) (pe_callTy (call_listK (K := K) rfl) (by rfl) B.list boot_list (pa_cons (pv 0) pa_nil)))
      (pss_cons (ps_while PassesOwn.never (pw_and (pt_truth (pv 1) (fun _ => rfl)) (pw_and1 (pt_cmpR op_eq (pe_ix (ix_listK (K := K) rfl) (pv 1) (pe_un un_neg pe_int) (fun _ _ => rfl)) pe_int (nomark _)))).pt (pss_one (ps_expr (pe_bm0 PySem.F.plainAttrs_list PySem.F.slot_list_pop PySem.F.type_list_pop mt_pop (pv 1)))))
      (pss_one (ps_ret (pv 1))))), ?_⟩
    refine q_asgL (el_listOf (ev_var rfl) (.inl hS)) fun o H1 no e1 ho => ?_
    refine q_while (fun m σ' H' => ∃ ks : List Int, σ' = [some (.ref a), some (.ref o)] ∧ Ex H H' ∧ H' o = some (.lst (ks.map V.int)) ∧ ks.length = m ∧ dropHZ ks = dropHZ ns) ns.length ⟨ns, rfl, e1, ho, rfl, rfl⟩ ?_
    rintro m σ' H' ⟨ks, rfl, e, h, hm, hd⟩
    by_cases hk : ks = []
    · subst hk
      refine ⟨false, et_and (a := false) (b := true) (et_is (et_truL (ev_var rfl) (sq_of h)) rfl) (fun z => Bool.noConfusion z), fun z => Bool.noConfusion z, fun _ H3 e3 => ?_⟩
      refine s_ret (ev_var rfl) fun H4 e4 => ?_
      refine q o H4 no ((e.trans e3).trans e4) ?_
      rw [← hd]; exact e4 o _ (e3 o _ h)
    · obtain ⟨l, z, rfl⟩ := last_int hk
      have hlast : atI ((l ++ [z]).map V.int) (-1) = some (.int z) := by rw [List.map_append]; exact atI_last _ _
      refine ⟨_, et_and (et_is (b := true) (et_truL (ev_var rfl) (sq_of h)) (by simp)) (fun _ => et_test (ev_op (ev_op (ev_var rfl) (ev_un ev_c ru_neg) (rv_ixL (sq_of h) hlast)) ev_c (rv_eq rfl))), fun hc H3 e3 => ?_, fun hc H3 e3 => ?_⟩
      · rw [Bool.true_and] at hc
        have hz : z = 0 := V.int.inj (of_decide_eq_true hc)
        refine ⟨fun σ2 H2 => ∃ m2, m2 < m ∧ ∃ ks : List Int, σ2 = [some (.ref a), some (.ref o)] ∧ Ex H H2 ∧ H2 o = some (.lst (ks.map V.int)) ∧ ks.length = m2 ∧ dropHZ ks = dropHZ ns, fun _ _ h => h, ?_⟩
        refine s_pop (e3 o _ h) (ev_var rfl) (v := .int z) (by rw [List.map_append]; simp) fun H4 e4 => ?_
        refine ⟨l.length, by rw [← hm, List.length_append]; simp, l, rfl, ((e.trans e3).trans e4).mut no, ?_, rfl, ?_⟩
        · rw [upd_same, List.map_append]; simp
        · rw [← hd, hz, dropHZ_zero]
      · rw [Bool.true_and] at hc
        have hz : z ≠ 0 := fun y => of_decide_eq_false hc (congrArg V.int y)
        refine s_ret (ev_var rfl) fun H4 e4 => ?_
        refine q o H4 no ((e.trans e3).trans e4) ?_
        rw [← hd, dropHZ_last hz]; exact e4 o _ (e3 o _ h)
def spRemB (K : PySem.W.Frag) : Sp := fun vs H Q _ => ∃ (p : Int) (a b : Addr) (ns ms : List Int), vs = [.int p, .ref a, .ref b] ∧ (2 ≤ p ∧ p ≤ 1000000) ∧ SqL K H a (ns.map V.int) ∧ SqL K H b (ms.map V.int) ∧ ns.length ≤ 100 ∧ ms.length ≤ 100 ∧ ms ≠ [] ∧ RetL ((remB p ns ms).map V.int) H Q
theorem ok_remainder_by (D : Df K mg "remainder_by" s_remainder_by ["prime", "one", "other"]) (B : Bt mg) (c_inverse_modulo : Cd P w K mg base 1 "inverse_modulo" spInvM) (c_without_high_zeros : Cd P w K mg base 1 "without_high_zeros" (spHZ K)) : Cd P w K mg base 2 "remainder_by" (spRemB K) := by
  refine D.ok sc_remainder_by (fun vs H Q E h => ?_) (fun f cdv A outer s H vs Q E hr h => ?_)
  · obtain ⟨p, a, b, ns, ms, rfl, _⟩ := h; rfl
  · obtain ⟨p, a, b, ns, ms, rfl, hp, hS, hT, hn, hm, h0, q⟩ := h
    obtain ⟨l, z, rfl⟩ := last_int h0
    have hlast : atI ((l ++ [z]).map V.int) (-1) = some (.int z) := by rw [List.map_append]; exact atI_last _ _
    have hz : (l ++ [z]).getD ((l ++ [z]).length - 1) 0 = z := by simp [List.getD_eq_getElem?_getD]
    refine ⟨_, (pss_cons (ps_set (i := 3) sc_remainder_by.nd rfl (Or.inl rfl) (pe_cd c_inverse_modulo hr (by decide) (by rfl) (pa_cons (pe_ix (ix_listK (K := K) rfl) (pv 2) (pe_un un_neg pe_int) (fun _ _ => rfl)) (pa_cons (pv 0) pa_nil))))
      (pss_cons (ps_set (i := 4) sc_remainder_by.nd rfl (Or.inl rfl) (pe_callTy (call_listK (K := K) rfl) (by rfl) B.list boot_list (pa_cons (pv 1) pa_nil)))
      (pss_cons (ps_while PassesOwn.never (pt_cmpR op_ge (pe_callB (call_lenK (K := K) rfl) (by rfl) B.len PySem.boot_len (pa_cons (pv 4) pa_nil)) (pe_callB (call_lenK (K := K) rfl) (by rfl) B.len PySem.boot_len (pa_cons (pv 2) pa_nil)) (nomark _)) (pss_cons (ps_set (i := 5) sc_remainder_by.nd rfl (Or.inl rfl) (pe_op op_mod (pe_op op_mul (pe_ix (ix_listK (K := K) rfl) (pv 4) (pe_un un_neg pe_int) (fun _ _ => rfl)) (pv 3)) (pv 0)))
          (pss_cons (ps_set (i := 6) sc_remainder_by.nd rfl (Or.inl rfl) (pe_op op_sub (pe_callB (call_lenK (K := K) rfl) (by rfl) B.len PySem.boot_len (pa_cons (pv 4) pa_nil)) (pe_callB (call_lenK (K := K) rfl) (by rfl) B.len PySem.boot_len (pa_cons (pv 2) pa_nil))))
          (pss_cons (ps_for PassesOwn.never rfl (pi_enum (by rfl) B.enumerate (pa_cons (pv 2) pa_nil)) (pg_tupK (K := K) (n := 2) rfl rfl (pgs_cons (pg_name (i := 7) sc_remainder_by.nd rfl (Or.inl rfl)) (pgs_cons (pg_name (i := 8) sc_remainder_by.nd rfl (Or.inl rfl)) pgs_nil))) (pss_one (ps_asg (pe_op op_mod (pe_op op_sub (pe_ix (ix_listK (K := K) rfl) (pv 4) (pe_op op_add (pv 6) (pv 7)) (fun _ _ => rfl)) (pe_op op_mul (pv 5) (pv 8))) (pv 0)) (pg_sub (pv 4) (pe_op op_add (pv 6) (pv 7)) set_list))))
          (pss_one (ps_expr (pe_bm0 PySem.F.plainAttrs_list PySem.F.slot_list_pop PySem.F.type_list_pop mt_pop (pv 4))))))))
      (pss_one (ps_ret (pe_cd c_without_high_zeros hr (by decide) (by rfl) (pa_cons (pv 4) pa_nil))))))), ?_⟩
    refine q_asg (ev_call (vs := [.int z, .int p]) (ea_cons (ev_op (ev_var rfl) (ev_un ev_c ru_neg) (rv_ixL hT hlast)) (ea_cons (ev_var rfl) ea_nil)) fun H1 e Q q E => ⟨z, p, rfl, by omega, q⟩) fun H1 e1 => ?_
    refine q_asgL (el_listOf (ev_var rfl) (.inl (ex_l e1 hS))) fun o H2 no e2 ho => ?_
    generalize hms : l ++ [z] = ms at *
    have no' : H o = none := fresh_back e1 no
    have hmp : 1 ≤ ms.length := List.length_pos_iff.mpr h0
    refine q_while (fun m σ' H' => ∃ (ks : List Int) (x1 x2 x3 x4 : Option V), σ' = [some (.int p), some (.ref a), some (.ref b), some (.int (invM z p)), some (.ref o), x1, x2, x3, x4] ∧ Ex H H' ∧ H' o = some (.lst (ks.map V.int)) ∧ ks.length < m + ms.length ∧ ks.length ≤ 100 ∧ remR p (invM z p) ms m ks = remR p (invM z p) ms (ns.length + 1) ns) (ns.length + 1)
      ⟨ns, none, none, none, none, rfl, e1.trans e2, ho, by omega, hn, rfl⟩ ?_
    rintro m σ' H' ⟨ks, x1, x2, x3, x4, rfl, e, h, hk, hk100, hi⟩
    refine ⟨_, et_test (ev_op (ev_lenL (ev_var rfl) (.inl (sq_of h))) (ev_lenL (ev_var rfl) (.inl (ex_l e hT))) rv_I0), fun hc H3 e3 => ?_, fun hc H3 e3 => ?_⟩
    · have hc' := of_decide_eq_true hc
      rw [List.length_map, List.length_map] at hc'
      obtain ⟨m', rfl⟩ : ∃ m', m = m' + 1 := ⟨m - 1, by omega⟩
      obtain ⟨kl, kz, rfl⟩ := last_int (show ks ≠ [] from fun y => by
        have h1 : ks.length = 0 := by rw [y]; rfl
        omega)
      have hklast : atI ((kl ++ [kz]).map V.int) (-1) = some (.int kz) := by rw [List.map_append]; exact atI_last _ _
      have hkz : (kl ++ [kz]).getD ((kl ++ [kz]).length - 1) 0 = kz := by simp [List.getD_eq_getElem?_getD]
      generalize hks : kl ++ [kz] = ks at *
      refine ⟨fun σ2 H2 => ∃ m2, m2 < m' + 1 ∧ ∃ (ks : List Int) (x1 x2 x3 x4 : Option V), σ2 = [some (.int p), some (.ref a), some (.ref b), some (.int (invM z p)), some (.ref o), x1, x2, x3, x4] ∧ Ex H H2 ∧ H2 o = some (.lst (ks.map V.int)) ∧ ks.length < m2 + ms.length ∧ ks.length ≤ 100 ∧ remR p (invM z p) ms m2 ks = remR p (invM z p) ms (ns.length + 1) ns, fun _ _ h => h, ?_⟩
      have hiv : 0 ≤ invM z p ∧ invM z p < p := ⟨Int.emod_nonneg _ (by omega), Int.emod_lt_of_pos _ (by omega)⟩
      refine q_asg (ev_op (ev_op (ev_op (ev_var rfl) (ev_un ev_c ru_neg) (rv_ixL (sq_of (e3 o _ h)) hklast)) (ev_var rfl) (rv_I (.inr ⟨by omega, by omega⟩))) (ev_var rfl) (rv_I (by omega))) fun H4 e4 => ?_
      refine q_asg (ev_op (ev_lenL (ev_var rfl) (.inl (sq_of (e4 o _ (e3 o _ h))))) (ev_lenL (ev_var rfl) (.inl (ex_l ((e.trans e3).trans e4) hT))) rv_I0) fun H5 e5 => ?_
      have hpl : ((ks.map V.int).length : Int) - ((ms.map V.int).length : Int) = ((ks.length - ms.length : Nat) : Int) := by rw [List.length_map, List.length_map]; omega
      have hfac : 0 ≤ kz * invM z p % p ∧ kz * invM z p % p < p := ⟨Int.emod_nonneg _ (by omega), Int.emod_lt_of_pos _ (by omega)⟩
      generalize hF : kz * invM z p % p = F at *
      refine q_forW (gets_enum (ev_var rfl) (ex_l (((e.trans e3).trans e4).trans e5) hT)) (walk_enum (xs := ms.map V.int)) (fun i σ2 H2 => ∃ (y1 y2 : Option V), σ2 = [some (.int p), some (.ref a), some (.ref b), some (.int (invM z p)), some (.ref o), some (.int F), some (.int ((ks.length - ms.length : Nat) : Int)), y1, y2] ∧ Ex H H2 ∧ H2 o = some (.lst ((subL p F (ks.length - ms.length) (ms.take i) ks).map V.int))) ?_ ?_ ?_ ?_
      · intro H6 e6
        exact ⟨x3, x4, by rw [← hpl]; rfl, (((e.trans e3).trans e4).trans e5).trans e6, e6 o _ (e5 o _ (e4 o _ (e3 o _ h)))⟩
      · rintro i σ2 H2 _ ⟨y1, y2, rfl, e6, _⟩; exact ex_l e6 hT
      · rintro i x σ2 H6 H7 hi' ⟨y1, y2, rfl, e6, h6⟩ ⟨T, a1, a2, rfl, nT, rfl, f1, f2⟩
        obtain rfl : V.int (i : Nat) = a1 := Option.some.inj f1
        obtain ⟨n, hn', rfl⟩ := ints_get f2
        have hil : i < ms.length := by rw [List.length_map] at hi'; exact hi'
        refine g_pair (st_of upd_same) ?_
        have eT : Ex H6 (upd H6 T (.tup [.int (i : Nat), .int n])) := Ex.new nT
        have h7 := eT o _ h6
        have hlen : (subL p F (ks.length - ms.length) (ms.take i) ks).length = ks.length := subL_len _ _ _ _ _
        have htk : (ms.take i).length = i := by rw [List.length_take]; omega
        have hj : ks.length - ms.length + i < ks.length := by omega
        have hget : (subL p F (ks.length - ms.length) (ms.take i) ks)[ks.length - ms.length + i]? = some ((subL p F (ks.length - ms.length) (ms.take i) ks).getD (ks.length - ms.length + i) 0) := by
          rw [List.getD_eq_getElem?_getD, List.getElem?_eq_getElem (by omega)]; rfl
        have hplus : ((ks.length - ms.length : Nat) : Int) + ((i : Nat) : Int) = ((ks.length - ms.length + i : Nat) : Int) := by omega
        refine s_setL (j := ks.length - ms.length + i) h7 (ev_op (ev_op (ev_op (ev_var rfl) (ev_is (ev_op (ev_var rfl) (ev_var rfl) rv_I0) (congrArg V.int hplus)) (rv_ixLn (sq_of h7) (ints_at hget))) (ev_op (ev_var rfl) (ev_var rfl) (rv_I (.inl ⟨by omega, by omega⟩))) rv_I0) (ev_var rfl) (rv_I (by omega))) (ev_var rfl) (ev_is (ev_op (ev_var rfl) (ev_var rfl) rv_I0) (congrArg V.int hplus)) (by rw [List.length_map, hlen]; exact hj) fun H8 e8 => ?_
        refine ⟨_, _, rfl, ((e6.trans eT).trans e8).mut no', ?_⟩
        rw [upd_same, ← List.take_append_getElem hil, subL_snoc, htk, List.map_set]
        have : ms[i] = n := Option.some.inj ((List.getElem?_eq_getElem hil).symm.trans hn')
        rw [this]
      · rintro σ2 H6 ⟨y1, y2, rfl, e6, h6⟩
        have hlen : (subL p F (ks.length - ms.length) ms ks).length = ks.length := subL_len _ _ _ _ _
        rw [List.length_map, List.take_length] at h6
        have hne : subL p F (ks.length - ms.length) ms ks ≠ [] := fun y => by rw [y] at hlen; simp at hlen; omega
        obtain ⟨l2, z2, h2⟩ := last_int hne
        refine s_pop h6 (ev_var rfl) (v := .int z2) (by rw [h2, List.map_append]; simp) fun H7 e7 => ?_
        refine ⟨m', by omega, (subL p F (ks.length - ms.length) ms ks).dropLast, _, _, _, _, rfl, (e6.trans e7).mut no', ?_, ?_, ?_, ?_⟩
        · rw [upd_same, List.map_dropLast]
        · rw [List.length_dropLast, hlen]; omega
        · rw [List.length_dropLast, hlen]; omega
        · rw [← hi, remR, if_pos (by omega), hkz, hF]
    · have hc' := of_decide_eq_false hc
      rw [List.length_map, List.length_map] at hc'
      refine s_retL (el_call (vs := [.ref o]) (ea_cons (ev_var rfl) ea_nil) fun H4 e4 Q q E => ⟨o, ks, rfl, sq_of (e4 o _ (e3 o _ h)), by omega, q⟩) fun r H4 nr e4 hr4 => ?_
      have hrem : remR p (invM z p) ms m ks = ks := by
        cases m with
        | zero => rfl
        | succ m => rw [remR, if_neg (by omega)]
      refine q r H4 (fresh_back (e.trans e3) nr) ((e.trans e3).trans e4) ?_
      rw [hr4]
      unfold remB
      rw [hz, ← hi, hrem]

def spMul (K : PySem.W.Frag) : Sp := fun vs H Q _ => ∃ (p : Int) (la oa ta : Addr) (lo on ot : List Int), vs = [.int p, .ref la, .ref oa, .ref ta] ∧ (2 ≤ p ∧ p ≤ 1000000) ∧ SqA K H la (lo.map V.int) ∧ SqL K H oa (on.map V.int) ∧ SqL K H ta (ot.map V.int) ∧ (1 ≤ lo.length ∧ lo.length ≤ 12) ∧
  on.length = lo.length ∧ ot.length = lo.length ∧ (∀ x ∈ on, 0 ≤ x ∧ x < p) ∧ RetL ((mulM p lo on ot).map V.int) H Q
theorem ok_multiplied (D : Df K mg "multiplied" s_multiplied ["prime", "lower", "one", "other"]) (B : Bt mg) : Cd P w K mg base 1 "multiplied" (spMul K) := by
  refine D.ok sc_multiplied (fun vs H Q E h => ?_) (fun f cdv A outer s H vs Q E hr h => ?_)
  · obtain ⟨p, la, oa, ta, lo, on, ot, rfl, _⟩ := h; rfl
  · obtain ⟨p, la, oa, ta, lo, on, ot, rfl, hp, hL, hO, hT, hd, hon, hot, hom, q⟩ := h
    have hp0 : 0 < p := by omega
    refine ⟨_, (pss_cons (ps_set (i := 4) sc_multiplied.nd rfl (Or.inl rfl) (pe_callB (call_lenK (K := K) rfl) (by rfl) B.len PySem.boot_len (pa_cons (pv 1) pa_nil)))
      (pss_cons (ps_set (i := 5) sc_multiplied.nd rfl (Or.inl rfl) (pe_op op_rep (pe_lst (pa_cons pe_int pa_nil)) (pe_op op_sub (pe_op op_mul pe_int (pv 4)) pe_int)))
      (pss_cons (ps_for PassesOwn.never rfl (pi_enum (by rfl) B.enumerate (pa_cons (pv 2) pa_nil)) (pg_tupK (K := K) (n := 2) rfl rfl (pgs_cons (pg_name (i := 6) sc_multiplied.nd rfl (Or.inl rfl)) (pgs_cons (pg_name (i := 7) sc_multiplied.nd rfl (Or.inl rfl)) pgs_nil))) (pss_one (ps_if (pt_cmpR op_gt (pv 7) pe_int (nomark _)) (pss_one (ps_for PassesOwn.never rfl (pi_enum (by rfl) B.enumerate (pa_cons (pv 3) pa_nil)) (pg_tupK (K := K) (n := 2) rfl rfl (pgs_cons (pg_name (i := 8) sc_multiplied.nd rfl (Or.inl rfl)) (pgs_cons (pg_name (i := 9) sc_multiplied.nd rfl (Or.inl rfl)) pgs_nil))) (pss_one (ps_augS (pv 5) (pe_op op_add (pv 6) (pv 8)) get_list (pe_op op_mul (pv 7) (pv 9)) ip_add set_list)))) pss_nil)))
      (pss_cons (ps_setLc (i := 10) (own := [("step", 8), ("figure", 7)]) rfl sc_multiplied.nd rfl rfl (sw_true rfl rfl rfl (by decide +kernel)) (pi_enumA (by rfl) B.enumerate (pa_cons (pv 1) pa_nil)) (blkOk_by (own := [("step", 8), ("figure", 7)]) (N := ["prime", "lower", "one", "other", "degree", "rest", "place", "figure", "step", "factor", "low", "lead"]) (sc := defScope s_multiplied) (by decide +kernel)) (fun _ _ _ _ _ => (pg_tupK (K := K) (n := 2) rfl rfl (pgs_cons (pg_name (i := 8) sc_multiplied.nd rfl (Or.inl rfl)) (pgs_cons (pg_name (i := 7) sc_multiplied.nd rfl (Or.inl rfl)) pgs_nil)))) (fun _ _ _ _ _ => (pts_one (pt_cmpR op_gt (pv 7) pe_int (nomark _)))) (fun _ _ _ _ _ => (pe_tup (pa_cons (pv 8) (pa_cons (pv 7) pa_nil)))))
      (pss_cons (ps_while PassesOwn.never (pt_cmpR op_gt (pe_callB (call_lenK (K := K) rfl) (by rfl) B.len PySem.boot_len (pa_cons (pv 5) pa_nil)) (pv 4) (nomark _)) (pss_cons (ps_set (i := 11) sc_multiplied.nd rfl (Or.inl rfl) (pe_op op_mod (pe_bm0 PySem.F.plainAttrs_list PySem.F.slot_list_pop PySem.F.type_list_pop mt_pop (pv 5)) (pv 0)))
          (pss_cons (ps_set (i := 6) sc_multiplied.nd rfl (Or.inl rfl) (pe_op op_sub (pe_callB (call_lenK (K := K) rfl) (by rfl) B.len PySem.boot_len (pa_cons (pv 5) pa_nil)) (pv 4)))
          (pss_one (ps_for PassesOwn.never rfl (pi_listK (K := K) rfl (pv 10)) (pg_tupK (K := K) (n := 2) rfl rfl (pgs_cons (pg_name (i := 8) sc_multiplied.nd rfl (Or.inl rfl)) (pgs_cons (pg_name (i := 7) sc_multiplied.nd rfl (Or.inl rfl)) pgs_nil))) (pss_one (ps_augS (pv 5) (pe_op op_add (pv 6) (pv 8)) get_list (pe_op op_mul (pv 11) (pv 7)) ip_sub set_list)))))))
      (pss_one (ps_ret (pe_lc (own := [("figure", 7)]) rfl sc_multiplied.nd (pi_listK (K := K) rfl (pv 5)) (blkOk_by (own := [("figure", 7)]) (N := ["prime", "lower", "one", "other", "degree", "rest", "place", "figure", "step", "factor", "low", "lead"]) (sc := defScope s_multiplied) (by decide +kernel)) (fun _ _ _ _ _ => (pg_name (i := 7) sc_multiplied.nd rfl (Or.inl rfl))) (fun _ _ _ _ _ => pts_nil) (fun _ _ _ _ _ => (pe_op op_mod (pv 7) (pv 0))))))))))), ?_⟩
    refine q_asg (ev_lenL (ev_var rfl) hL) fun H1 e1 => ?_
    have hdl : ((lo.map V.int).length : Int) = (lo.length : Int) := by rw [List.length_map]
    have hn2 : (2 * ((lo.map V.int).length : Int) - 1).toNat = 2 * lo.length - 1 := by rw [hdl]; omega
    refine q_asgL (el_rep (el_lst (ea_cons ev_c ea_nil) (by decide)) (fun H2 _ => ev_op (ev_op ev_c (ev_var rfl) (rv_I (.inl ⟨by decide, by decide⟩))) ev_c rv_I0) (by omega) (by decide)) fun o H2 no e2 ho => ?_
    have no' : H o = none := fresh_back e1 no
    have hr0 : (List.replicate (2 * ((lo.map V.int).length : Int) - 1).toNat [V.int 0]).flatten = (List.replicate (2 * lo.length - 1) 0).map V.int := by rw [rep1, hn2, List.map_replicate]
    rw [hr0] at ho
    generalize hR0 : List.replicate (2 * lo.length - 1) (0 : Int) = R0 at *
    have hR0l : R0.length = 2 * lo.length - 1 := by rw [← hR0, List.length_replicate]
    -- for place, figure in enumerate(one)
    refine q_forW (gets_enum (ev_var rfl) (ex_l (e1.trans e2) hO)) (walk_enum (xs := on.map V.int)) (fun i σ' H' => ∃ (y6 y7 y8 y9 : Option V), σ' = [some (.int p), some (.ref la), some (.ref oa), some (.ref ta), some (.int ((lo.map V.int).length : Int)), some (.ref o), y6, y7, y8, y9, none, none] ∧ Ex H H' ∧ H' o = some (.lst ((mulA ot 0 (on.take i) R0).map V.int))) ?_ ?_ ?_ ?_
    · intro H3 e3; exact ⟨none, none, none, none, rfl, (e1.trans e2).trans e3, e3 o _ ho⟩
    · rintro i σ' H' _ ⟨y6, y7, y8, y9, rfl, e, _⟩; exact ex_l e hO
    · rintro i x σ' H' H3 hi ⟨y6, y7, y8, y9, rfl, e, h⟩ ⟨T, a1, a2, rfl, nT, rfl, f1, f2⟩
      obtain rfl : V.int (i : Nat) = a1 := Option.some.inj f1
      obtain ⟨n, hn, rfl⟩ := ints_get f2
      have hil : i < on.length := by rw [List.length_map] at hi; exact hi
      have hnm := hom n (List.mem_of_getElem? hn)
      refine g_pair (st_of upd_same) ?_
      have eT : Ex H' (upd H' T (.tup [.int (i : Nat), .int n])) := Ex.new nT
      have e' := e.trans eT
      have h' := eT o _ h
      have hsn : mulA ot 0 (on.take (i + 1)) R0 = if 0 < n then addL n i ot (mulA ot 0 (on.take i) R0) else mulA ot 0 (on.take i) R0 := by
        rw [take_at hn, mulA_snoc, List.length_take, Nat.min_eq_left (by omega), Nat.zero_add]
      have hRl : (mulA ot 0 (on.take i) R0).length = 2 * lo.length - 1 := by rw [mulA_len, hR0l]
      generalize hR : mulA ot 0 (on.take i) R0 = R at *
      refine s_when (et_test (ev_op (ev_var rfl) ev_c rv_I0)) (fun hb H4 e4 => ?_) (fun hb H4 e4 => ?_)
      · have hn0 : 0 < n := of_decide_eq_true hb
        rw [if_pos hn0] at hsn
        refine s_forW (gets_enum (ev_var rfl) (ex_l (e'.trans e4) hT)) (walk_enum (xs := ot.map V.int)) (fun j σ2 H5 => ∃ (y8 y9 : Option V), σ2 = [some (.int p), some (.ref la), some (.ref oa), some (.ref ta), some (.int ((lo.map V.int).length : Int)), some (.ref o), some (.int (i : Nat)), some (.int n), y8, y9, none, none] ∧ Ex H H5 ∧ H5 o = some (.lst ((addL n i (ot.take j) R).map V.int))) ?_ ?_ ?_ ?_
        · intro H5 e5; exact ⟨_, _, rfl, (e'.trans e4).trans e5, e5 o _ (e4 o _ h')⟩
        · rintro j σ2 H5 _ ⟨y8, y9, rfl, e5, _⟩; exact ex_l e5 hT
        · rintro j x σ2 H5 H6 hj ⟨y8, y9, rfl, e5, h5⟩ ⟨T2, b1, b2, rfl, nT2, rfl, g1, g2⟩
          obtain rfl : V.int (j : Nat) = b1 := Option.some.inj g1
          obtain ⟨z, hz, rfl⟩ := ints_get g2
          have hjl : j < ot.length := by rw [List.length_map] at hj; exact hj
          refine g_pair (st_of upd_same) ?_
          have eT2 : Ex H5 (upd H5 T2 (.tup [.int (j : Nat), .int z])) := Ex.new nT2
          have hAl : (addL n i (ot.take j) R).length = 2 * lo.length - 1 := by rw [addL_len, hRl]
          refine s_augS (j := i + j) (eT2 o _ h5) (ev_var rfl) (ev_is (ev_op (ev_var rfl) (ev_var rfl) rv_I0) (congrArg V.int (by omega))) (by rw [List.length_map, hAl]; omega) (ints_at (getD_at (by omega))) (ev_op (ev_var rfl) (ev_var rfl) (rv_I (.inl ⟨by omega, by omega⟩))) fun H7 e7 => ?_
          refine ⟨_, _, rfl, ((e5.trans eT2).trans e7).mut no', ?_⟩
          rw [upd_same, take_at hz, addL_snoc, List.length_take, Nat.min_eq_left (by omega), List.map_set]
        · rintro σ2 H5 ⟨y8, y9, rfl, e5, h5⟩
          rw [List.length_map, List.take_length] at h5
          exact ⟨_, _, _, _, rfl, e5, by rw [hsn]; exact h5⟩
      · have hn0 : ¬ 0 < n := of_decide_eq_false hb
        rw [if_neg hn0] at hsn
        exact ⟨_, _, _, _, rfl, e'.trans e4, by rw [hsn]; exact e4 o _ h'⟩
    · rintro σ' H3 ⟨y6, y7, y8, y9, rfl, e3, h3⟩
      rw [List.length_map, List.take_length] at h3
      have hMl : (mulA ot 0 on R0).length = 2 * lo.length - 1 := by rw [mulA_len, hR0l]
      generalize hM : mulA ot 0 on R0 = M at *
      -- low = [..]
      refine q_asgTE (lcEA (ev_var rfl) (hL.mono e3) (fun D i H' => H3 D = none ∧ Ex H3 H' ∧ i ≤ 12 ∧ ∃ acc, H' D = some (.lst acc) ∧ acc.length ≤ i ∧ PairsAt H' acc (lowP 0 (lo.take i))) (fun D H4 e4 hD => ⟨fresh_back e4 hD, e4.mut (fresh_back e4 hD), by omega, [], upd_same, Nat.le_refl _, .nil⟩) (fun D i H' ⟨_, e, _⟩ => e) ?_ ?_)
      · rintro D i x H' H5 hi ⟨nD, e, hi12, acc, hacc, hal, hP⟩ ⟨T, a1, a2, rfl, nT, rfl, f1, f2⟩
        obtain rfl : V.int (i : Nat) = a1 := Option.some.inj f1
        obtain ⟨n, hn, rfl⟩ := ints_get f2
        have hil : i < lo.length := by rw [List.length_map] at hi; exact hi
        refine g_pair (st_of upd_same) ⟨rfl, ?_⟩
        have eT : Ex H' (upd H' T (.tup [.int (i : Nat), .int n])) := Ex.new nT
        have hsn : lowP 0 (lo.take (i + 1)) = lowP 0 (lo.take i) ++ (if 0 < n then [(i, n)] else []) := by
          rw [take_at hn, lowP_snoc, List.length_take, Nat.min_eq_left (by omega), Nat.zero_add]
        refine et_test (ev_op (ev_var rfl) ev_c rv_I0) _ (Ex.refl _) _ fun H6 e6 => ?_
        have e56 := eT.trans e6
        refine ite2 (fun hb => ?_) (fun hb => ?_)
        · have hn0 : 0 < n := of_decide_eq_true hb
          rw [if_pos hn0] at hsn
          refine eu_tup (ea_cons (ev_var rfl) (ea_cons (ev_var rfl) ea_nil)) (by show 2 ≤ 100000; decide) _ (Ex.refl _) _ fun t H7 nt e7 ht => ?_
          have e57 := e56.trans e7
          refine ⟨acc, e57 D _ hacc, sz_lt (by omega), nD, (e.trans e57).mut nD, by omega, acc ++ [.ref t], upd_same, by rw [List.length_append]; show acc.length + 1 ≤ i + 1; omega, ?_⟩
          rw [hsn]
          exact ((hP.mono e57).snoc ⟨t, rfl, ht⟩).upd (e57 D _ hacc)
        · have hn0 : ¬ 0 < n := fun z => hb (decide_eq_true z)
          rw [if_neg hn0, List.append_nil] at hsn
          exact ⟨nD, e.trans e56, by omega, acc, e56 D _ hacc, by omega, by rw [hsn]; exact hP.mono e56⟩
      · rintro D H5 ⟨nD, e5, _, acc, hacc, hal, hP⟩
        have hDo : o ≠ D := ne_of_none h3 nD
        rw [List.length_map, List.take_length] at hP
        have hlm : ∀ q ∈ lowP 0 lo, q.1 < lo.length := fun q hq => by have := lowP_mem lo 0 q hq; omega
        generalize hlow : lowP 0 lo = low at *
        -- while len(rest) > degree
        refine q_while (fun m σ2 H6 => ∃ (ks : List Int) (y6 y7 y8 y9 y11 : Option V), σ2 = [some (.int p), some (.ref la), some (.ref oa), some (.ref ta), some (.int ((lo.map V.int).length : Int)), some (.ref o), y6, y7, y8, y9, some (.ref D), y11] ∧ Ex H H6 ∧ H6 o = some (.lst (ks.map V.int)) ∧ H6 D = some (.lst acc) ∧ PairsAt H6 acc low ∧
            lo.length ≤ ks.length ∧ ks.length ≤ m + lo.length ∧ ks.length ≤ 100 ∧ redL p lo.length low m ks = redL p lo.length low (2 * lo.length) M) (2 * lo.length)
          ⟨M, y6, y7, y8, y9, none, rfl, e3.trans e5, e5 o _ h3, hacc, hP, by omega, by omega, by omega, rfl⟩ ?_
        rintro m σ2 H6 ⟨ks, y6, y7, y8, y9, y11, rfl, e6, h6, hD6, hP6, hk1, hk2, hk3, hi⟩
        refine ⟨_, et_test (ev_op (ev_lenL (ev_var rfl) (.inl (sq_of h6))) (ev_var rfl) rv_I0), fun hc H7 e7 => ?_, fun hc H7 e7 => ?_⟩
        · have hc' := of_decide_eq_true hc
          rw [List.length_map, List.length_map] at hc'
          obtain ⟨m', rfl⟩ : ∃ m', m = m' + 1 := ⟨m - 1, by omega⟩
          obtain ⟨kl, kz, rfl⟩ := last_int (show ks ≠ [] from fun y => by
            have h1 : ks.length = 0 := by rw [y]; rfl
            omega)
          have hkz : (kl ++ [kz]).getD ((kl ++ [kz]).length - 1) 0 = kz := by simp [List.getD_eq_getElem?_getD]
          have hkl : (kl ++ [kz]).length = kl.length + 1 := by rw [List.length_append]; rfl
          have hdl2 : (kl ++ [kz]).dropLast = kl := List.dropLast_concat
          refine ⟨fun σ2 H2 => ∃ m2, m2 < m' + 1 ∧ ∃ (ks : List Int) (y6 y7 y8 y9 y11 : Option V), σ2 = [some (.int p), some (.ref la), some (.ref oa), some (.ref ta), some (.int ((lo.map V.int).length : Int)), some (.ref o), y6, y7, y8, y9, some (.ref D), y11] ∧ Ex H H2 ∧ H2 o = some (.lst (ks.map V.int)) ∧ H2 D = some (.lst acc) ∧ PairsAt H2 acc low ∧
            lo.length ≤ ks.length ∧ ks.length ≤ m2 + lo.length ∧ ks.length ≤ 100 ∧ redL p lo.length low m2 ks = redL p lo.length low (2 * lo.length) M, fun _ _ h => h, ?_⟩
          refine q_popMod (e7 o _ h6) (ev_var rfl) (n := kz) (p := p) (by rw [List.map_append]; simp) hp0 (fun H' => ev_var rfl) fun H8 H9 e8 e9 => ?_
          have hdr : ((kl ++ [kz]).map V.int).dropLast = kl.map V.int := by rw [← List.map_dropLast, hdl2]
          rw [hdr] at e9
          have e68 := e7.trans e8
          have h9 : H9 o = some (.lst (kl.map V.int)) := e9 o _ upd_same
          have hD9 : H9 D = some (.lst acc) := e9 D _ (by rw [upd_ne hDo.symm]; exact e68 D _ hD6)
          have hP9 : PairsAt H9 acc low := ((hP6.mono e68).upd (e68 o _ h6)).mono e9
          have eH9 : Ex H H9 := ((e6.trans e68).mut no').trans e9
          have hld : 0 ≤ kz % p ∧ kz % p < p := ⟨Int.emod_nonneg _ (by omega), Int.emod_lt_of_pos _ hp0⟩
          generalize hld' : kz % p = L at *
          refine q_asg (ev_op (ev_lenL (ev_var rfl) (.inl (sq_of h9))) (ev_var rfl) rv_I0) fun H10 e10 => ?_
          have hpl : ((kl.map V.int).length : Int) - ((lo.map V.int).length : Int) = ((kl.length - lo.length : Nat) : Int) := by rw [List.length_map, List.length_map]; omega
          refine s_forW (gets_list (ev_var rfl) (sq_of (e10 D _ hD9))) (walk_list (xs := acc)) (fun i σ3 H11 => ∃ (y7 y8 : Option V), σ3 = [some (.int p), some (.ref la), some (.ref oa), some (.ref ta), some (.int ((lo.map V.int).length : Int)), some (.ref o), some (.int ((kl.length - lo.length : Nat) : Int)), y7, y8, y9, some (.ref D), some (.int L)] ∧ Ex H H11 ∧ H11 D = some (.lst acc) ∧ PairsAt H11 acc low ∧ H11 o = some (.lst ((subP L (kl.length - lo.length) (low.take i) kl).map V.int))) ?_ ?_ ?_ ?_
          · intro H11 e11
            exact ⟨_, _, by rw [← hpl]; rfl, (eH9.trans e10).trans e11, e11 D _ (e10 D _ hD9), (hP9.mono e10).mono e11, e11 o _ (e10 o _ h9)⟩
          · rintro i σ3 H11 _ ⟨_, _, rfl, _, hD11, _⟩; exact sq_of hD11
          · rintro i x σ3 H11 H12 hi' ⟨y7', y8', rfl, e11, hD11, hP11, h11⟩ ⟨rfl, hx⟩
            obtain ⟨⟨qs, qf⟩, hq, t, rfl, ht⟩ := hP11.get hx
            refine g_pair (st_of ht) ?_
            have hqs : qs < lo.length := hlm _ (List.mem_of_getElem? hq)
            have hsl : (subP L (kl.length - lo.length) (low.take i) kl).length = kl.length := subP_len _ _ _ _
            refine s_augS (j := kl.length - lo.length + qs) h11 (ev_var rfl) (ev_is (ev_op (ev_var rfl) (ev_var rfl) rv_I0) (congrArg V.int (show ((kl.length - lo.length : Nat) : Int) + ((qs : Nat) : Int) = ((kl.length - lo.length + qs : Nat) : Int) by omega))) (by rw [List.length_map, hsl]; omega) (ints_at (getD_at (by omega))) (ev_op (ev_var rfl) (ev_var rfl) (rv_I (.inl ⟨by omega, by omega⟩))) fun H13 e13 => ?_
            refine ⟨_, _, rfl, (e11.trans e13).mut no', by rw [upd_ne hDo.symm]; exact e13 D _ hD11, (hP11.mono e13).upd (e13 o _ h11), ?_⟩
            rw [upd_same, take_at hq, subP_snoc, List.map_set]
          · rintro σ3 H11 ⟨y7', y8', rfl, e11, hD11, hP11, h11⟩
            have hal' : acc.length = low.length := hP11.len
            rw [hal', List.take_length] at h11
            refine ⟨m', by omega, _, _, _, _, _, _, rfl, e11, h11, hD11, hP11, ?_, ?_, ?_, ?_⟩
            · rw [subP_len]; omega
            · rw [subP_len]; omega
            · rw [subP_len]; omega
            · rw [← hi, redL, if_pos (by omega), hkz, hld', hdl2, show (kl ++ [kz]).length - 1 - lo.length = kl.length - lo.length by omega]
        · have hc' := of_decide_eq_false hc
          rw [List.length_map, List.length_map] at hc'
          have hks : redL p lo.length low m ks = ks := by
            cases m with
            | zero => rfl
            | succ m => rw [redL, if_neg (by omega)]
          refine s_retL (el_mapI (fun n => n % p) (ev_var rfl) (sq_of (e7 o _ h6)) (by omega) (fun x => rfl) fun n H8 _ e8 => ev_op (ev_var rfl) (ev_var rfl) (rv_I hp0)) fun r H8 nr e8 hr8 => ?_
          refine q r H8 (fresh_back (e6.trans e7) nr) ((e6.trans e7).trans e8) ?_
          rw [hr8]
          unfold mulM
          rw [hlow, hR0, hM, ← hi, hks]

def spCommon (K : PySem.W.Frag) : Sp := fun vs H Q _ => ∃ (p : Int) (a b : Addr) (ns ms : List Int), vs = [.int p, .ref a, .ref b] ∧ (2 ≤ p ∧ p ≤ 1000000) ∧ SqL K H a (ns.map V.int) ∧ SqL K H b (ms.map V.int) ∧ ns.length ≤ 100 ∧ ms.length ≤ 100 ∧ RetV (.bl (commonB p ns ms)) H Q
theorem ok_have_common_factor (D : Df K mg "have_common_factor" s_have_common_factor ["prime", "one", "other"]) (B : Bt mg) (c_without_high_zeros : Cd P w K mg base 1 "without_high_zeros" (spHZ K)) (c_remainder_by : Cd P w K mg base 2 "remainder_by" (spRemB K)) : Cd P w K mg base 3 "have_common_factor" (spCommon K) := by
  refine D.ok sc_have_common_factor (fun vs H Q E h => ?_) (fun f cdv A outer s H vs Q E hr h => ?_)
  · obtain ⟨p, a, b, ns, ms, rfl, _⟩ := h; rfl
  · obtain ⟨p, a, b, ns, ms, rfl, hp, hS, hT, hn, hm, q⟩ := h
    refine ⟨_, (pss_cons (ps_set (i := 1) sc_have_common_factor.nd rfl (Or.inl rfl) (pe_cd c_without_high_zeros hr (by decide) (by rfl) (pa_cons (pv 1) pa_nil)))
      (pss_cons (ps_set (i := 2) sc_have_common_factor.nd rfl (Or.inl rfl) (pe_cd c_without_high_zeros hr (by decide) (by rfl) (pa_cons (pv 2) pa_nil)))
      (pss_cons (ps_while PassesOwn.never (pt_truth (pv 2) (fun _ => rfl)) (pss_one (ps_par (i := 1) (j := 2) rfl sc_have_common_factor.nd rfl rfl (by decide) rfl rfl (pa_cons (pv 2) (pa_cons (pe_cd c_remainder_by hr (by decide) (by rfl) (pa_cons (pv 0) (pa_cons (pv 1) (pa_cons (pv 2) pa_nil)))) pa_nil)) rfl)))
      (pss_one (ps_ret (pe_cmpR op_gt (pe_callB (call_lenK (K := K) rfl) (by rfl) B.len PySem.boot_len (pa_cons (pv 1) pa_nil)) pe_int (nomark _))))))), ?_⟩
    refine q_asgL (el_call (vs := [.ref a]) (ea_cons (ev_var rfl) ea_nil) fun H4 e4 Q q E => ⟨a, ns, rfl, ex_l e4 hS, by omega, q⟩) fun o H1 no e1 ho => ?_
    refine q_asgL (el_call (vs := [.ref b]) (ea_cons (ev_var rfl) ea_nil) fun H4 e4 Q q E => ⟨b, ms, rfl, ex_l (e1.trans e4) hT, by omega, q⟩) fun t H2 nt e2 ht => ?_
    have hl1 := dropHZ_len ns
    have hl2 := dropHZ_len ms
    refine q_while (fun m σ' H' => ∃ (x y : Addr) (xs ys : List Int), σ' = [some (.int p), some (.ref x), some (.ref y)] ∧ Ex H H' ∧ H' x = some (.lst (xs.map V.int)) ∧ H' y = some (.lst (ys.map V.int)) ∧ xs.length ≤ 100 ∧ ys.length ≤ 100 ∧ ys.length ≤ m ∧ gcdL p (m + 1) xs ys = gcdL p (ms.length + 1) (dropHZ ns) (dropHZ ms)) ms.length
      ⟨o, t, dropHZ ns, dropHZ ms, rfl, e1.trans e2, e2 o _ ho, ht, by omega, by omega, hl2, rfl⟩ ?_
    rintro m σ' H' ⟨x, y, xs, ys, rfl, e, hx, hy, hxl, hyl, hym, hi⟩
    refine ⟨_, et_truL (ev_var rfl) (sq_of hy), fun hc H3 e3 => ?_, fun hc H3 e3 => ?_⟩
    · have hne : ys ≠ [] := fun z => by rw [z] at hc; cases hc
      have hpos := List.length_pos_iff.mpr hne
      obtain ⟨m', rfl⟩ : ∃ m', m = m' + 1 := ⟨m - 1, by omega⟩
      refine ⟨fun σ2 H2 => ∃ m2, m2 < m' + 1 ∧ ∃ (x y : Addr) (xs ys : List Int), σ2 = [some (.int p), some (.ref x), some (.ref y)] ∧ Ex H H2 ∧ H2 x = some (.lst (xs.map V.int)) ∧ H2 y = some (.lst (ys.map V.int)) ∧ xs.length ≤ 100 ∧ ys.length ≤ 100 ∧ ys.length ≤ m2 ∧ gcdL p (m2 + 1) xs ys = gcdL p (ms.length + 1) (dropHZ ns) (dropHZ ms), fun _ _ h => h, ?_⟩
      refine s_parL (ev_var rfl) (el_call (vs := [.int p, .ref x, .ref y]) (ea_cons (ev_var rfl) (ea_cons (ev_var rfl) (ea_cons (ev_var rfl) ea_nil))) fun H4 e4 Q q E => ⟨p, x, y, xs, ys, rfl, hp, sq_of (e4 x _ (e3 x _ hx)), sq_of (e4 y _ (e3 y _ hy)), hxl, hyl, hne, q⟩) fun r H4 nr e4 hr4 => ?_
      have hrl := remB_len p xs ys hne
      refine ⟨m', by omega, y, r, ys, remB p xs ys, rfl, (e.trans e3).trans e4, e4 y _ (e3 y _ hy), hr4, hyl, by omega, by omega, ?_⟩
      rw [← hi]
      show _ = gcdL p (m' + 1 + 1) xs ys
      rw [gcdL.eq_def p (m' + 1 + 1) xs ys]
      simp [hne]
    · have hne : ys = [] := by
        cases ys with
        | nil => rfl
        | cons z zs => cases hc
      subst hne
      refine s_ret (ev_op (ev_lenL (ev_var rfl) (.inl (sq_of (e3 x _ hx)))) ev_c rv_I0) fun H4 e4 => ?_
      have h1 : gcdL p (m + 1) xs [] = xs := rfl
      have := q H4 ((e.trans e3).trans e4)
      unfold commonB at this
      rw [← hi, h1] at this
      rw [List.length_map]; exact this
def spRaised (K : PySem.W.Frag) : Sp := fun vs H Q _ => ∃ (p t : Int) (la oa : Addr) (lo on : List Int), vs = [.int p, .ref la, .ref oa, .int t] ∧ (2 ≤ p ∧ p ≤ 1000000) ∧ SqA K H la (lo.map V.int) ∧ SqL K H oa (on.map V.int) ∧ (1 ≤ lo.length ∧ lo.length ≤ 12) ∧
  on.length = lo.length ∧ (∀ x ∈ on, 0 ≤ x ∧ x < p) ∧ (0 ≤ t ∧ t < sizeI 2 64) ∧ RetL ((raisedL p lo on t).map V.int) H Q
theorem ok_raised (D : Df K mg "raised" s_raised ["prime", "lower", "figures", "times"]) (B : Bt mg) (c_multiplied : Cd P w K mg base 1 "multiplied" (spMul K)) : Cd P w K mg base 2 "raised" (spRaised K) := by
  refine D.ok sc_raised (fun vs H Q E h => ?_) (fun f cdv A outer s H vs Q E hr h => ?_)
  · obtain ⟨p, t, la, oa, lo, on, rfl, _⟩ := h; rfl
  · obtain ⟨p, t, la, oa, lo, on, rfl, hp, hL, hO, hd, hon, hom, ht, q⟩ := h
    have hdl : ((lo.map V.int).length : Int) = (lo.length : Int) := by rw [List.length_map]
    have hone := oneL_ok hp.1 hd.1
    refine ⟨_, (pss_cons (ps_set (i := 4) sc_raised.nd rfl (Or.inl rfl) (pe_op op_cat (pe_lst (pa_cons pe_int pa_nil)) (pe_op op_rep (pe_lst (pa_cons pe_int pa_nil)) (pe_op op_sub (pe_callB (call_lenK (K := K) rfl) (by rfl) B.len PySem.boot_len (pa_cons (pv 1) pa_nil)) pe_int))))
      (pss_cons (ps_while PassesOwn.never (pt_cmpR op_gt (pv 3) pe_int (nomark _)) (pss_cons (ps_if (pt_cmpR op_eq (pe_op op_mod (pv 3) pe_int) pe_int (nomark _)) (pss_one (ps_set (i := 4) sc_raised.nd rfl (Or.inl rfl) (pe_cd c_multiplied hr (by decide) (by rfl) (pa_cons (pv 0) (pa_cons (pv 1) (pa_cons (pv 4) (pa_cons (pv 2) pa_nil))))))) pss_nil)
          (pss_cons (ps_set (i := 3) sc_raised.nd rfl (Or.inl rfl) (pe_op op_fdiv (pv 3) pe_int))
          (pss_one (ps_if (pt_cmpR op_gt (pv 3) pe_int (nomark _)) (pss_one (ps_set (i := 2) sc_raised.nd rfl (Or.inl rfl) (pe_cd c_multiplied hr (by decide) (by rfl) (pa_cons (pv 0) (pa_cons (pv 1) (pa_cons (pv 2) (pa_cons (pv 2) pa_nil))))))) pss_nil)))))
      (pss_one (ps_ret (pv 4))))), ?_⟩
    refine q_asgL (el_cat (el_lst (ea_cons ev_c ea_nil) (by show 1 ≤ 100000; decide)) (fun H2 e2 => el_rep (el_lst (ea_cons ev_c ea_nil) (by show 1 ≤ 100000; decide)) (fun H3 e3 => ev_op (ev_lenL (ev_var rfl) (hL.mono (e2.trans e3))) ev_c rv_I0) (by omega) (by show 1 ≤ 10; decide)) (by rw [rep1, List.length_replicate, hdl]; show 1 + _ ≤ _; omega)) fun o H1 no e1 ho => ?_
    have hr0 : [V.int 1] ++ (List.replicate (((lo.map V.int).length : Int) - 1).toNat [V.int 0]).flatten = (oneL lo.length).map V.int := by
      rw [rep1, hdl, show ((lo.length : Int) - 1).toNat = lo.length - 1 by omega]
      unfold oneL
      rw [List.map_cons, List.map_replicate]; rfl
    rw [hr0] at ho
    refine q_while (fun m σ' H' => ∃ (r g : Addr) (rs gs : List Int) (t' : Int), σ' = [some (.int p), some (.ref la), some (.ref g), some (.int t'), some (.ref r)] ∧ Ex H H' ∧ H r = none ∧ H' r = some (.lst (rs.map V.int)) ∧ SqL K H' g (gs.map V.int) ∧ rs.length = lo.length ∧ gs.length = lo.length ∧ (∀ x ∈ rs, 0 ≤ x ∧ x < p) ∧ (∀ x ∈ gs, 0 ≤ x ∧ x < p) ∧ (0 ≤ t' ∧ t' < sizeI 2 m) ∧ powL p lo m rs gs t' = raisedL p lo on t) 64
      ⟨o, oa, oneL lo.length, on, t, rfl, e1, no, ho, ex_l e1 hO, hone.1, hon, hone.2, hom, ht, rfl⟩ ?_
    rintro m σ' H' ⟨r, g, rs, gs, t', rfl, e, nr, hrr, hg, hrl, hgl, hrm, hgm, ht', hi⟩
    refine ⟨_, et_test (ev_op (ev_var rfl) ev_c rv_I0), fun hc H3 e3 => ?_, fun hc H3 e3 => ?_⟩
    · have ht0 : 0 < t' := of_decide_eq_true hc
      obtain ⟨m', rfl⟩ : ∃ m', m = m' + 1 := by
        cases m with
        | zero => have h1 : sizeI 2 0 = 1 := rfl
                  rw [h1] at ht'; omega
        | succ m => exact ⟨m, rfl⟩
      have hhalf : 0 ≤ t' / 2 ∧ t' / 2 < sizeI 2 m' := ⟨by omega, Int.ediv_lt_of_lt_mul (by decide) ht'.2⟩
      have mulcall : ∀ {σ : L2.St} {Hx : Hp} {ta tb tc td : TE} {x y : Addr} {xs ys : List Int}, Ex H Hx → Ev ta σ Hx (.int p) → Ev tb σ Hx (.ref la) → Ev tc σ Hx (.ref x) → Ev td σ Hx (.ref y) → SqL K Hx x (xs.map V.int) → SqL K Hx y (ys.map V.int) → xs.length = lo.length → ys.length = lo.length → (∀ z ∈ xs, 0 ≤ z ∧ z < p) →
          EvL (tCall (spMul K) [] L2.E0 (tCons ta (tCons tb (tCons tc (tCons td tNil))))) σ Hx ((mulM p lo xs ys).map V.int) := fun ex a b c d h1 h2 h3 h4 h5 =>
        el_call (vs := [.int p, .ref la, .ref _, .ref _]) (ea_cons a (ea_cons b (ea_cons c (ea_cons d ea_nil)))) fun H4 e4 Q q E => ⟨p, la, _, _, lo, _, _, rfl, hp, hL.mono (ex.trans e4), ex_l e4 h1, ex_l e4 h2, hd, h3, h4, h5, q⟩
      refine ⟨fun σ2 H2 => ∃ m2, m2 < m' + 1 ∧ ∃ (r g : Addr) (rs gs : List Int) (t' : Int), σ2 = [some (.int p), some (.ref la), some (.ref g), some (.int t'), some (.ref r)] ∧ Ex H H2 ∧ H r = none ∧ H2 r = some (.lst (rs.map V.int)) ∧ SqL K H2 g (gs.map V.int) ∧ rs.length = lo.length ∧ gs.length = lo.length ∧ (∀ x ∈ rs, 0 ≤ x ∧ x < p) ∧ (∀ x ∈ gs, 0 ≤ x ∧ x < p) ∧ (0 ≤ t' ∧ t' < sizeI 2 m2) ∧ powL p lo m2 rs gs t' = raisedL p lo on t, fun _ _ h => h, ?_⟩
      rw [powL, if_pos ht0] at hi
      -- the rest of the turn, from a result
      have rest : ∀ (r2 : Addr) (rs2 : List Int) (H4 : Hp), rs2 = (if t' % 2 = 1 then mulM p lo rs gs else rs) → Ex H3 H4 → H r2 = none → H4 r2 = some (.lst (rs2.map V.int)) →
          tSeq (tAsg (tOp (rI CDiv fun i j => V.int (i / j)) (tVar 3) (tC (.int 2))) (gName 3)) (tIfS (tTest (tOp (rI0 fun i j => .bl (decide (j < i))) (tVar 3) (tC (.int 0)))) (tAsg (tCall (spMul K) [] L2.E0 (tCons (tVar 0) (tCons (tVar 1) (tCons (tVar 2) (tCons (tVar 2) tNil))))) (gName 2)) tNext)
            { nx := fun σ2 H2 => ∃ m2, m2 < m' + 1 ∧ ∃ (r g : Addr) (rs gs : List Int) (t' : Int), σ2 = [some (.int p), some (.ref la), some (.ref g), some (.int t'), some (.ref r)] ∧ Ex H H2 ∧ H r = none ∧ H2 r = some (.lst (rs.map V.int)) ∧ SqL K H2 g (gs.map V.int) ∧ rs.length = lo.length ∧ gs.length = lo.length ∧ (∀ x ∈ rs, 0 ≤ x ∧ x < p) ∧ (∀ x ∈ gs, 0 ≤ x ∧ x < p) ∧ (0 ≤ t' ∧ t' < sizeI 2 m2) ∧ powL p lo m2 rs gs t' = raisedL p lo on t, rt := Q, bk := tRet (tVar 4) { nx := fun x H' => Q .non H', rt := Q }, ct := fun σ2 H2 => ∃ m2, m2 < m' + 1 ∧ ∃ (r g : Addr) (rs gs : List Int) (t' : Int), σ2 = [some (.int p), some (.ref la), some (.ref g), some (.int t'), some (.ref r)] ∧ Ex H H2 ∧ H r = none ∧ H2 r = some (.lst (rs.map V.int)) ∧ SqL K H2 g (gs.map V.int) ∧ rs.length = lo.length ∧ gs.length = lo.length ∧ (∀ x ∈ rs, 0 ≤ x ∧ x < p) ∧ (∀ x ∈ gs, 0 ≤ x ∧ x < p) ∧ (0 ≤ t' ∧ t' < sizeI 2 m2) ∧ powL p lo m2 rs gs t' = raisedL p lo on t }
            [some (.int p), some (.ref la), some (.ref g), some (.int t'), some (.ref r2)] H4 := by
        intro r2 rs2 H4 hrs e4 nr2 hr2
        have hr2l : rs2.length = lo.length := by rw [hrs]; split; exact mulM_len hd.1; exact hrl
        have hr2m : ∀ x ∈ rs2, 0 ≤ x ∧ x < p := by rw [hrs]; split; exact mulM_mem (by omega); exact hrm
        rw [← hrs] at hi
        refine q_asg (ev_op (ev_var rfl) ev_c (rv_I ⟨by decide, by decide⟩)) fun H5 e5 => ?_
        refine s_when (et_test (ev_op (ev_var rfl) ev_c rv_I0)) (fun hb H6 e6 => ?_) (fun hb H6 e6 => ?_)
        · have h20 : 0 < t' / 2 := of_decide_eq_true hb
          rw [if_pos h20] at hi
          have e36 := (e4.trans e5).trans e6
          refine s_asgL (mulcall ((e.trans e3).trans e36) (ev_var rfl) (ev_var rfl) (ev_var rfl) (ev_var rfl) (ex_l (e3.trans e36) hg) (ex_l (e3.trans e36) hg) hgl hgl hgm) fun g2 H7 ng e7 hg2 => ?_
          exact ⟨m', by omega, r2, g2, rs2, mulM p lo gs gs, t' / 2, rfl, ((e.trans e3).trans e36).trans e7, nr2, e7 r2 _ (e6 r2 _ (e5 r2 _ hr2)), sq_of hg2, hr2l, mulM_len hd.1, hr2m, mulM_mem (by omega), hhalf, hi⟩
        · have h20 : ¬ 0 < t' / 2 := of_decide_eq_false hb
          rw [if_neg h20] at hi
          have e36 := (e4.trans e5).trans e6
          exact ⟨m', by omega, r2, g, rs2, gs, t' / 2, rfl, (e.trans e3).trans e36, nr2, e6 r2 _ (e5 r2 _ hr2), ex_l (e3.trans e36) hg, hr2l, hgl, hr2m, hgm, hhalf, hi⟩
      refine q_when (et_test (ev_op (ev_op (ev_var rfl) ev_c (rv_I (by decide))) ev_c (rv_eq rfl))) (fun hb H4 e4 => ?_) (fun hb H4 e4 => ?_)
      · have hodd : t' % 2 = 1 := V.int.inj (of_decide_eq_true hb)
        refine s_asgL (mulcall ((e.trans e3).trans e4) (ev_var rfl) (ev_var rfl) (ev_var rfl) (ev_var rfl) (sq_of (e4 r _ (e3 r _ hrr))) (ex_l (e3.trans e4) hg) hrl hgl hrm) fun r2 H5 nr2 e5 hr2 => ?_
        exact rest r2 (mulM p lo rs gs) H5 (by rw [if_pos hodd]) (e4.trans e5) (fresh_back ((e.trans e3).trans e4) nr2) hr2
      · have hodd : ¬ t' % 2 = 1 := fun z => of_decide_eq_false hb (congrArg V.int z)
        exact rest r rs H4 (by rw [if_neg hodd]) e4 nr (e4 r _ (e3 r _ hrr))
    · have ht0 : ¬ 0 < t' := of_decide_eq_false hc
      refine s_ret (ev_var rfl) fun H4 e4 => ?_
      have hz : powL p lo m rs gs t' = rs := by
        cases m with
        | zero => rfl
        | succ m => rw [powL, if_neg ht0]
      refine q r H4 nr ((e.trans e3).trans e4) ?_
      rw [← hi, hz]; exact e4 r _ (e3 r _ hrr)

def spIrr (K : PySem.W.Frag) : Sp := fun vs H Q _ => ∃ (p : Int) (la : Addr) (lo : List Int), vs = [.int p, .ref la] ∧ (2 ≤ p ∧ p ≤ 1000000) ∧ SqL K H la (lo.map V.int) ∧ (2 ≤ lo.length ∧ lo.length ≤ 12) ∧ RetV (.bl (irr p lo)) H Q
theorem unk_ok {p : Int} (hp : 2 ≤ p) {d : Nat} (hd : 2 ≤ d) : (unkL d).length = d ∧ ∀ x ∈ unkL d, 0 ≤ x ∧ x < p := by
  refine ⟨by unfold unkL; rw [List.length_cons, List.length_cons, List.length_replicate]; omega, fun x hx => ?_⟩
  rcases List.mem_cons.mp hx with e | e
  · omega
  · rcases List.mem_cons.mp e with e | e
    · omega
    · have := List.eq_of_mem_replicate e; omega
theorem zipWith_take {f : Int → Int → Int} : ∀ (a b : List Int) (i : Nat) (x y : Int), a[i]? = some x → b[i]? = some y → List.zipWith f (a.take (i + 1)) (b.take (i + 1)) = List.zipWith f (a.take i) (b.take i) ++ [f x y]
  | [], _, _, _, _, h, _ => by simp at h
  | _ :: _, [], _, _, _, _, h => by simp at h
  | a :: as, b :: bs, 0, x, y, h1, h2 => by simp at h1 h2; subst h1; subst h2; rfl
  | a :: as, b :: bs, i + 1, x, y, h1, h2 => by
    show f a b :: List.zipWith f (as.take (i + 1)) (bs.take (i + 1)) = f a b :: (List.zipWith f (as.take i) (bs.take i) ++ [f x y])
    rw [zipWith_take as bs i x y (by simpa using h1) (by simpa using h2)]
theorem ok_is_irreducible (D : Df K mg "is_irreducible" s_is_irreducible ["prime", "lower"]) (B : Bt mg) (c_raised : Cd P w K mg base 2 "raised" (spRaised K)) (c_have_common_factor : Cd P w K mg base 3 "have_common_factor" (spCommon K)) : Cd P w K mg base 4 "is_irreducible" (spIrr K) := by
  refine D.ok sc_is_irreducible (fun vs H Q E h => ?_) (fun f cdv A outer s H vs Q E hr h => ?_)
  · obtain ⟨p, la, lo, rfl, _⟩ := h; rfl
  · obtain ⟨p, la, lo, rfl, hp, hL, hd, q⟩ := h
    have hdl : ((lo.map V.int).length : Int) = (lo.length : Int) := by rw [List.length_map]
    have hunk := unk_ok hp.1 hd.1
    have h00 : (lo.map V.int)[0]? = some (.int (lo.getD 0 0)) := ints_at (getD_at (by omega))
    refine ⟨_, (pss_cons (ps_set (i := 2) sc_is_irreducible.nd rfl (Or.inl rfl) (pe_callB (call_lenK (K := K) rfl) (by rfl) B.len PySem.boot_len (pa_cons (pv 1) pa_nil)))
      (pss_cons (ps_if (pt_cmpR op_eq (pe_ix (ix_listK (K := K) rfl) (pv 1) pe_int (fun _ _ => rfl)) pe_int (nomark _)) (pss_one (ps_ret pe_bl)) pss_nil)
      (pss_cons (ps_set (i := 3) sc_is_irreducible.nd rfl (Or.inl rfl) (pe_op op_cat (pe_lst (pa_cons pe_int (pa_cons pe_int pa_nil))) (pe_op op_rep (pe_lst (pa_cons pe_int pa_nil)) (pe_op op_sub (pv 2) pe_int))))
      (pss_cons (ps_set (i := 4) sc_is_irreducible.nd rfl (Or.inl rfl) (pv 3))
      (pss_cons (ps_for PassesOwn.never rfl (pi_range1 (by rfl) B.range (pa_cons (pe_op op_fdiv (pv 2) pe_int) pa_nil)) (pg_name (i := 5) sc_is_irreducible.nd rfl (Or.inl rfl)) (pss_cons (ps_set (i := 4) sc_is_irreducible.nd rfl (Or.inl rfl) (pe_cd c_raised hr (by decide) (by rfl) (pa_cons (pv 0) (pa_cons (pv 1) (pa_cons (pv 4) (pa_cons (pv 0) pa_nil))))))
          (pss_cons (ps_setLc (i := 6) (own := [("figure", 7), ("own", 8)]) rfl sc_is_irreducible.nd rfl rfl (sw_true rfl rfl rfl (by decide +kernel)) (pi_zip (by rfl) B.zip (pa_cons (pv 4) (pa_cons (pv 3) pa_nil))) (blkOk_by (own := [("figure", 7), ("own", 8)]) (N := ["prime", "lower", "degree", "unknown", "reached", "_", "change", "figure", "own"]) (sc := defScope s_is_irreducible) (by decide +kernel)) (fun _ _ _ _ _ => (pg_tupK (K := K) (n := 2) rfl rfl (pgs_cons (pg_name (i := 7) sc_is_irreducible.nd rfl (Or.inl rfl)) (pgs_cons (pg_name (i := 8) sc_is_irreducible.nd rfl (Or.inl rfl)) pgs_nil)))) (fun _ _ _ _ _ => pts_nil) (fun _ _ _ _ _ => (pe_op op_mod (pe_op op_sub (pv 7) (pv 8)) (pv 0))))
          (pss_one (ps_if (pt_val (pe_cd c_have_common_factor hr (by decide) (by rfl) (pa_cons (pv 0) (pa_cons (pe_lst (StX.pa_star (pv 1) (pa_cons pe_int pa_nil))) (pa_cons (pv 6) pa_nil))))) (pss_one (ps_ret pe_bl)) pss_nil)))))
      (pss_one (ps_ret pe_bl))))))), ?_⟩
    refine q_asg (ev_lenL (ev_var rfl) (.inl hL)) fun H1 e1 => ?_
    refine q_when (et_test (ev_op (ev_op (ev_var rfl) ev_c (rv_ixLn (j := 0) (ex_l e1 hL) h00)) ev_c (rv_eq rfl))) (fun hb H2 e2 => ?_) (fun hb H2 e2 => ?_)
    · have h0 : lo.getD 0 0 = 0 := V.int.inj (of_decide_eq_true hb)
      refine s_ret ev_c fun H3 e3 => ?_
      have hi : irr p lo = false := by unfold irr; rw [if_pos h0]
      have := q H3 ((e1.trans e2).trans e3)
      rw [hi] at this; exact this
    · have h0 : ¬ lo.getD 0 0 = 0 := fun z => of_decide_eq_false hb (congrArg V.int z)
      have hirr : irr p lo = irrL p lo (lo.length / 2) (unkL lo.length) := by unfold irr; rw [if_neg h0]
      refine q_asgL (el_cat (el_lst (ea_cons ev_c (ea_cons ev_c ea_nil)) (by show 2 ≤ 100000; decide)) (fun H2 e2 => el_rep (el_lst (ea_cons ev_c ea_nil) (by show 1 ≤ 100000; decide)) (fun H3 e3 => ev_op (ev_var rfl) ev_c rv_I0) (by omega) (by show 1 ≤ 10; decide)) (by rw [rep1, List.length_replicate, hdl]; show 2 + _ ≤ _; omega)) fun u H3 nu e3 hu => ?_
      have hr0 : [V.int 0, V.int 1] ++ (List.replicate (((lo.map V.int).length : Int) - 2).toNat [V.int 0]).flatten = (unkL lo.length).map V.int := by
        rw [rep1, hdl, show ((lo.length : Int) - 2).toNat = lo.length - 2 by omega]
        unfold unkL
        rw [List.map_cons, List.map_cons, List.map_replicate]; rfl
      rw [hr0] at hu
      have e13 := (e1.trans e2).trans e3
      refine q_asg (ev_var rfl) fun H4 e4 => ?_
      have hcount : (((lo.map V.int).length : Int) / 2).toNat = lo.length / 2 := by rw [hdl]; omega
      refine q_forW (gets_r1 (n := ((lo.map V.int).length : Int) / 2) (ev_op (ev_var rfl) ev_c (rv_I ⟨by decide, by decide⟩)) (by omega)) walk_range
        (fun i σ' H' => ∃ (r : Addr) (rs : List Int) (y5 y6 y7 y8 : Option V), σ' = [some (.int p), some (.ref la), some (.int ((lo.map V.int).length : Int)), some (.ref u), some (.ref r), y5, y6, y7, y8] ∧ Ex H H' ∧ H' u = some (.lst ((unkL lo.length).map V.int)) ∧ H' r = some (.lst (rs.map V.int)) ∧ rs.length = lo.length ∧ (∀ x ∈ rs, 0 ≤ x ∧ x < p) ∧ i ≤ lo.length / 2 ∧ irrL p lo (lo.length / 2 - i) rs = irr p lo) ?_ ?_ ?_ ?_
      · intro H5 e5
        exact ⟨u, unkL lo.length, none, none, none, none, rfl, (e13.trans e4).trans e5, e5 u _ (e4 u _ hu), e5 u _ (e4 u _ hu), hunk.1, hunk.2, by omega, by rw [hirr, Nat.sub_zero]⟩
      · intros; trivial
      · rintro i x σ' H' H5 hi ⟨r, rs, y5, y6, y7, y8, rfl, e, hu', hr', hrl, hrm, hi2, hirr'⟩ ⟨rfl, rfl⟩
        have hilt : i < lo.length / 2 := by rw [hcount] at hi; exact hi
        refine q_asgL (el_call (vs := [.int p, .ref la, .ref r, .int p]) (ea_cons (ev_var rfl) (ea_cons (ev_var rfl) (ea_cons (ev_var rfl) (ea_cons (ev_var rfl) ea_nil)))) fun H6 e6 Q q E => ⟨p, p, la, r, lo, rs, rfl, hp, .inl (ex_l (e.trans e6) hL), sq_of (e6 r _ hr'), by omega, hrl, hrm, ⟨by omega, size64 (by omega)⟩, q⟩) fun g H6 ng e6 hg => ?_
        have hgo := raisedL_ok hp.1 (lower := lo) (fs := rs) (t := p) (by omega)
        obtain ⟨n', hn'⟩ : ∃ n', lo.length / 2 - i = n' + 1 := ⟨lo.length / 2 - i - 1, by omega⟩
        rw [hn', irrL] at hirr'
        generalize hG : raisedL p lo rs p = G at *
        -- change = [..]
        refine q_asgTE (lcW (gets_zip (ev_var rfl) (ev_var rfl) (sq_of hg) (sq_of (e6 u _ hu'))) (walk_zip (xs := G.map V.int) (ys := (unkL lo.length).map V.int) (n := lo.length) (by rw [List.length_map, List.length_map, hgo.1, hunk.1, Nat.min_self]))
          (fun D i H' => H6 D = none ∧ Ex H6 H' ∧ i ≤ 12 ∧ H' D = some (.lst ((List.zipWith (fun x y => (x - y) % p) (G.take i) ((unkL lo.length).take i)).map V.int))) (fun D H7 e7 hD => ⟨fresh_back e7 hD, e7.mut (fresh_back e7 hD), by omega, upd_same⟩) (fun D i H' _ ⟨_, e, _⟩ => ⟨sq_of (e g _ hg), sq_of (e u _ (e6 u _ hu'))⟩) ?_ ?_)
        · rintro D j x H7 H8 hj ⟨nD, e7, hj12, hD⟩ ⟨T, a1, a2, rfl, nT, rfl, f1, f2⟩
          obtain ⟨z1, hz1, rfl⟩ := ints_get f1
          obtain ⟨z2, hz2, rfl⟩ := ints_get f2
          refine g_pair (st_of upd_same) ⟨rfl, ?_⟩
          have eT : Ex H7 (upd H7 T (.tup [.int z1, .int z2])) := Ex.new nT
          refine et_yes _ (Ex.refl _) _ fun H9 e9 => ?_
          refine iteT ?_
          refine ev_op (ev_op (ev_var rfl) (ev_var rfl) rv_I0) (ev_var rfl) (rv_I (by omega)) _ (Ex.refl _) _ fun H10 e10 => ?_
          have e710 := (eT.trans e9).trans e10
          refine ⟨_, e710 D _ hD, sz_lt (by rw [List.length_map, List.length_zipWith, List.length_take, List.length_take]; omega), nD, (e7.trans e710).mut nD, by omega, ?_⟩
          rw [upd_same, zipWith_take _ _ _ _ _ hz1 hz2, List.map_append]; rfl
        · rintro D H7 ⟨nD, e7, _, hD⟩
          have hch : List.zipWith (fun x y => (x - y) % p) (G.take lo.length) ((unkL lo.length).take lo.length) = chgL p G (unkL lo.length) := by
            rw [List.take_of_length_le (by omega), List.take_of_length_le (by omega)]; rfl
          rw [hch] at hD
          have hchl : (chgL p G (unkL lo.length)).length ≤ 100 := by unfold chgL; rw [List.length_zipWith]; omega
          have e67 := e6.trans e7
          have hl1 : lo.map V.int ++ [V.int 1] = (lo ++ [1]).map V.int := by rw [List.map_append]; rfl
          refine s_when (et_B (ev_call3L (ev_var rfl) (el_lst (ea_star (ev_var rfl) (.inr (ex_l (e.trans e67) hL)) (ea_cons ev_c ea_nil)) (by rw [List.length_append, List.length_map]; show _ + 1 ≤ _; omega)) (fun H8 e8 => ev_var rfl) fun b H8 e8 hb Q q E => ⟨p, b, D, lo ++ [1], chgL p G (unkL lo.length), rfl, hp, by rw [← hl1]; exact sq_of hb, sq_of (e8 D _ hD), by rw [List.length_append]; show _ + 1 ≤ _; omega, hchl, q⟩)) (fun hb H8 e8 => ?_) (fun hb H8 e8 => ?_)
          · refine s_ret ev_c fun H9 e9 => ?_
            rw [if_pos hb] at hirr'
            have := q H9 (((e.trans e67).trans e8).trans e9)
            rw [← hirr'] at this; exact this
          · rw [if_neg (by rw [hb]; decide)] at hirr'
            have e68 := e67.trans e8
            exact ⟨g, G, _, _, _, _, rfl, e.trans e68, e68 u _ hu', (e7.trans e8) g _ hg, hgo.1, hgo.2, by omega, by rw [show lo.length / 2 - (i + 1) = n' by omega]; exact hirr'⟩
      · rintro σ' H' ⟨r, rs, y5, y6, y7, y8, rfl, e, hu', hr', hrl, hrm, hi2, hirr'⟩
        rw [hcount, Nat.sub_self] at hirr'
        refine s_ret ev_c fun H9 e9 => ?_
        have := q H9 (e.trans e9)
        rw [← hirr'] at this; exact this
def spFirst : Sp := fun vs H Q _ => ∃ (p k : Int) (lo : List Int), vs = [.int p, .int k] ∧ isField p k = true ∧ FieldP p k lo ∧ RetU (lo.map V.int) H Q
theorem ok_first_irreducible (D : Df K mg "first_irreducible" s_first_irreducible ["prime", "degree"]) (B : Bt mg) (c_figures_of : Cd P w K mg base 1 "figures_of" spFigs) (c_is_irreducible : Cd P w K mg base 4 "is_irreducible" (spIrr K)) : Cd P w K mg base 5 "first_irreducible" spFirst := by
  refine D.ok sc_first_irreducible (fun vs H Q E h => ?_) (fun f cdv A outer s H vs Q E hr h => ?_)
  · obtain ⟨p, k, lo, rfl, _⟩ := h; rfl
  · obtain ⟨p, k, lo, rfl, hf, hP, q⟩ := h
    have hB := isField_b hf
    have figcall : ∀ {σ : L2.St} {Hx : Hp} {ta tb tc : TE} {n : Int}, Ev ta σ Hx (.int p) → Ev tb σ Hx (.int k) → Ev tc σ Hx (.int n) → EvL (tCall spFigs [] L2.E0 (tCons ta (tCons tb (tCons tc tNil)))) σ Hx ((figs p k.toNat n).map V.int) := fun a b c =>
      el_call (vs := [.int p, .int k, .int _]) (ea_cons a (ea_cons b (ea_cons c ea_nil))) fun H4 e4 Q q E => ⟨p, k, _, rfl, by omega, by omega, q⟩
    refine ⟨_, (pss_cons (ps_if (pt_cmpR op_eq (pv 1) pe_int (nomark _)) (pss_one (ps_ret (pe_tup (pa_cons pe_int pa_nil)))) pss_nil)
      (pss_cons (ps_set (i := 2) sc_first_irreducible.nd rfl (Or.inl rfl) pe_int)
      (pss_cons (ps_set (i := 3) sc_first_irreducible.nd rfl (Or.inl rfl) (pe_cd c_figures_of hr (by decide) (by rfl) (pa_cons (pv 0) (pa_cons (pv 1) (pa_cons (pv 2) pa_nil)))))
      (pss_cons (ps_while PassesOwn.never (pt_not (pt_val (pe_cd c_is_irreducible hr (by decide) (by rfl) (pa_cons (pv 0) (pa_cons (pv 3) pa_nil))))) (pss_cons (ps_aug (i := 2) sc_first_irreducible.nd rfl (Or.inl rfl) pe_int ip_add)
          (pss_one (ps_set (i := 3) sc_first_irreducible.nd rfl (Or.inl rfl) (pe_cd c_figures_of hr (by decide) (by rfl) (pa_cons (pv 0) (pa_cons (pv 1) (pa_cons (pv 2) pa_nil))))))))
      (pss_one (ps_ret (pe_callTy (call_tupleK (K := K) rfl) (by rfl) B.tuple boot_tuple (pa_cons (pv 3) pa_nil)))))))), ?_⟩
    refine q_when (et_test (ev_op (ev_var rfl) ev_c (rv_eq rfl))) (fun hb H1 e1 => ?_) (fun hb H1 e1 => ?_)
    · have hk : k = 1 := V.int.inj (of_decide_eq_true hb)
      refine s_retU (eu_tup (ea_cons ev_c ea_nil) (by show 1 ≤ 100000; decide)) fun r H2 nr e2 hr2 => ?_
      have hlo : lo = [0] := by
        rcases hP with ⟨_, h⟩ | ⟨h, _⟩
        · exact h
        · omega
      subst hlo
      exact q r H2 (fresh_back e1 nr) (e1.trans e2) hr2
    · have hk : ¬ k = 1 := fun z => of_decide_eq_false hb (congrArg V.int z)
      obtain ⟨hk2, N, hlo, hirr, hno⟩ : 2 ≤ k ∧ ∃ N : Nat, lo = figs p k.toNat (N : Int) ∧ irr p lo = true ∧ ∀ n : Nat, n < N → irr p (figs p k.toNat (n : Int)) = false := by
        rcases hP with ⟨h, _⟩ | h
        · exact absurd h hk
        · exact h
      refine q_asg ev_c fun H2 e2 => ?_
      refine q_asgL (figcall (ev_var rfl) (ev_var rfl) (ev_var rfl)) fun o H3 no e3 ho => ?_
      refine q_while (fun m σ' H' => ∃ (n : Nat) (r : Addr), σ' = [some (.int p), some (.int k), some (.int (n : Int)), some (.ref r)] ∧ Ex H H' ∧ H' r = some (.lst ((figs p k.toNat (n : Int)).map V.int)) ∧ n + m = N) N
        ⟨0, o, rfl, (e1.trans e2).trans e3, ho, by omega⟩ ?_
      rintro m σ' H' ⟨n, r, rfl, e, hr', hn⟩
      refine ⟨_, et_not (et_B (ev_call (vs := [.int p, .ref r]) (ea_cons (ev_var rfl) (ea_cons (ev_var rfl) ea_nil)) fun H4 e4 Q q E => ⟨p, r, figs p k.toNat (n : Int), rfl, by omega, sq_of (e4 r _ hr'), by rw [figs_len]; omega, q⟩)), fun hc H4 e4 => ?_, fun hc H4 e4 => ?_⟩
      · have hi : irr p (figs p k.toNat (n : Int)) = false := by rw [Bool.not_eq_true'] at hc; exact hc
        have hnN : n ≠ N := fun z => by rw [z, ← hlo, hirr] at hi; cases hi
        refine ⟨fun σ2 H2 => ∃ m2, m2 < m ∧ ∃ (n : Nat) (r : Addr), σ2 = [some (.int p), some (.int k), some (.int (n : Int)), some (.ref r)] ∧ Ex H H2 ∧ H2 r = some (.lst ((figs p k.toNat (n : Int)).map V.int)) ∧ n + m2 = N, fun _ _ h => h, ?_⟩
        refine q_aug rfl ev_c fun H5 e5 => ?_
        refine s_asgL (figcall (n := (n : Int) + 1) (ev_var rfl) (ev_var rfl) (ev_var rfl)) fun r2 H6 nr2 e6 hr2 => ?_
        exact ⟨m - 1, by omega, n + 1, r2, rfl, ((e.trans e4).trans e5).trans e6, hr2, by omega⟩
      · have hi : irr p (figs p k.toNat (n : Int)) = true := by rw [Bool.not_eq_false'] at hc; exact hc
        have hnN : n = N := by
          rcases Nat.lt_or_ge n N with h | h
          · rw [hno n h] at hi; cases hi
          · omega
        refine s_retU (eu_tuple (ev_var rfl) (sq_of (e4 r _ hr'))) fun t H5 nt e5 ht => ?_
        refine q t H5 (fresh_back (e.trans e4) nt) ((e.trans e4).trans e5) ?_
        rw [hlo, ← hnN]; exact ht

/-! ### Field -/
theorem ne1 : ¬ (("prime" : Str) = "degree") := by decide +kernel
theorem ne2 : ¬ (("prime" : Str) = "size") := by decide +kernel
theorem ne3 : ¬ (("prime" : Str) = "coefficients") := by decide +kernel
theorem ne4 : ¬ (("degree" : Str) = "size") := by decide +kernel
theorem ne5 : ¬ (("degree" : Str) = "coefficients") := by decide +kernel
theorem ne6 : ¬ (("size" : Str) = "coefficients") := by decide +kernel
def fldF (p k : Int) (ca : Addr) : List (Str × V) := putF "coefficients" (.ref ca) (putF "size" (.int (sizeI p k.toNat)) (putF "degree" (.int k) (putF "prime" (.int p) [])))
theorem fldF_prime (p k : Int) (ca : Addr) : (fldF p k ca).lookup ("prime" : Str) = some (.int p) := by
  unfold fldF; rw [lookup_putF, if_neg ne3, lookup_putF, if_neg ne2, lookup_putF, if_neg ne1, lookup_putF, if_pos rfl]
theorem fldF_degree (p k : Int) (ca : Addr) : (fldF p k ca).lookup ("degree" : Str) = some (.int k) := by
  unfold fldF; rw [lookup_putF, if_neg ne5, lookup_putF, if_neg ne4, lookup_putF, if_pos rfl]
theorem fldF_size (p k : Int) (ca : Addr) : (fldF p k ca).lookup ("size" : Str) = some (.int (sizeI p k.toNat)) := by
  unfold fldF; rw [lookup_putF, if_neg ne6, lookup_putF, if_pos rfl]
theorem fldF_coef (p k : Int) (ca : Addr) : (fldF p k ca).lookup ("coefficients" : Str) = some (.ref ca) := by
  unfold fldF; rw [lookup_putF, if_pos rfl]
theorem fldF_no (p k : Int) (ca : Addr) {m : Str} (h1 : ¬ m = "coefficients") (h2 : ¬ m = "size") (h3 : ¬ m = "degree") (h4 : ¬ m = "prime") : (fldF p k ca).lookup m = none := by
  unfold fldF; rw [lookup_putF, if_neg h1, lookup_putF, if_neg h2, lookup_putF, if_neg h3, lookup_putF, if_neg h4]; rfl
/-- what is asked of the class -/
structure Tx (K : PySem.W.Frag) (C : Addr) : Prop where
  cl : Cls K C
  np : NoAttr K C "prime"
  nd : NoAttr K C "degree"
  ns : NoAttr K C "size"
  nc : NoAttr K C "coefficients"
/-- a Field at a -/
structure FieldAt (K : PySem.W.Frag) (C : Addr) (H : Hp) (a : Addr) (p k : Int) (lo : List Int) : Prop where
  ob : ∃ dx ca, H a = some (.ins C dx (fldF p k ca)) ∧ SqT K H ca (lo.map V.int)
theorem FieldAt.mono {K : PySem.W.Frag} {C : Addr} {H H' : Hp} {a : Addr} {p k : Int} {lo : List Int} (e : Ex H H') (h : FieldAt K C H a p k lo) : FieldAt K C H' a p k lo := by
  obtain ⟨dx, ca, h1, h2⟩ := h.ob
  exact ⟨dx, ca, e a _ h1, ex_t e h2⟩
def spInit (K : PySem.W.Frag) (C : Addr) : Sp := fun vs H Q _ => ∃ (a dx : Addr) (p k : Int) (lo : List Int), vs = [.ref a, .int p, .int k] ∧ H a = some (.ins C dx []) ∧ isField p k = true ∧ FieldP p k lo ∧
  ∀ H', (∀ b o, H b = some o → b ≠ a → H' b = some o) → FieldAt K C H' a p k lo → Q .non H'
theorem ok_Field_init {C : Addr} (D : Di K mg "Field" "Field.__init__" C s_Field___init__ ["self", "prime", "degree"]) (T : Tx K C) (c_need_field : Cd P w K mg base 3 "need_field" spNeedField) (c_size_of : Cd P w K mg base 1 "size_of" spSize) (c_first_irreducible : Cd P w K mg base 5 "first_irreducible" spFirst) : Md P w K mg base 6 "Field" C (spInit K C) := by
  refine D.ok sc_Field___init__ (fun vs H Q E h => ?_) (fun f cdv A outer s H vs Q E hr h => ?_)
  · obtain ⟨a, dx, p, k, lo, rfl, _⟩ := h; rfl
  · obtain ⟨a, dx, p, k, lo, rfl, ha, hf, hP, q⟩ := h
    have hB := isField_b hf
    refine ⟨_, (pss_cons (ps_expr (pe_cd c_need_field hr (by decide) (by rfl) (pa_cons (pv 1) (pa_cons (pv 2) pa_nil))))
      (pss_cons (ps_fld (pv 0) (pv 1) rfl)
      (pss_cons (ps_fld (pv 0) (pv 2) rfl)
      (pss_cons (ps_fld (pv 0) (pe_cd c_size_of hr (by decide) (by rfl) (pa_cons (pv 1) (pa_cons (pv 2) pa_nil))) rfl)
      (pss_one (ps_fld (pv 0) (pe_cd c_first_irreducible hr (by decide) (by rfl) (pa_cons (pv 1) (pa_cons (pv 2) pa_nil))) rfl)))))), ?_⟩
    refine q_drop (ev_call (vs := [.int p, .int k]) (ea_cons (ev_var rfl) (ea_cons (ev_var rfl) ea_nil)) fun H1 e Q q E => ⟨p, k, rfl, hf, q⟩) fun H1 e1 => ?_
    refine q_fldE (ev_var rfl) (ev_var rfl) (e1 a _ ha) T.cl T.np (by decide) fun H2 e2 => ?_
    refine q_fldE (ev_var rfl) (ev_var rfl) upd_same T.cl T.nd (by show 1 < 1000; decide) fun H3 e3 => ?_
    refine q_fldE (ev_call (vs := [.int p, .int k]) (ea_cons (ev_var rfl) (ea_cons (ev_var rfl) ea_nil)) fun H1 e Q q E => ⟨p, k, rfl, by omega, by omega, q⟩) (ev_var rfl) upd_same T.cl T.ns (by show (putF "degree" (V.int k) [("prime", V.int p)]).length < 1000; show (if ("prime" : Str) = "degree" then _ else (_ : List (Str × V))).length < 1000; rw [if_neg ne1]; show 2 < 1000; decide) fun H4 e4 => ?_
    have hlen3 : (putF "size" (V.int (sizeI p k.toNat)) (putF "degree" (V.int k) (putF "prime" (V.int p) []))).length < 1000 := by
      have e1 : putF "degree" (V.int k) (putF "prime" (V.int p) []) = ([("prime", V.int p), ("degree", V.int k)] : List (Str × V)) := by
        show (if ("prime" : Str) = "degree" then _ else (_ : List (Str × V))) = _
        rw [if_neg ne1]; rfl
      rw [e1]
      show (if ("prime" : Str) = "size" then _ else (_ : List (Str × V))).length < 1000
      rw [if_neg ne2]
      show ((("prime" : Str), V.int p) :: (if ("degree" : Str) = "size" then _ else (_ : List (Str × V)))).length < 1000
      rw [if_neg ne4]
      show 3 < 1000; decide
    refine s_fldU (eu_call (vs := [.int p, .int k]) (ea_cons (ev_var rfl) (ea_cons (ev_var rfl) ea_nil)) fun H1 e Q q E => ⟨p, k, lo, rfl, hf, hP, q⟩) (ev_var rfl) upd_same T.cl T.nc hlen3 fun t H5 nt e5 ht => ?_
    have hta : a ≠ t := ne_of_none (o := _) upd_same nt
    refine q _ (fun b o hb hne => ?_) ⟨dx, t, upd_same, st_of (by rw [upd_ne hta.symm]; exact ht)⟩
    rw [upd_ne hne]
    refine e5 b _ ?_
    rw [upd_ne hne]
    refine e4 b _ ?_
    rw [upd_ne hne]
    refine e3 b _ ?_
    rw [upd_ne hne]
    exact e2 b _ (e1 b _ hb)
def spFProd (K : PySem.W.Frag) (C : Addr) : Sp := fun vs H Q _ => ∃ (s : Addr) (p k a b : Int) (lo : List Int), vs = [.ref s, .int a, .int b] ∧ FieldAt K C H s p k lo ∧ isField p k = true ∧ lo.length = k.toNat ∧ RetV (.int (num p (mulM p lo (figs p k.toNat a) (figs p k.toNat b)))) H Q
theorem ok_Field_product {C : Addr} (D : Dm K C "product" "Field.product" s_Field_product ["self", "one", "other"]) (T : Tx K C) (c_figures_of : Cd P w K mg base 1 "figures_of" spFigs) (c_number_of : Cd P w K mg base 1 "number_of" (spNum K)) (c_multiplied : Cd P w K mg base 1 "multiplied" (spMul K)) : Td P w K mg base 2 C "product" (spFProd K C) := by
  refine D.ok sc_Field_product (fun vs H Q E h => ?_) (fun f cdv A outer s H vs Q E hr h => ?_)
  · obtain ⟨s, p, k, a, b, lo, rfl, _⟩ := h; rfl
  · obtain ⟨s, p, k, a, b, lo, rfl, hF, hf, hlo, q⟩ := h
    have hB := isField_b hf
    obtain ⟨dx, ca, hs, hca⟩ := hF.ob
    have figcall : ∀ {σ : L2.St} {Hx : Hp} {ta tb tc : TE} {n : Int}, Ev ta σ Hx (.int p) → Ev tb σ Hx (.int k) → Ev tc σ Hx (.int n) → EvL (tCall spFigs [] L2.E0 (tCons ta (tCons tb (tCons tc tNil)))) σ Hx ((figs p k.toNat n).map V.int) := fun a b c =>
      el_call (vs := [.int p, .int k, .int _]) (ea_cons a (ea_cons b (ea_cons c ea_nil))) fun H4 e4 Q q E => ⟨p, k, _, rfl, by omega, by omega, q⟩
    refine ⟨_, (pss_cons (ps_set (i := 3) sc_Field_product.nd rfl (Or.inl rfl) (pe_cd c_figures_of hr (by decide) (by rfl) (pa_cons (pe_fld (pv 0) rfl) (pa_cons (pe_fld (pv 0) rfl) (pa_cons (pv 1) pa_nil)))))
      (pss_cons (ps_set (i := 4) sc_Field_product.nd rfl (Or.inl rfl) (pe_cd c_figures_of hr (by decide) (by rfl) (pa_cons (pe_fld (pv 0) rfl) (pa_cons (pe_fld (pv 0) rfl) (pa_cons (pv 2) pa_nil)))))
      (pss_one (ps_ret (pe_cd c_number_of hr (by decide) (by rfl) (pa_cons (pe_fld (pv 0) rfl) (pa_cons (pe_cd c_multiplied hr (by decide) (by rfl) (pa_cons (pe_fld (pv 0) rfl) (pa_cons (pe_fld (pv 0) rfl) (pa_cons (pv 3) (pa_cons (pv 4) pa_nil))))) pa_nil))))))), ?_⟩
    refine q_asgL (figcall (ev_fld (ev_var rfl) hs T.cl T.np (fldF_prime _ _ _)) (ev_fld (ev_var rfl) hs T.cl T.nd (fldF_degree _ _ _)) (ev_var rfl)) fun l H1 nl e1 hl => ?_
    have hs1 := e1 s _ hs
    refine q_asgL (figcall (ev_fld (ev_var rfl) hs1 T.cl T.np (fldF_prime _ _ _)) (ev_fld (ev_var rfl) hs1 T.cl T.nd (fldF_degree _ _ _)) (ev_var rfl)) fun r H2 nr e2 hr2 => ?_
    have hs2 := e2 s _ hs1
    refine s_ret (ev_call2L (ev_fld (ev_var rfl) hs2 T.cl T.np (fldF_prime _ _ _)) (el_call (vs := [.int p, .ref ca, .ref l, .ref r]) (ea_cons (ev_fld (ev_var rfl) hs2 T.cl T.np (fldF_prime _ _ _)) (ea_cons (ev_fld (ev_var rfl) hs2 T.cl T.nc (fldF_coef _ _ _)) (ea_cons (ev_var rfl) (ea_cons (ev_var rfl) ea_nil)))) fun H4 e4 Q q E =>
        ⟨p, ca, l, r, lo, figs p k.toNat a, figs p k.toNat b, rfl, by omega, .inr (ex_t ((e1.trans e2).trans e4) hca), sq_of (e4 l _ (e2 l _ hl)), sq_of (e4 r _ hr2), by omega, by rw [figs_len, hlo], by rw [figs_len, hlo], figs_mem (by omega) _ _, q⟩)
      fun b H4 e4 hb Q q E => ⟨p, b, _, rfl, by omega, sq_of hb, q⟩) fun H3 e3 => ?_
    exact q H3 ((e1.trans e2).trans e3)
def spProd (K : PySem.W.Frag) : Sp := fun vs H Q _ => ∃ (p k a b : Int) (lo : List Int), vs = [.int p, .int k, .int a, .int b] ∧ isField p k = true ∧ FieldP p k lo ∧ (0 ≤ a ∧ a < sizeI p k.toNat) ∧ (0 ≤ b ∧ b < sizeI p k.toNat) ∧ RetV (.int (num p (mulM p lo (figs p k.toNat a) (figs p k.toNat b)))) H Q
theorem nopr1 : ¬ (("product" : Str) = "coefficients") := by decide +kernel
theorem nopr2 : ¬ (("product" : Str) = "size") := by decide +kernel
theorem nopr3 : ¬ (("product" : Str) = "degree") := by decide +kernel
theorem nopr4 : ¬ (("product" : Str) = "prime") := by decide +kernel
theorem ok_product {C : Addr} (D : Df K mg "product" s_product ["prime", "degree", "one", "other"]) (c_need_members : Cd P w K mg base 4 "need_members" (spNeedMembers K)) (c_Field : Md P w K mg base 6 "Field" C (spInit K C)) (d_product : Td P w K mg base 2 C "product" (spFProd K C)) : Cd P w K mg base 8 "product" (spProd K) := by
  refine D.ok sc_product (fun vs H Q E h => ?_) (fun f cdv A outer s H vs Q E hr h => ?_)
  · obtain ⟨p, k, a, b, lo, rfl, _⟩ := h; rfl
  · obtain ⟨p, k, a, b, lo, rfl, hf, hP, ha, hb, q⟩ := h
    have hB := isField_b hf
    refine ⟨_, (pss_cons (ps_expr (pe_cd c_need_members hr (by decide) (by rfl) (pa_cons (pv 0) (pa_cons (pv 1) (pa_cons (pe_tup (pa_cons (pv 2) (pa_cons (pv 3) pa_nil))) pa_nil)))))
      (pss_one (ps_ret (pe_met d_product hr (by decide) (pe_mak c_Field hr (by decide) (by rfl) (pa_cons (pv 0) (pa_cons (pv 1) pa_nil))) (pa_cons (pv 2) (pa_cons (pv 3) pa_nil)))))), ?_⟩
    refine q_drop (need2 (ev_var rfl) (ev_var rfl) (ev_var rfl) (ev_var rfl) hf ha hb) fun H1 e1 => ?_
    refine s_ret (v := .int (num p (mulM p lo (figs p k.toNat a) (figs p k.toNat b)))) ?_ fun H2 e2 => q H2 (e1.trans e2)
    intro H2 e2 Q2 q2
    refine ⟨.int p, rfl, .int k, rfl, ?_⟩
    intro x dx nx ndx hdx
    have eX : Ex H2 (upd (upd H2 dx (.own x)) x (.ins C dx [])) := fun b o hb => by
      rw [upd_ne (ne_of_none hb nx), upd_ne (ne_of_none hb ndx)]; exact hb
    refine ⟨x, dx, p, k, lo, rfl, upd_same, hf, hP, fun H5 hk hF => ⟨rfl, ?_⟩⟩
    have e5 : Ex H2 H5 := fun b o hb => hk b o (eX b o hb) (ne_of_none hb nx)
    obtain ⟨dx', ca, hx, hca⟩ := hF.ob
    refine ⟨x, dx', _, rfl, hx, fldF_no _ _ _ nopr1 nopr2 nopr3 nopr4, ?_⟩
    refine ⟨.int a, rfl, .int b, rfl, ?_⟩
    exact ⟨x, p, k, a, b, lo, rfl, hF, hf, hP.len, fun H8 e8 => q2 H8 (e5.trans e8)⟩

/-! ### the law's numbers -/
def small (x : Int) : Prop := 0 ≤ x ∧ x < 1009
def spRow : Sp := fun vs H Q _ => ∃ c m : Int, vs = [.int c, .int m] ∧ (0 ≤ m ∧ m ≤ 1000) ∧ RetS m.toNat small H Q
theorem snoc_all {G : Int → Prop} {ns : List Int} {z : Int} (h : ∀ x ∈ ns, G x) (hz : G z) : ∀ x ∈ ns ++ [z], G x := fun x hx => by
  rcases List.mem_append.mp hx with e | e
  · exact h x e
  · rw [List.mem_singleton.mp e]; exact hz
theorem ok__law_row (D : Df K mg "_law_row" s__law_row ["cell", "many"]) (B : Bt mg) : Cd P w K mg base 1 "_law_row" spRow := by
  refine D.ok sc__law_row (fun vs H Q E h => ?_) (fun f cdv A outer s H vs Q E hr h => ?_)
  · obtain ⟨c, m, rfl, _⟩ := h; rfl
  · obtain ⟨c, m, rfl, hm, q⟩ := h
    refine ⟨_, (pss_cons (ps_set (i := 2) sc__law_row.nd rfl (Or.inl rfl) (pe_lst pa_nil))
      (pss_cons (ps_set (i := 3) sc__law_row.nd rfl (Or.inl rfl) (pe_callB call_abs (by rfl) B.abs boot_abs (pa_cons (pv 0) pa_nil)))
      (pss_cons (ps_set (i := 4) sc__law_row.nd rfl (Or.inl rfl) (pe_op op_mod (pe_callTy call_int1 (by rfl) B.int boot_int (pa_cons (pe_op op_add (pe_op op_mul (pv 3) pe_int) pe_int) pa_nil)) pe_int))
      (pss_cons (ps_for PassesOwn.never rfl (pi_range1 (by rfl) B.range (pa_cons (pv 1) pa_nil)) (pg_name (i := 5) sc__law_row.nd rfl (Or.inl rfl)) (pss_cons (ps_set (i := 4) sc__law_row.nd rfl (Or.inl rfl) (pe_op op_mod (pe_callTy call_int1 (by rfl) B.int boot_int (pa_cons (pe_op op_add (pe_op op_mul (pv 4) pe_int) (pe_op op_mul pe_int (pe_op op_add (pv 5) pe_int))) pa_nil)) pe_int))
          (pss_one (ps_if (pt_cmpR op_ge (pe_callB call_abs (by rfl) B.abs boot_abs (pa_cons (pv 0) pa_nil)) (pe_op op_pow pe_int pe_int) (nomark _)) (pss_cons (ps_expr (pe_bm PySem.F.plainAttrs_list PySem.F.slot_list_append PySem.F.type_list_append mt_append (pv 2) (pa_cons (pe_op op_mod (pe_callTy call_int1 (by rfl) B.int boot_int (pa_cons (pv 3) pa_nil)) pe_int) pa_nil)))
            (pss_one (ps_set (i := 3) sc__law_row.nd rfl (Or.inl rfl) (pe_op op_fdiv (pv 3) pe_int)))) (pss_one (ps_expr (pe_bm PySem.F.plainAttrs_list PySem.F.slot_list_append PySem.F.type_list_append mt_append (pv 2) (pa_cons (pe_op op_mod (pe_callTy call_int1 (by rfl) B.int boot_int (pa_cons (pe_op op_fdiv (pv 4) pe_int) pa_nil)) pe_int) pa_nil))))))))
      (pss_one (ps_ret (pv 2))))))), ?_⟩
    refine q_asgL (el_lst ea_nil (by decide)) fun o H1 no e1 ho => ?_
    refine q_asg (ev_abs (ea_cons (ev_var rfl) ea_nil)) fun H2 e2 => ?_
    refine q_asg (ev_op (ev_int (ea_cons (ev_op (ev_op (ev_var rfl) ev_c (rv_I (.inr ⟨by decide, by decide⟩))) ev_c rv_I0) ea_nil)) ev_c (rv_I (by decide))) fun H3 e3 => ?_
    refine q_forW (gets_r1 (n := m) (ev_var rfl) (by omega)) walk_range (fun i σ' H' => ∃ (ns : List Int) (r x : Int) (y : Option V), σ' = [some (.int c), some (.int m), some (.ref o), some (.int r), some (.int x), y] ∧ Ex H H' ∧ H' o = some (.lst (ns.map V.int)) ∧ ns.length = i ∧ i ≤ 1000 ∧ ∀ z ∈ ns, small z) ?_ ?_ ?_ ?_
    · intro H4 e4
      exact ⟨[], _, _, none, rfl, ((e1.trans e2).trans e3).trans e4, e4 o _ (e3 o _ (e2 o _ ho)), rfl, by omega, fun _ h => nomatch h⟩
    · intros; trivial
    · rintro i x σ' H' H4 hi ⟨ns, r, x, y, rfl, e, h, hl, h1000, hs⟩ ⟨rfl, rfl⟩
      have hmod : ∀ z : Int, small (z % 1009) := fun z => ⟨Int.emod_nonneg _ (by decide), Int.emod_lt_of_pos _ (by decide)⟩
      refine q_asg (ev_op (ev_int (ea_cons (ev_op (ev_op (ev_var rfl) ev_c (rv_I (.inr ⟨by decide, by decide⟩))) (ev_op ev_c (ev_op (ev_var rfl) ev_c rv_I0) (rv_I (.inl ⟨by decide, by decide⟩))) rv_I0) ea_nil)) ev_c (rv_I (by decide))) fun H5 e5 => ?_
      refine s_if (et_test (ev_op (ev_abs (ea_cons (ev_var rfl) ea_nil)) (ev_op ev_c ev_c (rv_I ⟨by decide, by decide, by decide⟩)) rv_I0)) (fun hb H6 e6 => ?_) (fun hb H6 e6 => ?_)
      · refine q_app (e6 o _ (e5 o _ h)) (ev_var rfl) (ev_op (ev_int (ea_cons (ev_var rfl) ea_nil)) ev_c (rv_I (by decide))) (by rw [List.length_map]; omega) fun H7 e7 => ?_
        refine s_asg (ev_op (ev_var rfl) ev_c (rv_I ⟨by decide, by decide⟩)) fun H8 e8 => ?_
        exact ⟨ns ++ [r % 1009], _, _, _, rfl, ((((e.trans e5).trans e6).trans e7).mut no).trans e8, by rw [List.map_append]; exact e8 o _ upd_same, by rw [List.length_append]; show ns.length + 1 = _; omega, by omega, snoc_all hs (hmod _)⟩
      · refine s_app (e6 o _ (e5 o _ h)) (ev_var rfl) (ev_op (ev_int (ea_cons (ev_op (ev_var rfl) ev_c (rv_I ⟨by decide, by decide⟩)) ea_nil)) ev_c (rv_I (by decide))) (by rw [List.length_map]; omega) fun H7 e7 => ?_
        refine ⟨ns ++ [_], r, _, _, rfl, (((e.trans e5).trans e6).trans e7).mut no, by rw [List.map_append]; exact upd_same, by rw [List.length_append]; show ns.length + 1 = _; omega, by omega, snoc_all hs (hmod _)⟩
    · rintro σ' H' ⟨ns, r, x, y, rfl, e, h, hl, h1000, hs⟩
      refine s_ret (ev_var rfl) fun H4 e4 => ?_
      exact q o H4 ns no (e.trans e4) (e4 o _ h) hl hs
def spNumbers (K : PySem.W.Frag) : Sp := fun vs H Q _ => ∃ (a : Addr) (ns : List Int) (m : Int), vs = [.ref a, .int m] ∧ SqL K H a (ns.map V.int) ∧ (0 ≤ m ∧ m ≤ 900) ∧ RetS m.toNat small H Q
theorem ok__law_numbers (D : Df K mg "_law_numbers" s__law_numbers ["script", "many"]) (B : Bt mg) (c__law_row : Cd P w K mg base 1 "_law_row" spRow) : Cd P w K mg base 2 "_law_numbers" (spNumbers K) := by
  refine D.ok sc__law_numbers (fun vs H Q E h => ?_) (fun f cdv A outer s H vs Q E hr h => ?_)
  · obtain ⟨a, ns, m, rfl, _⟩ := h; rfl
  · obtain ⟨a, ns, m, rfl, hS, hm, q⟩ := h
    refine ⟨_, (pss_cons (ps_set (i := 2) sc__law_numbers.nd rfl (Or.inl rfl) (pe_slice (sl_listK (K := K) rfl) (pv 0) po_none (po_some pe_int)))
      (pss_cons (ps_set (i := 3) sc__law_numbers.nd rfl (Or.inl rfl) (pe_op op_add pe_int (pe_op op_fdiv (pv 1) (pe_callB (call_max2 rfl) (by rfl) B.max boot_max (pa_cons pe_int (pa_cons (pe_callB (call_lenK (K := K) rfl) (by rfl) B.len PySem.boot_len (pa_cons (pv 2) pa_nil)) pa_nil))))))
      (pss_cons (ps_set (i := 4) sc__law_numbers.nd rfl (Or.inl rfl) (pe_lst pa_nil))
      (pss_cons (ps_for PassesOwn.never rfl (pi_listK (K := K) rfl (pv 2)) (pg_name (i := 5) sc__law_numbers.nd rfl (Or.inl rfl)) (pss_one (ps_for PassesOwn.never rfl (pi_listK (K := K) rfl (pe_cd c__law_row hr (by decide) (by rfl) (pa_cons (pv 5) (pa_cons (pv 3) pa_nil)))) (pg_name (i := 6) sc__law_numbers.nd rfl (Or.inl rfl)) (pss_one (ps_expr (pe_bm PySem.F.plainAttrs_list PySem.F.slot_list_append PySem.F.type_list_append mt_append (pv 4) (pa_cons (pv 6) pa_nil)))))))
      (pss_cons (ps_while PassesOwn.never (pt_cmpR op_lt (pe_callB (call_lenK (K := K) rfl) (by rfl) B.len PySem.boot_len (pa_cons (pv 4) pa_nil)) (pv 1) (nomark _)) (pss_one (ps_expr (pe_bm PySem.F.plainAttrs_list PySem.F.slot_list_append PySem.F.type_list_append mt_append (pv 4) (pa_cons pe_int pa_nil)))))
      (pss_one (ps_ret (pe_slice (sl_listK (K := K) rfl) (pv 4) po_none (po_some (pv 1)))))))))), ?_⟩
    refine q_asgL (el_slice (hi := some ((63 : Nat) : Int)) (ev_var rfl) hS evo_none (evo_some ev_c)) fun c H1 nc e1 hc => ?_
    rw [cut_to, ← List.map_take] at hc
    have hcl : (ns.take 63).length ≤ 63 := by rw [List.length_take]; omega
    generalize ns.take 63 = cs at *
    have hM : ∀ l : Int, 0 ≤ l → l ≤ 63 → (1 ≤ (if l > 1 then l else 1) ∧ (if l > 1 then l else 1) ≤ 63) := fun l h0 h1 => by split <;> omega
    have hlen : ((cs.map V.int).length : Int) = (cs.length : Int) := by rw [List.length_map]
    have hM1 := hM ((cs.map V.int).length : Int) (by omega) (by omega)
    refine q_asg (ev_op ev_c (ev_op (ev_var rfl) (ev_max2 (ea_cons ev_c (ea_cons (ev_lenL (ev_var rfl) (.inl (sq_of hc))) ea_nil))) (rv_I ⟨by omega, by omega⟩)) rv_I0) fun H2 e2 => ?_
    have hE : 0 ≤ 1 + m / (if ((cs.map V.int).length : Int) > 1 then ((cs.map V.int).length : Int) else 1) ∧ 1 + m / (if ((cs.map V.int).length : Int) > 1 then ((cs.map V.int).length : Int) else 1) ≤ 1000 := by
      generalize (if ((cs.map V.int).length : Int) > 1 then ((cs.map V.int).length : Int) else 1) = d at *
      have h1 : 0 ≤ m / d := Int.ediv_nonneg hm.1 (by omega)
      have h2 : m / d ≤ m := Int.ediv_le_self _ hm.1
      omega
    generalize 1 + m / (if ((cs.map V.int).length : Int) > 1 then ((cs.map V.int).length : Int) else 1) = each at *
    refine q_asgL (el_lst ea_nil (by decide)) fun o H3 no e3 ho => ?_
    have no' : H o = none := fresh_back (e1.trans e2) no
    have hco : c ≠ o := ne_of_none (e2 c _ hc) no
    refine q_forW (gets_list (ev_var rfl) (sq_of (e3 c _ (e2 c _ hc)))) (walk_list (xs := cs.map V.int)) (fun i σ' H' => ∃ (ks : List Int) (y1 y2 : Option V), σ' = [some (.ref a), some (.int m), some (.ref c), some (.int each), some (.ref o), y1, y2] ∧ Ex H H' ∧ H' c = some (.lst (cs.map V.int)) ∧ H' o = some (.lst (ks.map V.int)) ∧ ks.length = i * each.toNat ∧ ∀ z ∈ ks, small z) ?_ ?_ ?_ ?_
    · intro H4 e4
      exact ⟨[], none, none, rfl, ((e1.trans e2).trans e3).trans e4, e4 c _ (e3 c _ (e2 c _ hc)), e4 o _ ho, by rw [Nat.zero_mul]; rfl, fun _ h => nomatch h⟩
    · rintro i σ' H' _ ⟨_, _, _, rfl, _, h, _⟩; exact sq_of h
    · rintro i x σ' H' H4 hi ⟨ks, y1, y2, rfl, e, hc', ho', hk, hs⟩ ⟨rfl, hx⟩
      obtain ⟨z, hz, rfl⟩ := ints_get hx
      have hi63 : i < 63 := by rw [List.length_map] at hi; omega
      -- for number in _law_row(cell, each)
      refine evs_call (vs := [.int z, .int each]) (n := each.toNat) (G := small) (ea_cons (ev_var rfl) (ea_cons (ev_var rfl) ea_nil)) (fun H5 e5 Q q E => ⟨z, each, rfl, hE, q⟩) H4 (Ex.refl _) _ fun r H5 rs nr e5 hr5 hrl hrs => ?_
      refine ⟨r, rfl, ⟨_, sq_of hr5⟩, ?_⟩
      have hro : r ≠ o := fun z => by rw [z] at nr; rw [nr] at ho'; cases ho'
      have hrc : r ≠ c := fun z => by rw [z] at nr; rw [nr] at hc'; cases hc'
      refine for_it (walk_list (xs := rs.map V.int)) (fun j σ2 H6 => ∃ (y2 : Option V), σ2 = [some (.ref a), some (.int m), some (.ref c), some (.int each), some (.ref o), some (.int z), y2] ∧ Ex H H6 ∧ H6 c = some (.lst (cs.map V.int)) ∧ H6 r = some (.lst (rs.map V.int)) ∧ H6 o = some (.lst ((ks ++ rs.take j).map V.int))) ⟨y2, rfl, e.trans e5, e5 c _ hc', hr5, by rw [List.take_zero, List.append_nil]; exact e5 o _ ho'⟩ ?_ ?_ ?_
      · rintro j σ2 H6 _ ⟨_, rfl, _, _, h, _⟩; exact sq_of h
      · rintro j x σ2 H6 H7 hj ⟨y2', rfl, e6, hc6, hr6, ho6⟩ ⟨rfl, hx⟩
        obtain ⟨n, hn, rfl⟩ := ints_get hx
        have hjl : j < 1000 := by rw [List.length_map, hrl] at hj; omega
        refine s_app ho6 (ev_var rfl) (ev_var rfl) ?_ fun H8 e8 => ?_
        · have hle : i * each.toNat ≤ 63 * 1000 := Nat.mul_le_mul (by omega) (by omega)
          rw [List.length_map, List.length_append, List.length_take, hk]
          omega
        · exact ⟨_, rfl, (e6.trans e8).mut no', by rw [upd_ne hco]; exact e8 c _ hc6, by rw [upd_ne hro]; exact e8 r _ hr6, by rw [upd_same, take_at hn, ← List.append_assoc]; simp⟩
      · rintro σ2 H6 ⟨y2', rfl, e6, hc6, hr6, ho6⟩
        rw [List.length_map, List.take_length] at ho6
        refine ⟨ks ++ rs, _, _, rfl, e6, hc6, ho6, by rw [List.length_append, hk, hrl, Nat.add_mul, Nat.one_mul], fun x hx => ?_⟩
        rcases List.mem_append.mp hx with h | h
        · exact hs x h
        · exact hrs x h
    · rintro σ' H' ⟨ks, y1, y2, rfl, e, hc', ho', hk, hs⟩
      have hkl : ks.length ≤ 63000 := by
        have : cs.length * each.toNat ≤ 63 * 1000 := Nat.mul_le_mul hcl (by omega)
        rw [hk, List.length_map]; omega
      refine q_while (fun n σ2 H2 => ∃ (ks : List Int), σ2 = [some (.ref a), some (.int m), some (.ref c), some (.int each), some (.ref o), y1, y2] ∧ Ex H H2 ∧ H2 o = some (.lst (ks.map V.int)) ∧ n = m.toNat - ks.length ∧ ks.length ≤ 64000 ∧ ∀ z ∈ ks, small z) _ ⟨ks, rfl, e, ho', rfl, by omega, hs⟩ ?_
      rintro n σ2 H2 ⟨ks, rfl, e2', h2, hn, hkl, hs⟩
      refine ⟨_, et_test (ev_op (ev_lenL (ev_var rfl) (.inl (sq_of h2))) (ev_var rfl) rv_I0), fun hb H4 e4 => ?_, fun hb H4 e4 => ?_⟩
      · have hb' := of_decide_eq_true hb
        rw [List.length_map] at hb'
        refine ⟨fun σ3 H3 => ∃ m2, m2 < n ∧ ∃ (ks : List Int), σ3 = [some (.ref a), some (.int m), some (.ref c), some (.int each), some (.ref o), y1, y2] ∧ Ex H H3 ∧ H3 o = some (.lst (ks.map V.int)) ∧ m2 = m.toNat - ks.length ∧ ks.length ≤ 64000 ∧ ∀ z ∈ ks, small z, fun _ _ h => h, ?_⟩
        refine s_app (e4 o _ h2) (ev_var rfl) ev_c (by rw [List.length_map]; omega) fun H5 e5 => ?_
        refine ⟨m.toNat - (ks ++ [0]).length, ?_, ks ++ [0], rfl, ((e2'.trans e4).trans e5).mut no', by rw [upd_same, List.map_append]; rfl, rfl, ?_, snoc_all hs ⟨by decide, by decide⟩⟩
        · rw [List.length_append]; show m.toNat - (ks.length + 1) < n; omega
        · rw [List.length_append]; show ks.length + 1 ≤ _; omega
      · have hb' := of_decide_eq_false hb
        rw [List.length_map] at hb'
        refine s_retL (el_slice (hi := some ((m.toNat : Nat) : Int)) (ev_var rfl) (sq_of (e4 o _ h2)) evo_none (evo_some (ev_is (ev_var rfl) (congrArg V.int (show m = ((m.toNat : Nat) : Int) by omega))))) fun r H5 nr e5 hr5 => ?_
        rw [cut_to, ← List.map_take] at hr5
        refine q r H5 _ (fresh_back (e2'.trans e4) nr) ((e2'.trans e4).trans e5) hr5 (by rw [List.length_take]; omega) fun x hx => hs x (List.mem_of_mem_take hx)

def spIsInt : Sp := fun vs H Q _ => ∃ i : Int, vs = [.int i] ∧ RetV (.bl true) H Q
theorem ok__law_size (D : Df K mg "_law_size" s__law_size ["p", "k"]) (B : Bt mg) : Cd P w K mg base 1 "_law_size" spSize := by
  refine D.ok sc__law_size (fun vs H Q E h => ?_) (fun f cdv A outer s H vs Q E hr h => ?_)
  · obtain ⟨p, k, rfl, _⟩ := h; rfl
  · obtain ⟨p, k, rfl, hp, hk, q⟩ := h
    refine ⟨_, (pss_cons (ps_set (i := 2) sc__law_size.nd rfl (Or.inl rfl) pe_int)
      (pss_cons (ps_for PassesOwn.never rfl (pi_range1 (by rfl) B.range (pa_cons (pv 1) pa_nil)) (pg_name (i := 3) sc__law_size.nd rfl (Or.inl rfl)) (pss_one (ps_set (i := 2) sc__law_size.nd rfl (Or.inl rfl) (pe_op op_mul (pv 2) (pv 0)))))
      (pss_one (ps_ret (pv 2))))), ?_⟩
    refine q_asg ev_c fun H1 e1 => ?_
    refine q_forW (gets_r1 (n := k) (ev_var rfl) ⟨by omega, by omega⟩) walk_range (fun i σ' H' => ∃ x, σ' = [some (.int p), some (.int k), some (.int (sizeI p i)), x] ∧ Ex H H') ?_ ?_ ?_ ?_
    · intro H2 e2; exact ⟨none, rfl, e1.trans e2⟩
    · intros; trivial
    · rintro i x σ' H' H2 hi ⟨y, rfl, e⟩ ⟨rfl, rfl⟩
      refine s_asg (ev_op (ev_var rfl) (ev_var rfl) (rv_I (.inr ⟨by omega, by omega⟩))) fun H3 e3 => ?_
      exact ⟨_, rfl, e.trans e3⟩
    · rintro σ' H' ⟨x, rfl, e⟩
      refine s_ret (ev_var rfl) fun H2 e2 => ?_
      exact q H2 (e.trans e2)
theorem num_rev (p : Int) (ns : List Int) (i : Nat) (x : Int) (h : i < ns.length) (e : ns.reverse[i]? = some x) : num p (ns.drop (ns.length - (i + 1))) = num p (ns.drop (ns.length - i)) * p + x := by
  refine num_drop p ns i x h ?_
  rw [List.getElem?_reverse h] at e
  exact e
def spLRest (K : PySem.W.Frag) : Sp := fun vs H Q _ => ∃ (p : Int) (a b : Addr) (ns ls : List Int), vs = [.int p, .ref a, .ref b] ∧ (0 < p ∧ p ≤ 1000000) ∧ SqL K H a (ns.map V.int) ∧ SqL K H b (ls.map V.int) ∧ ns.length ≤ 100 ∧ ls.length ≤ 100 ∧ (∀ x ∈ ls, 0 ≤ x ∧ x < p) ∧ RetL ((lawRest p ns ls).map V.int) H Q
theorem lrest_le (p : Int) (ls : List Int) : ∀ (n : Nat) (row : List Int), (lrest p ls n row).length ≤ row.length
  | 0, _ => Nat.le_refl _
  | n + 1, row => by
    rw [lrest]
    refine Nat.le_trans (lrest_le p ls n _) ?_
    split
    · rw [subL_len, List.length_dropLast]; omega
    · exact Nat.le_refl _
theorem lrest_snoc (p : Int) (ls : List Int) : ∀ (n : Nat) (row : List Int), lrest p ls (n + 1) row = if ls.length < (lrest p ls n row).length then subL p ((lrest p ls n row).getD ((lrest p ls n row).length - 1) 0) ((lrest p ls n row).length - 1 - ls.length) ls (lrest p ls n row).dropLast else lrest p ls n row
  | 0, _ => rfl
  | n + 1, row => by
    rw [lrest, lrest_snoc p ls n]
    rfl
def lowOk (p : Int) (lo : List Int) : Prop := (1 ≤ lo.length ∧ lo.length ≤ 12) ∧ ∀ x ∈ lo, 0 ≤ x ∧ x < p
def spLTimes (K : PySem.W.Frag) : Sp := fun vs H Q _ => ∃ (p : Int) (la : Addr) (lo : List Int) (a b : Int), vs = [.int p, .ref la, .int a, .int b] ∧ (0 < p ∧ p ≤ 1000000) ∧ SqL K H la (lo.map V.int) ∧ lowOk p lo ∧ RetV (.int (lawTimes p lo a b)) H Q
def spLPlus : Sp := fun vs H Q _ => ∃ (p d a b : Int), vs = [.int p, .int d, .int a, .int b] ∧ (0 < p ∧ p ≤ 1000000) ∧ (0 ≤ d ∧ d ≤ 100) ∧ RetV (.int (lawPlus p d.toNat a b)) H Q
def spElem (K : PySem.W.Frag) : Sp := fun vs H Q _ => ∃ (a : Addr) (ns : List Int) (at_ : Nat) (n : Int), vs = [.ref a, .int (at_ : Nat), .int n] ∧ SqL K H a (ns.map V.int) ∧ at_ + 6 ≤ ns.length ∧ 0 < n ∧ RetI (fun z => 0 ≤ z ∧ z < n) H Q
theorem ok__law_element (D : Df K mg "_law_element" s__law_element ["numbers", "at", "size"]) (B : Bt mg) : Cd P w K mg base 1 "_law_element" (spElem K) := by
  refine D.ok sc__law_element (fun vs H Q E h => ?_) (fun f cdv A outer s H vs Q E hr h => ?_)
  · obtain ⟨a, ns, t, n, rfl, _⟩ := h; rfl
  · obtain ⟨a, ns, t, n, rfl, hS, hl, hn, q⟩ := h
    refine ⟨_, (pss_cons (ps_set (i := 3) sc__law_element.nd rfl (Or.inl rfl) pe_int)
      (pss_cons (ps_for PassesOwn.never rfl (pi_range1 (by rfl) B.range (pa_cons pe_int pa_nil)) (pg_name (i := 4) sc__law_element.nd rfl (Or.inl rfl)) (pss_one (ps_set (i := 3) sc__law_element.nd rfl (Or.inl rfl) (pe_op op_add (pe_op op_mul (pv 3) pe_int) (pe_ix (ix_listK (K := K) rfl) (pv 0) (pe_op op_add (pv 1) (pv 4)) (fun _ _ => rfl))))))
      (pss_one (ps_ret (pe_op op_mod (pe_callTy call_int1 (by rfl) B.int boot_int (pa_cons (pv 3) pa_nil)) (pv 2)))))), ?_⟩
    refine q_asg ev_c fun H1 e1 => ?_
    refine q_forW (gets_r1 (n := 6) ev_c (by decide)) walk_range (fun i σ' H' => ∃ (z : Int) (y : Option V), σ' = [some (.ref a), some (.int (t : Nat)), some (.int n), some (.int z), y] ∧ Ex H H') ?_ ?_ ?_ ?_
    · intro H2 e2; exact ⟨0, none, rfl, e1.trans e2⟩
    · intros; trivial
    · rintro i x σ' H' H2 hi ⟨z, y, rfl, e⟩ ⟨rfl, rfl⟩
      have hi6 : i < 6 := hi
      have hg := getD_at (ns := ns) (i := t + i) (by omega)
      refine s_asg (ev_op (ev_op (ev_var rfl) ev_c (rv_I (.inr ⟨by decide, by decide⟩))) (ev_op (ev_var rfl) (ev_is (ev_op (ev_var rfl) (ev_var rfl) rv_I0) (congrArg V.int (show ((t : Nat) : Int) + (0 + (i : Int)) = ((t + i : Nat) : Int) by omega))) (rv_ixLn (ex_l e hS) (ints_at hg))) rv_I0) fun H3 e3 => ?_
      exact ⟨_, _, rfl, e.trans e3⟩
    · rintro σ' H' ⟨z, y, rfl, e⟩
      refine s_ret (ev_op (ev_int (ea_cons (ev_var rfl) ea_nil)) (ev_var rfl) (rv_I hn)) fun H2 e2 => ?_
      exact q H2 _ (e.trans e2) ⟨Int.emod_nonneg _ (by omega), Int.emod_lt_of_pos _ hn⟩
def fieldRows : List (Nat × Int) := [(2, 1), (2, 2), (2, 3), (3, 2), (2, 4), (5, 2), (3, 3), (7, 1), (2, 5), (7, 2), (11, 1), (3, 4), (13, 2), (2, 6), (5, 3), (97, 1)]
def spField (K : PySem.W.Frag) : Sp := fun vs H Q _ => ∃ (a : Addr) (ns : List Int) (at_ : Nat), vs = [.ref a, .int (at_ : Nat)] ∧ SqL K H a (ns.map V.int) ∧ at_ < ns.length ∧
  ∀ (t : Addr) (H2 : Hp) (q : Nat × Int), q ∈ fieldRows → Ex H H2 → H2 t = some (.tup [.int (q.1 : Nat), .int q.2]) → Q (.ref t) H2
theorem ok__law_field (D : Df K mg "_law_field" s__law_field ["numbers", "at"]) (B : Bt mg) : Cd P w K mg base 1 "_law_field" (spField K) := by
  refine D.ok sc__law_field (fun vs H Q E h => ?_) (fun f cdv A outer s H vs Q E hr h => ?_)
  · obtain ⟨a, ns, t, rfl, _⟩ := h; rfl
  · obtain ⟨a, ns, t, rfl, hS, hl, q⟩ := h
    refine ⟨_, (pss_cons (ps_set (i := 2) sc__law_field.nd rfl (Or.inl rfl) (pe_lst (pa_cons (pe_tup (pa_cons pe_int (pa_cons pe_int pa_nil))) (pa_cons (pe_tup (pa_cons pe_int (pa_cons pe_int pa_nil))) (pa_cons (pe_tup (pa_cons pe_int (pa_cons pe_int pa_nil))) (pa_cons (pe_tup (pa_cons pe_int (pa_cons pe_int pa_nil))) (pa_cons (pe_tup (pa_cons pe_int (pa_cons pe_int pa_nil))) (pa_cons (pe_tup (pa_cons pe_int (pa_cons pe_int pa_nil))) (pa_cons (pe_tup (pa_cons pe_int (pa_cons pe_int pa_nil))) (pa_cons (pe_tup (pa_cons pe_int (pa_cons pe_int pa_nil))) (pa_cons (pe_tup (pa_cons pe_int (pa_cons pe_int pa_nil))) (pa_cons (pe_tup (pa_cons pe_int (pa_cons pe_int pa_nil))) (pa_cons (pe_tup (pa_cons pe_int (pa_cons pe_int pa_nil))) (pa_cons (pe_tup (pa_cons pe_int (pa_cons pe_int pa_nil))) (pa_cons (pe_tup (pa_cons pe_int (pa_cons pe_int pa_nil))) (pa_cons (pe_tup (pa_cons pe_int (pa_cons pe_int pa_nil))) (pa_cons (pe_tup (pa_cons pe_int (pa_cons pe_int pa_nil))) (pa_cons (pe_tup (pa_cons pe_int (pa_cons pe_int pa_nil))) pa_nil))))))))))))))))))
      (pss_one (ps_ret (pe_ix (ix_listK (K := K) rfl) (pv 2) (pe_op op_mod (pe_callTy call_int1 (by rfl) B.int boot_int (pa_cons (pe_ix (ix_listK (K := K) rfl) (pv 0) (pv 1) (fun _ _ => rfl)) pa_nil)) pe_int) (fun _ _ => rfl))))), ?_⟩
    refine q_asgPs (ps := fieldRows) (evp_cons2 (p := 2) rfl (evp_cons2 (p := 2) rfl (evp_cons2 (p := 2) rfl (evp_cons2 (p := 3) rfl (evp_cons2 (p := 2) rfl (evp_cons2 (p := 5) rfl (evp_cons2 (p := 3) rfl (evp_cons2 (p := 7) rfl (evp_cons2 (p := 2) rfl (evp_cons2 (p := 7) rfl (evp_cons2 (p := 11) rfl (evp_cons2 (p := 3) rfl (evp_cons2 (p := 13) rfl (evp_cons2 (p := 2) rfl (evp_cons2 (p := 5) rfl (evp_cons2 (p := 97) rfl evp_nil)))))))))))))))) (by decide) fun o H1 vs no e2 ho hP2 => ?_
    have hvl : vs.length = 16 := hP2.len
    have hg := getD_at (ns := ns) (i := t) hl
    have hm0 : 0 ≤ ns.getD t 0 % 16 := Int.emod_nonneg _ (by decide)
    have hm1 : ns.getD t 0 % 16 < 16 := Int.emod_lt_of_pos _ (by decide)
    have hj : (ns.getD t 0 % 16).toNat < vs.length := by omega
    have hx := List.getElem?_eq_getElem hj
    obtain ⟨q2, hq2, t2, ht2, htt⟩ := hP2.get hx
    refine s_ret (v := .ref t2) (ev_op (ev_var rfl) (ev_is (ev_op (ev_int (ea_cons (ev_op (ev_var rfl) (ev_var rfl) (rv_ixLn (ex_l e2 hS) (ints_at hg))) ea_nil)) ev_c (rv_I (by decide))) (congrArg V.int (show ns.getD t 0 % 16 = (((ns.getD t 0 % 16).toNat : Nat) : Int) by omega))) (rv_ixLn (sq_of ho) (hx.trans (congrArg some ht2)))) fun H3 e3 => ?_
    exact q t2 H3 q2 (List.mem_of_getElem? hq2) (e2.trans e3) (e3 t2 _ htt)

def spLower : Sp := fun vs H Q _ => ∃ (p k : Int) (lo : List Int), vs = [.int p, .int k] ∧ (2 ≤ p ∧ p ≤ 1000000) ∧ (1 ≤ k ∧ k ≤ 12) ∧ sizeI p k.toNat < 2 ^ 60 ∧ LowerP p k lo ∧ RetL (lo.map V.int) H Q
theorem sizeI_mono {p : Int} (hp : 1 ≤ p) {a b : Nat} (h : a ≤ b) : sizeI p a ≤ sizeI p b := by
  induction h with
  | refl => exact Int.le_refl _
  | step h ih =>
    refine Int.le_trans ih ?_
    rename_i m
    show sizeI p m ≤ sizeI p m * p
    have h0 : 0 < sizeI p m := sizeI_pos (by omega) m
    have := Int.mul_le_mul_of_nonneg_left hp (Int.le_of_lt h0)
    omega
theorem lawRest_ne (p : Int) (ns ls : List Int) (h : 1 ≤ ls.length) : lawRest p ns ls ≠ [] := fun z => by
  have hl : (lawRest p ns ls).length = 0 := by rw [z]; rfl
  unfold lawRest at hl
  rw [List.length_append, List.length_replicate] at hl
  omega
end
end My
namespace My
open PySem PySem.Spec PyProof.Rows L2 Evl Mi
abbrev s_power : Stmt := top 11
theorem sc_power : FnScope ["prime", "degree", "one", "times"] ["prime", "degree", "one", "times"] (defScope s_power) := ⟨rfl, rfl, rfl, by decide +kernel, rfl, by decide +kernel, by decide +kernel⟩
abbrev s_Field_added : Stmt := inClass (top 12) 1
theorem sc_Field_added : FnScope ["self", "one", "other"] ["self", "one", "other"] (defScope s_Field_added) := ⟨rfl, rfl, rfl, by decide +kernel, rfl, by decide +kernel, by decide +kernel⟩
abbrev s_Field_less : Stmt := inClass (top 12) 2
theorem sc_Field_less : FnScope ["self", "one", "other"] ["self", "one", "other"] (defScope s_Field_less) := ⟨rfl, rfl, rfl, by decide +kernel, rfl, by decide +kernel, by decide +kernel⟩
abbrev s_Field_inverse : Stmt := inClass (top 12) 4
theorem sc_Field_inverse : FnScope ["self", "one"] ["self", "one"] (defScope s_Field_inverse) := ⟨rfl, rfl, rfl, by decide +kernel, rfl, by decide +kernel, by decide +kernel⟩
abbrev s_Field_power : Stmt := inClass (top 12) 5
theorem sc_Field_power : FnScope ["self", "one", "times", "rest", "figures"] ["self", "one", "times"] (defScope s_Field_power) := ⟨rfl, rfl, rfl, by decide +kernel, rfl, by decide +kernel, by decide +kernel⟩
abbrev s_need_not_zero : Stmt := top 15
theorem sc_need_not_zero : FnScope ["one"] ["one"] (defScope s_need_not_zero) := ⟨rfl, rfl, rfl, by decide +kernel, rfl, by decide +kernel, by decide +kernel⟩
abbrev s_generator : Stmt := top 31
theorem sc_generator : FnScope ["prime", "degree", "field", "all_times", "shorter", "one", "divisor"] ["prime", "degree"] (defScope s_generator) := ⟨rfl, rfl, rfl, by decide +kernel, rfl, by decide +kernel, by decide +kernel⟩
abbrev s_conjugates : Stmt := top 32
theorem sc_conjugates : FnScope ["prime", "degree", "one"] ["prime", "degree", "one"] (defScope s_conjugates) := ⟨rfl, rfl, rfl, by decide +kernel, rfl, by decide +kernel, by decide +kernel⟩
abbrev s_trace : Stmt := top 33
theorem sc_trace : FnScope ["prime", "degree", "one", "field", "total", "member"] ["prime", "degree", "one"] (defScope s_trace) := ⟨rfl, rfl, rfl, by decide +kernel, rfl, by decide +kernel, by decide +kernel⟩
abbrev s_norm : Stmt := top 34
theorem sc_norm : FnScope ["prime", "degree", "one", "field", "total", "member"] ["prime", "degree", "one"] (defScope s_norm) := ⟨rfl, rfl, rfl, by decide +kernel, rfl, by decide +kernel, by decide +kernel⟩
abbrev s_least_polynomial : Stmt := top 35
theorem sc_least_polynomial : FnScope ["prime", "degree", "one", "field", "coefficients", "root"] ["prime", "degree", "one"] (defScope s_least_polynomial) := ⟨rfl, rfl, rfl, by decide +kernel, rfl, by decide +kernel, by decide +kernel⟩
abbrev s_need_orders : Stmt := top 36
theorem sc_need_orders : FnScope ["prime", "degree"] ["prime", "degree"] (defScope s_need_orders) := ⟨rfl, rfl, rfl, by decide +kernel, rfl, by decide +kernel, by decide +kernel⟩
abbrev s_has_power_one : Stmt := top 37
theorem sc_has_power_one : FnScope ["field", "one", "numbers", "times"] ["field", "one", "numbers"] (defScope s_has_power_one) := ⟨rfl, rfl, rfl, by decide +kernel, rfl, by decide +kernel, by decide +kernel⟩
abbrev s_prime_divisors : Stmt := top 38
theorem sc_prime_divisors : FnScope ["number", "found", "divisor"] ["number"] (defScope s_prime_divisors) := ⟨rfl, rfl, rfl, by decide +kernel, rfl, by decide +kernel, by decide +kernel⟩
abbrev s_conjugates_in : Stmt := top 39
theorem sc_conjugates_in : FnScope ["field", "one", "found", "last"] ["field", "one"] (defScope s_conjugates_in) := ⟨rfl, rfl, rfl, by decide +kernel, rfl, by decide +kernel, by decide +kernel⟩
abbrev s_repeated_powers : Stmt := top 40
theorem sc_repeated_powers : FnScope ["field", "one", "found"] ["field", "one"] (defScope s_repeated_powers) := ⟨rfl, rfl, rfl, by decide +kernel, rfl, by decide +kernel, by decide +kernel⟩
abbrev s_times_x_less : Stmt := top 41
theorem sc_times_x_less : FnScope ["field", "coefficients", "root", "raised", "place", "coefficient"] ["field", "coefficients", "root"] (defScope s_times_x_less) := ⟨rfl, rfl, rfl, by decide +kernel, rfl, by decide +kernel, by decide +kernel⟩
section
variable {P : Program} {w : World} {K : PySem.W.Frag} {mg : Str → Option Value} {base : Heap}
/-- a new Field -/
def EvF (K : PySem.W.Frag) (C : Addr) (te : TE) (σ : L2.St) (H : Hp) (p k : Int) (lo : List Int) : Prop := ∀ H1, Ex H H1 → ∀ Q : VK, (∀ x H2, H1 x = none → Ex H1 H2 → FieldAt K C H2 x p k lo → Q (.ref x) H2) → te σ H1 Q
theorem ef_make {C : Addr} {σ : L2.St} {H : Hp} {ta tb : TE} {p k : Int} {lo : List Int} {E : XK} (ha : Ev ta σ H (.int p)) (hb : Ev tb σ H (.int k)) (hf : isField p k = true) (hP : FieldP p k lo) : EvF K C (tMake C (spInit K C) [] E (tCons ta (tCons tb tNil))) σ H p k lo := fun H1 e Q q =>
  ha H1 e _ fun H2 e2 => hb H2 (e.trans e2) _ fun H3 e3 => fun x dx nx ndx hdx => by
    have eX : Ex H3 (upd (upd H3 dx (.own x)) x (.ins C dx [])) := fun b o hb => by
      rw [upd_ne (ne_of_none hb nx), upd_ne (ne_of_none hb ndx)]; exact hb
    refine ⟨x, dx, p, k, lo, rfl, upd_same, hf, hP, fun H5 hk hF => ⟨rfl, ?_⟩⟩
    have e5 : Ex H3 H5 := fun b o hb => hk b o (eX b o hb) (ne_of_none hb nx)
    exact q x H5 (fresh_back (e2.trans e3) nx) ((e2.trans e3).trans e5) hF
theorem q_asgF {C : Addr} {σ : L2.St} {H : Hp} {te : TE} {p k : Int} {lo : List Int} {D : Ends} {tz : TS} {i : Nat} (h : EvF K C te σ H p k lo) (kk : ∀ x H1, H x = none → Ex H H1 → FieldAt K C H1 x p k lo → tz D (σ.set i (some (.ref x))) H1) : tSeq (tAsg te (gName i)) tz D σ H := h H (Ex.refl H) _ kk
/-- f(Field(..), x) -/
theorem el_callF {C : Addr} {σ : L2.St} {H : Hp} {te ta : TE} {p k : Int} {lo : List Int} {sp : Sp} {E : XK} {v : V} {xs : List V} (h : EvF K C te σ H p k lo) (ha : ∀ H1, Ex H H1 → Ev ta σ H1 v) (hs : ∀ x H1, Ex H H1 → FieldAt K C H1 x p k lo → ∀ Q : VK, RetL xs H1 Q → ∀ E, sp [.ref x, v] H1 Q E) : EvL (tCall sp [] E (tCons te (tCons ta tNil))) σ H xs := fun H1 e Q q =>
  h H1 e _ fun x H2 nx e2 hF => ha H2 (e.trans e2) H2 (Ex.refl H2) _ fun H3 e3 => hs x H3 ((e.trans e2).trans e3) (hF.mono e3) Q (fun r H4 hp e4 h4 => q r H4 (fresh_back (e2.trans e3) hp) ((e2.trans e3).trans e4) h4) E
theorem ev_callF {C : Addr} {σ : L2.St} {H : Hp} {te ta : TE} {p k : Int} {lo : List Int} {sp : Sp} {E : XK} {v z : V} (h : EvF K C te σ H p k lo) (ha : ∀ H1, Ex H H1 → Ev ta σ H1 v) (hs : ∀ x H1, Ex H H1 → FieldAt K C H1 x p k lo → ∀ Q : VK, RetV z H1 Q → ∀ E, sp [.ref x, v] H1 Q E) : Ev (tCall sp [] E (tCons te (tCons ta tNil))) σ H z := fun H1 e Q q =>
  h H1 e _ fun x H2 nx e2 hF => ha H2 (e.trans e2) H2 (Ex.refl H2) _ fun H3 e3 => hs x H3 ((e.trans e2).trans e3) (hF.mono e3) Q (fun H4 e4 => q H4 ((e2.trans e3).trans e4)) E
/-- a name that no Field holds as data -/
structure NoF (m : Str) : Prop where
  c : ¬ m = "coefficients"
  s : ¬ m = "size"
  d : ¬ m = "degree"
  p : ¬ m = "prime"
theorem nf_power : NoF "power" := ⟨by decide +kernel, by decide +kernel, by decide +kernel, by decide +kernel⟩
theorem nf_added : NoF "added" := ⟨by decide +kernel, by decide +kernel, by decide +kernel, by decide +kernel⟩
theorem nf_less : NoF "less" := ⟨by decide +kernel, by decide +kernel, by decide +kernel, by decide +kernel⟩
theorem nf_product : NoF "product" := ⟨by decide +kernel, by decide +kernel, by decide +kernel, by decide +kernel⟩
theorem nf_inverse : NoF "inverse" := ⟨by decide +kernel, by decide +kernel, by decide +kernel, by decide +kernel⟩
theorem ev_fmeth {C : Addr} {σ : L2.St} {H : Hp} {ta : TE} {t : TA} {s : Addr} {p k : Int} {lo : List Int} {m : Str} {sp : Sp} {E : XK} {vs : List V} {z : V} (hm : NoF m) (ha : Ev ta σ H (.ref s)) (hF : FieldAt K C H s p k lo) (h : EvA t σ H vs) (hs : ∀ H1, Ex H H1 → FieldAt K C H1 s p k lo → ∀ Q : VK, RetV z H1 Q → ∀ E : XK, sp (.ref s :: (vs ++ [])) H1 Q E) :
    Ev (tMeth C m sp [] E ta t) σ H z := fun H1 e Q q => ha H1 e _ fun H2 e2 => by
  obtain ⟨dx, ca, hs1, hca⟩ := hF.ob
  exact ⟨s, dx, _, rfl, e2 s _ (e s _ hs1), fldF_no p k ca hm.c hm.s hm.d hm.p, h H2 (e.trans e2) _ fun H3 e3 => hs H3 ((e.trans e2).trans e3) (hF.mono ((e.trans e2).trans e3)) Q (fun H4 e4 => q H4 ((e2.trans e3).trans e4)) E⟩
theorem ev_fprime {C : Addr} {σ : L2.St} {H : Hp} {ta : TE} {s : Addr} {p k : Int} {lo : List Int} (ha : Ev ta σ H (.ref s)) (hF : FieldAt K C H s p k lo) (T : Tx K C) : Ev (tFld K ta "prime") σ H (.int p) := by
  obtain ⟨dx, ca, hs, _⟩ := hF.ob
  exact ev_fld ha hs T.cl T.np (fldF_prime _ _ _)
theorem ev_fdegree {C : Addr} {σ : L2.St} {H : Hp} {ta : TE} {s : Addr} {p k : Int} {lo : List Int} (ha : Ev ta σ H (.ref s)) (hF : FieldAt K C H s p k lo) (T : Tx K C) : Ev (tFld K ta "degree") σ H (.int k) := by
  obtain ⟨dx, ca, hs, _⟩ := hF.ob
  exact ev_fld ha hs T.cl T.nd (fldF_degree _ _ _)
theorem ev_fsize {C : Addr} {σ : L2.St} {H : Hp} {ta : TE} {s : Addr} {p k : Int} {lo : List Int} (ha : Ev ta σ H (.ref s)) (hF : FieldAt K C H s p k lo) (T : Tx K C) : Ev (tFld K ta "size") σ H (.int (sizeI p k.toNat)) := by
  obtain ⟨dx, ca, hs, _⟩ := hF.ob
  exact ev_fld ha hs T.cl T.ns (fldF_size _ _ _)
def spFAdd (K : PySem.W.Frag) (C : Addr) (f : Int) : Sp := fun vs H Q _ => ∃ (s : Addr) (p k a b : Int) (lo : List Int), vs = [.ref s, .int a, .int b] ∧ FieldAt K C H s p k lo ∧ isField p k = true ∧ (0 ≤ a ∧ a < sizeI p k.toNat) ∧ (0 ≤ b ∧ b < sizeI p k.toNat) ∧ RetV (.int (wm p f k.toNat a b)) H Q
theorem ok_Field_added {C : Addr} (D : Dm K C "added" "Field.added" s_Field_added ["self", "one", "other"]) (T : Tx K C) (c_with_multiple : Cd P w K mg base 1 "with_multiple" spWith) : Td P w K mg base 2 C "added" (spFAdd K C 1) := by
  refine D.ok sc_Field_added (fun vs H Q E h => ?_) (fun f cdv A outer s H vs Q E hr h => ?_)
  · obtain ⟨s, p, k, a, b, lo, rfl, _⟩ := h; rfl
  · obtain ⟨s, p, k, a, b, lo, rfl, hF, hf, ha, hb, q⟩ := h
    have hB := isField_b hf
    refine ⟨_, (pss_one (ps_ret (pe_cd c_with_multiple hr (by decide) (by rfl) (pa_cons (pe_fld (pv 0) rfl) (pa_cons (pv 1) (pa_cons (pv 2) (pa_cons pe_int pa_nil))))))), ?_⟩
    exact s_ret (ev_call (vs := [.int p, .int a, .int b, .int 1]) (ea_cons (ev_fprime (ev_var rfl) hF T) (ea_cons (ev_var rfl) (ea_cons (ev_var rfl) (ea_cons ev_c ea_nil)))) fun H1 e Q q E => ⟨p, a, b, 1, k.toNat, rfl, by omega, ha, hb, q⟩) fun H1 e1 => q H1 e1
theorem ok_Field_less {C : Addr} (D : Dm K C "less" "Field.less" s_Field_less ["self", "one", "other"]) (T : Tx K C) (c_with_multiple : Cd P w K mg base 1 "with_multiple" spWith) : Td P w K mg base 2 C "less" (spFAdd K C (-1)) := by
  refine D.ok sc_Field_less (fun vs H Q E h => ?_) (fun f cdv A outer s H vs Q E hr h => ?_)
  · obtain ⟨s, p, k, a, b, lo, rfl, _⟩ := h; rfl
  · obtain ⟨s, p, k, a, b, lo, rfl, hF, hf, ha, hb, q⟩ := h
    have hB := isField_b hf
    refine ⟨_, (pss_one (ps_ret (pe_cd c_with_multiple hr (by decide) (by rfl) (pa_cons (pe_fld (pv 0) rfl) (pa_cons (pv 1) (pa_cons (pv 2) (pa_cons (pe_un un_neg pe_int) pa_nil))))))), ?_⟩
    exact s_ret (ev_call (vs := [.int p, .int a, .int b, .int (-1)]) (ea_cons (ev_fprime (ev_var rfl) hF T) (ea_cons (ev_var rfl) (ea_cons (ev_var rfl) (ea_cons (ev_un ev_c ru_neg) ea_nil)))) fun H1 e Q q E => ⟨p, a, b, -1, k.toNat, rfl, by omega, ha, hb, q⟩) fun H1 e1 => q H1 e1
def spFPow (K : PySem.W.Frag) (C : Addr) : Sp := fun vs H Q _ => ∃ (s : Addr) (p k a t : Int) (lo : List Int), vs = [.ref s, .int a, .int t] ∧ FieldAt K C H s p k lo ∧ isField p k = true ∧ lo.length = k.toNat ∧ RetV (.int (fpow p k lo a t)) H Q
theorem size_two {p k : Int} (h : isField p k = true) : 2 ≤ sizeI p k.toNat := by
  have hB := isField_b h
  obtain ⟨n, hn⟩ : ∃ n, k.toNat = n + 1 := ⟨k.toNat - 1, by omega⟩
  rw [hn]
  show 2 ≤ sizeI p n * p
  have h0 := sizeI_pos (p := p) (by omega) n
  have h1 : 1 * p ≤ sizeI p n * p := Int.mul_le_mul_of_nonneg_right (by omega) (by omega)
  omega
theorem ok_Field_power {C : Addr} (D : Dm K C "power" "Field.power" s_Field_power ["self", "one", "times"]) (T : Tx K C) (c_figures_of : Cd P w K mg base 1 "figures_of" spFigs) (c_number_of : Cd P w K mg base 1 "number_of" (spNum K)) (c_raised : Cd P w K mg base 2 "raised" (spRaised K)) : Td P w K mg base 3 C "power" (spFPow K C) := by
  refine D.ok sc_Field_power (fun vs H Q E h => ?_) (fun f cdv A outer s H vs Q E hr h => ?_)
  · obtain ⟨s, p, k, a, t, lo, rfl, _⟩ := h; rfl
  · obtain ⟨s, p, k, a, t, lo, rfl, hF, hf, hlo, q⟩ := h
    have hB := isField_b hf
    have hs2 := size_two hf
    have hs15 := field_size hf
    refine ⟨_, (pss_cons (ps_if (pt_cmpR op_eq (pv 1) pe_int (nomark _)) (pss_one (ps_ret (pe_ifExp (pt_cmpR op_eq (pv 2) pe_int (nomark _)) pe_int pe_int))) pss_nil)
      (pss_cons (ps_set (i := 3) sc_Field_power.nd rfl (Or.inl rfl) (pe_op op_mod (pv 2) (pe_op op_sub (pe_fld (pv 0) rfl) pe_int)))
      (pss_cons (ps_set (i := 4) sc_Field_power.nd rfl (Or.inl rfl) (pe_cd c_figures_of hr (by decide) (by rfl) (pa_cons (pe_fld (pv 0) rfl) (pa_cons (pe_fld (pv 0) rfl) (pa_cons (pv 1) pa_nil)))))
      (pss_one (ps_ret (pe_cd c_number_of hr (by decide) (by rfl) (pa_cons (pe_fld (pv 0) rfl) (pa_cons (pe_cd c_raised hr (by decide) (by rfl) (pa_cons (pe_fld (pv 0) rfl) (pa_cons (pe_fld (pv 0) rfl) (pa_cons (pv 4) (pa_cons (pv 3) pa_nil))))) pa_nil)))))))), ?_⟩
    refine q_when (et_test (ev_op (ev_var rfl) ev_c (rv_eq rfl))) (fun hb H1 e1 => ?_) (fun hb H1 e1 => ?_)
    · have ha : a = 0 := V.int.inj (of_decide_eq_true hb)
      have e0 : fpow p k lo a t = if t = 0 then 1 else 0 := by unfold fpow; rw [if_pos ha]
      rw [e0] at q
      refine s_ret (v := .int (if t = 0 then 1 else 0)) (ev_if (et_test (ev_op (ev_var rfl) ev_c (rv_eq rfl))) (fun h => ?_) (fun h => ?_)) fun H2 e2 => q H2 (e1.trans e2)
      · rw [if_pos (V.int.inj (of_decide_eq_true h))]; exact ev_c
      · rw [if_neg (fun z => of_decide_eq_false h (congrArg V.int z))]; exact ev_c
    · have ha : ¬ a = 0 := fun z => of_decide_eq_false hb (congrArg V.int z)
      have e0 : fpow p k lo a t = num p (raisedL p lo (figs p k.toNat a) (t % (sizeI p k.toNat - 1))) := by unfold fpow; rw [if_neg ha]
      rw [e0] at q
      have m0 : 0 ≤ t % (sizeI p k.toNat - 1) := Int.emod_nonneg _ (by omega)
      have m1 : t % (sizeI p k.toNat - 1) < sizeI p k.toNat - 1 := Int.emod_lt_of_pos _ (by omega)
      have e64 : sizeI 2 64 = 18446744073709551616 := by decide +kernel
      refine q_asg (ev_op (ev_var rfl) (ev_op (ev_fsize (ev_var rfl) (hF.mono e1) T) ev_c rv_I0) (rv_I (by omega))) fun H2 e2 => ?_
      have hF2 := hF.mono (e1.trans e2)
      refine q_asgL (el_call (vs := [.int p, .int k, .int a]) (ea_cons (ev_fprime (ev_var rfl) hF2 T) (ea_cons (ev_fdegree (ev_var rfl) hF2 T) (ea_cons (ev_var rfl) ea_nil))) fun H4 e4 Q q E => ⟨p, k, _, rfl, by omega, by omega, q⟩) fun o H3 no e3 ho => ?_
      have hF3 := hF2.mono e3
      obtain ⟨dx, ca, hs3, hca⟩ := hF3.ob
      have hfl : (figs p k.toNat a).length = lo.length := by rw [figs_len, hlo]
      refine s_ret (ev_call2L (ev_fprime (ev_var rfl) hF3 T) (el_call (vs := [.int p, .ref ca, .ref o, .int (t % (sizeI p k.toNat - 1))]) (ea_cons (ev_fprime (ev_var rfl) hF3 T) (ea_cons (ev_fld (ev_var rfl) hs3 T.cl T.nc (fldF_coef _ _ _)) (ea_cons (ev_var rfl) (ea_cons (ev_var rfl) ea_nil)))) fun H4 e4 Q q E =>
          ⟨p, _, ca, o, lo, figs p k.toNat a, rfl, by omega, .inr (ex_t e4 hca), sq_of (e4 o _ ho), by omega, hfl, figs_mem (by omega) _ _, ⟨m0, by omega⟩, q⟩)
        fun b H4 e4 hb Q q E => ⟨p, b, _, rfl, by omega, sq_of hb, q⟩) fun H4 e4 => ?_
      exact q H4 (((e1.trans e2).trans e3).trans e4)
/-- the power by the prime -/
def pwp (p k : Int) (lo : List Int) : Int → Int := fun x => fpow p k lo x p
theorem powcall {C : Addr} {σ : L2.St} {H : Hp} {s : Addr} {p k a t : Int} {lo : List Int} {E : XK} {ta tb tc : TE} (hF : FieldAt K C H s p k lo) (hf : isField p k = true) (hlo : lo.length = k.toNat) (h1 : Ev ta σ H (.ref s)) (h2 : Ev tb σ H (.int a)) (h3 : Ev tc σ H (.int t)) :
    Ev (tMeth C "power" (spFPow K C) [] E ta (tCons tb (tCons tc tNil))) σ H (.int (fpow p k lo a t)) :=
  ev_fmeth nf_power h1 hF (vs := [.int a, .int t]) (ea_cons h2 (ea_cons h3 ea_nil)) fun H1 e hF1 Q q E => ⟨s, p, k, a, t, lo, rfl, hF1, hf, hlo, q⟩
theorem orb_succ (f : Int → Int) (a : Int) (j : Nat) : orb f a (j + 1) = orb f a j ++ [itp f j a] := by unfold orb; rw [List.range_succ, List.map_append]; rfl
theorem orb_len (f : Int → Int) (a : Int) (j : Nat) : (orb f a j).length = j := by unfold orb; rw [List.length_map, List.length_range]
theorem orb_get {f : Int → Int} {a : Int} {j i : Nat} (h : i < j) : (orb f a j)[i]? = some (itp f i a) := by unfold orb; rw [List.getElem?_map, List.getElem?_range h]; rfl
def spConjIn (K : PySem.W.Frag) (C : Addr) : Sp := fun vs H Q _ => ∃ (s : Addr) (p k a : Int) (lo : List Int) (m : Nat), vs = [.ref s, .int a] ∧ FieldAt K C H s p k lo ∧ isField p k = true ∧ lo.length = k.toNat ∧ Mi.Ret (pwp p k lo) a m ∧ m ≤ 100 ∧ RetL ((orb (pwp p k lo) a m).map V.int) H Q
theorem ok_conjugates_in {C : Addr} (D : Df K mg "conjugates_in" s_conjugates_in ["field", "one"]) (T : Tx K C) (d_power : Td P w K mg base 3 C "power" (spFPow K C)) : Cd P w K mg base 4 "conjugates_in" (spConjIn K C) := by
  refine D.ok sc_conjugates_in (fun vs H Q E h => ?_) (fun f cdv A outer s0 H vs Q E hr h => ?_)
  · obtain ⟨s, p, k, a, lo, m, rfl, _⟩ := h; rfl
  · obtain ⟨s, p, k, a, lo, m, rfl, hF, hf, hlo, hR, hm, q⟩ := h
    obtain ⟨hm1, hma, hmn⟩ := hR
    refine ⟨_, (pss_cons (ps_set (i := 2) sc_conjugates_in.nd rfl (Or.inl rfl) (pe_lst (pa_cons (pv 1) pa_nil)))
      (pss_cons (ps_set (i := 3) sc_conjugates_in.nd rfl (Or.inl rfl) (pe_met d_power hr (by decide) (pv 0) (pa_cons (pv 1) (pa_cons (pe_fld (pv 0) rfl) pa_nil))))
      (pss_cons (ps_while PassesOwn.never (pt_cmpR op_ne (pv 3) (pv 1) (nomark _)) (pss_cons (ps_expr (pe_bm PySem.F.plainAttrs_list PySem.F.slot_list_append PySem.F.type_list_append mt_append (pv 2) (pa_cons (pv 3) pa_nil)))
          (pss_one (ps_set (i := 3) sc_conjugates_in.nd rfl (Or.inl rfl) (pe_met d_power hr (by decide) (pv 0) (pa_cons (pv 3) (pa_cons (pe_fld (pv 0) rfl) pa_nil)))))))
      (pss_one (ps_ret (pv 2)))))), ?_⟩
    refine q_asgL (el_lst (ea_cons (ev_var rfl) ea_nil) (by show 1 ≤ 100000; decide)) fun o H1 no e1 ho => ?_
    refine q_asg (powcall (hF.mono e1) hf hlo (ev_var rfl) (ev_var rfl) (ev_fprime (ev_var rfl) (hF.mono e1) T)) fun H2 e2 => ?_
    refine q_while (fun n σ' H' => ∃ j, j + n = m ∧ 1 ≤ j ∧ σ' = [some (.ref s), some (.int a), some (.ref o), some (.int (itp (pwp p k lo) j a))] ∧ Ex H H' ∧ H' o = some (.lst ((orb (pwp p k lo) a j).map V.int))) (m - 1)
      ⟨1, by omega, by omega, rfl, e1.trans e2, e2 o _ ho⟩ ?_
    rintro n σ' H' ⟨j, hj, hj1, rfl, e, ho'⟩
    refine ⟨_, et_test (ev_op (ev_var rfl) (ev_var rfl) (rv_ne rfl)), fun hc H3 e3 => ?_, fun hc H3 e3 => ?_⟩
    · have hne : itp (pwp p k lo) j a ≠ a := fun z => by rw [z, decide_eq_true rfl] at hc; cases hc
      have hjm : j < m := by
        rcases Nat.lt_or_ge j m with h | h
        · exact h
        · obtain rfl : j = m := by omega
          exact absurd hma hne
      refine ⟨fun σ2 H2 => ∃ n2, n2 < n ∧ ∃ j, j + n2 = m ∧ 1 ≤ j ∧ σ2 = [some (.ref s), some (.int a), some (.ref o), some (.int (itp (pwp p k lo) j a))] ∧ Ex H H2 ∧ H2 o = some (.lst ((orb (pwp p k lo) a j).map V.int)), fun _ _ h => h, ?_⟩
      refine q_app (e3 o _ ho') (ev_var rfl) (ev_var rfl) (by rw [List.length_map, orb_len]; omega) fun H4 e4 => ?_
      have e34 := ((e.trans e3).trans e4).mut (o := .lst ((orb (pwp p k lo) a j).map V.int ++ [V.int (itp (pwp p k lo) j a)])) no
      refine s_asg (powcall (hF.mono e34) hf hlo (ev_var rfl) (ev_var rfl) (ev_fprime (ev_var rfl) (hF.mono e34) T)) fun H5 e5 => ?_
      refine ⟨n - 1, by omega, j + 1, by omega, by omega, rfl, e34.trans e5, ?_⟩
      rw [orb_succ, List.map_append]; exact e5 o _ upd_same
    · have hc2 : itp (pwp p k lo) j a = a := by
        by_cases z : itp (pwp p k lo) j a = a
        · exact z
        · rw [decide_eq_false (fun h => z (V.int.inj h))] at hc; cases hc
      have hjm : j = m := by
        rcases Nat.lt_or_ge j m with h | h
        · exact absurd hc2 (hmn j hj1 h)
        · omega
      subst hjm
      refine s_ret (ev_var rfl) fun H4 e4 => ?_
      exact q o H4 no ((e.trans e3).trans e4) (e4 o _ (e3 o _ ho'))
theorem need1 {σ : L2.St} {H : Hp} {ta tb tc : TE} {p k a : Int} (h1 : Ev ta σ H (.int p)) (h2 : Ev tb σ H (.int k)) (h3 : Ev tc σ H (.int a)) (hf : isField p k = true) (ha : 0 ≤ a ∧ a < sizeI p k.toNat) :
    Ev (tCall (spNeedMembers K) [] L2.E0 (tCons ta (tCons tb (tCons (tTup (tCons tc tNil)) tNil)))) σ H .non := fun H1 e Q q =>
  h1 H1 e _ fun H2 e2 => h2 H2 (e.trans e2) _ fun H3 e3 => eu_tup (vs := [.int a]) (ea_cons h3 ea_nil) (by show 1 ≤ 100000; decide) H3 ((e.trans e2).trans e3) _ fun t H4 _ e4 ht =>
    ⟨p, k, t, [a], rfl, hf, st_of ht, fun n hn => by rw [List.mem_singleton.mp hn]; exact ha, fun H5 e5 => q H5 (((e2.trans e3).trans e4).trans e5)⟩
def spConj : Sp := fun vs H Q _ => ∃ (p k a : Int) (lo : List Int) (m : Nat), vs = [.int p, .int k, .int a] ∧ isField p k = true ∧ FieldP p k lo ∧ (0 ≤ a ∧ a < sizeI p k.toNat) ∧ Mi.Ret (pwp p k lo) a m ∧ m ≤ 100 ∧ RetL ((orb (pwp p k lo) a m).map V.int) H Q
theorem ok_conjugates {C : Addr} (D : Df K mg "conjugates" s_conjugates ["prime", "degree", "one"]) (c_need_members : Cd P w K mg base 4 "need_members" (spNeedMembers K)) (c_Field : Md P w K mg base 6 "Field" C (spInit K C)) (c_conjugates_in : Cd P w K mg base 4 "conjugates_in" (spConjIn K C)) : Cd P w K mg base 8 "conjugates" spConj := by
  refine D.ok sc_conjugates (fun vs H Q E h => ?_) (fun f cdv A outer s H vs Q E hr h => ?_)
  · obtain ⟨p, k, a, lo, m, rfl, _⟩ := h; rfl
  · obtain ⟨p, k, a, lo, m, rfl, hf, hP, ha, hR, hm, q⟩ := h
    refine ⟨_, (pss_cons (ps_expr (pe_cd c_need_members hr (by decide) (by rfl) (pa_cons (pv 0) (pa_cons (pv 1) (pa_cons (pe_tup (pa_cons (pv 2) pa_nil)) pa_nil)))))
      (pss_one (ps_ret (pe_cd c_conjugates_in hr (by decide) (by rfl) (pa_cons (pe_mak c_Field hr (by decide) (by rfl) (pa_cons (pv 0) (pa_cons (pv 1) pa_nil))) (pa_cons (pv 2) pa_nil)))))), ?_⟩
    refine q_drop (need1 (ev_var rfl) (ev_var rfl) (ev_var rfl) hf ha) fun H1 e1 => ?_
    refine s_retL (el_callF (ef_make (ev_var rfl) (ev_var rfl) hf hP) (fun H2 e2 => ev_var rfl) fun x H2 e2 hF Q q E => ⟨x, p, k, a, lo, m, rfl, hF, hf, hP.len, hR, hm, q⟩) fun r H2 nr e2 hr2 => ?_
    exact q r H2 (fresh_back e1 nr) (e1.trans e2) hr2
def spRep (K : PySem.W.Frag) (C : Addr) : Sp := fun vs H Q _ => ∃ (s : Addr) (p k a : Int) (lo : List Int), vs = [.ref s, .int a] ∧ FieldAt K C H s p k lo ∧ isField p k = true ∧ lo.length = k.toNat ∧ RetL ((orb (pwp p k lo) a k.toNat).map V.int) H Q
theorem ok_repeated_powers {C : Addr} (D : Df K mg "repeated_powers" s_repeated_powers ["field", "one"]) (B : Bt mg) (T : Tx K C) (d_power : Td P w K mg base 3 C "power" (spFPow K C)) : Cd P w K mg base 4 "repeated_powers" (spRep K C) := by
  refine D.ok sc_repeated_powers (fun vs H Q E h => ?_) (fun f cdv A outer s0 H vs Q E hr h => ?_)
  · obtain ⟨s, p, k, a, lo, rfl, _⟩ := h; rfl
  · obtain ⟨s, p, k, a, lo, rfl, hF, hf, hlo, q⟩ := h
    have hB := isField_b hf
    refine ⟨_, (pss_cons (ps_set (i := 2) sc_repeated_powers.nd rfl (Or.inl rfl) (pe_lst (pa_cons (pv 1) pa_nil)))
      (pss_cons (ps_while PassesOwn.never (pt_cmpR op_lt (pe_callB (call_lenK (K := K) rfl) (by rfl) B.len PySem.boot_len (pa_cons (pv 2) pa_nil)) (pe_fld (pv 0) rfl) (nomark _)) (pss_one (ps_expr (pe_bm PySem.F.plainAttrs_list PySem.F.slot_list_append PySem.F.type_list_append mt_append (pv 2) (pa_cons (pe_met d_power hr (by decide) (pv 0) (pa_cons (pe_ix (ix_listK (K := K) rfl) (pv 2) (pe_un un_neg pe_int) (fun _ _ => rfl)) (pa_cons (pe_fld (pv 0) rfl) pa_nil))) pa_nil)))))
      (pss_one (ps_ret (pv 2))))), ?_⟩
    refine q_asgL (el_lst (ea_cons (ev_var rfl) ea_nil) (by show 1 ≤ 100000; decide)) fun o H1 no e1 ho => ?_
    refine q_while (fun n σ' H' => ∃ j, j + n = k.toNat ∧ 1 ≤ j ∧ σ' = [some (.ref s), some (.int a), some (.ref o)] ∧ Ex H H' ∧ H' o = some (.lst ((orb (pwp p k lo) a j).map V.int))) (k.toNat - 1)
      ⟨1, by omega, by omega, rfl, e1, ho⟩ ?_
    rintro n σ' H' ⟨j, hj, hj1, rfl, e, ho'⟩
    refine ⟨_, et_test (ev_op (ev_lenL (ev_var rfl) (.inl (sq_of ho'))) (ev_fdegree (ev_var rfl) (hF.mono e) T) rv_I0), fun hc H3 e3 => ?_, fun hc H3 e3 => ?_⟩
    · have hjk : j < k.toNat := by
        have := of_decide_eq_true hc
        rw [List.length_map, orb_len] at this; omega
      refine ⟨fun σ2 H2 => ∃ n2, n2 < n ∧ ∃ j, j + n2 = k.toNat ∧ 1 ≤ j ∧ σ2 = [some (.ref s), some (.int a), some (.ref o)] ∧ Ex H H2 ∧ H2 o = some (.lst ((orb (pwp p k lo) a j).map V.int)), fun _ _ h => h, ?_⟩
      have hF3 := hF.mono (e.trans e3)
      obtain ⟨j', rfl⟩ : ∃ j', j = j' + 1 := ⟨j - 1, by omega⟩
      have hlast : atI ((orb (pwp p k lo) a (j' + 1)).map V.int) (-1) = some (.int (itp (pwp p k lo) j' a)) := by rw [orb_succ, List.map_append]; exact atI_last _ _
      refine s_app (e3 o _ ho') (ev_var rfl) (powcall hF3 hf hlo (ev_var rfl) (ev_op (ev_var rfl) (ev_un ev_c ru_neg) (rv_ixL (sq_of (e3 o _ ho')) hlast)) (ev_fprime (ev_var rfl) hF3 T)) (by rw [List.length_map, orb_len]; omega) fun H4 e4 => ?_
      refine ⟨n - 1, by omega, j' + 2, by omega, by omega, rfl, ((e.trans e3).trans e4).mut no, ?_⟩
      rw [orb_succ _ _ (j' + 1), List.map_append]; exact upd_same
    · have hjk : j = k.toNat := by
        have := of_decide_eq_false hc
        rw [List.length_map, orb_len] at this; omega
      subst hjk
      refine s_ret (ev_var rfl) fun H4 e4 => ?_
      exact q o H4 no ((e.trans e3).trans e4) (e4 o _ (e3 o _ ho'))
def spTrace : Sp := fun vs H Q _ => ∃ (p k a : Int) (lo : List Int), vs = [.int p, .int k, .int a] ∧ isField p k = true ∧ FieldP p k lo ∧ (0 ≤ a ∧ a < sizeI p k.toNat) ∧ (∀ j, 0 ≤ itp (pwp p k lo) j a ∧ itp (pwp p k lo) j a < sizeI p k.toNat) ∧ RetV (.int (ptot p k.toNat (pwp p k lo) a k.toNat)) H Q
theorem ok_trace {C : Addr} (D : Df K mg "trace" s_trace ["prime", "degree", "one"]) (T : Tx K C) (c_need_members : Cd P w K mg base 4 "need_members" (spNeedMembers K)) (c_Field : Md P w K mg base 6 "Field" C (spInit K C)) (c_repeated_powers : Cd P w K mg base 4 "repeated_powers" (spRep K C)) (d_added : Td P w K mg base 2 C "added" (spFAdd K C 1)) : Cd P w K mg base 8 "trace" spTrace := by
  refine D.ok sc_trace (fun vs H Q E h => ?_) (fun f cdv A outer s H vs Q E hr h => ?_)
  · obtain ⟨p, k, a, lo, rfl, _⟩ := h; rfl
  · obtain ⟨p, k, a, lo, rfl, hf, hP, ha, hj, q⟩ := h
    have hB := isField_b hf
    refine ⟨_, (pss_cons (ps_expr (pe_cd c_need_members hr (by decide) (by rfl) (pa_cons (pv 0) (pa_cons (pv 1) (pa_cons (pe_tup (pa_cons (pv 2) pa_nil)) pa_nil)))))
      (pss_cons (ps_set (i := 3) sc_trace.nd rfl (Or.inl rfl) (pe_mak c_Field hr (by decide) (by rfl) (pa_cons (pv 0) (pa_cons (pv 1) pa_nil))))
      (pss_cons (ps_set (i := 4) sc_trace.nd rfl (Or.inl rfl) pe_int)
      (pss_cons (ps_for PassesOwn.never rfl (pi_listK (K := K) rfl (pe_cd c_repeated_powers hr (by decide) (by rfl) (pa_cons (pv 3) (pa_cons (pv 2) pa_nil)))) (pg_name (i := 5) sc_trace.nd rfl (Or.inl rfl)) (pss_one (ps_set (i := 4) sc_trace.nd rfl (Or.inl rfl) (pe_met d_added hr (by decide) (pv 3) (pa_cons (pv 4) (pa_cons (pv 5) pa_nil))))))
      (pss_one (ps_ret (pv 4))))))), ?_⟩
    refine q_drop (need1 (ev_var rfl) (ev_var rfl) (ev_var rfl) hf ha) fun H1 e1 => ?_
    refine q_asgF (ef_make (ev_var rfl) (ev_var rfl) hf hP) fun x H2 nx e2 hF => ?_
    refine q_asg ev_c fun H3 e3 => ?_
    have hin : ∀ j, 0 ≤ ptot p k.toNat (pwp p k lo) a j ∧ ptot p k.toNat (pwp p k lo) a j < sizeI p k.toNat := by
      intro j
      induction j with
      | zero => have := sizeI_pos (p := p) (by omega) k.toNat; exact ⟨Int.le_refl _, this⟩
      | succ j ih => exact wm_lt (by omega) _ _ _ ih.1 (hj j).1
    refine q_forNLn (xs := (orb (pwp p k lo) a k.toNat).map V.int) (el_call (vs := [.ref x, .int a]) (ea_cons (ev_var rfl) (ea_cons (ev_var rfl) ea_nil)) fun H4 e4 Q q E => ⟨x, p, k, a, lo, rfl, hF.mono (e3.trans e4), hf, hP.len, q⟩)
      (fun r i σ' H' => ∃ y, σ' = [some (.int p), some (.int k), some (.int a), some (.ref x), some (.int (ptot p k.toNat (pwp p k lo) a i)), y] ∧ Ex H H' ∧ FieldAt K C H' x p k lo ∧ H' r = some (.lst ((orb (pwp p k lo) a k.toNat).map V.int))) ?_ ?_ ?_ ?_
    · intro r H4 nr e4 hr4
      exact ⟨none, rfl, ((e1.trans e2).trans e3).trans e4, hF.mono (e3.trans e4), hr4⟩
    · rintro r i σ' H' _ ⟨y, rfl, _, _, h⟩; exact sq_of h
    · rintro r i z σ' H' hi ⟨y, rfl, e, hF', hr'⟩
      obtain ⟨n, hn, rfl⟩ := ints_get hi
      have hik : i < k.toNat := by
        have := (List.getElem?_eq_some_iff.mp hn).1
        rw [orb_len] at this; exact this
      rw [orb_get hik] at hn
      obtain rfl := Option.some.inj hn
      refine s_asg (ev_fmeth nf_added (ev_var rfl) hF' (vs := [.int (ptot p k.toNat (pwp p k lo) a i), .int (itp (pwp p k lo) i a)]) (ea_cons (ev_var rfl) (ea_cons (ev_var rfl) ea_nil)) fun H5 e5 hF5 Q q E => ⟨x, p, k, _, _, lo, rfl, hF5, hf, hin i, hj i, q⟩) fun H5 e5 => ?_
      exact ⟨_, rfl, e.trans e5, hF'.mono e5, e5 r _ hr'⟩
    · rintro r σ' H' ⟨y, rfl, e, _, _⟩
      rw [List.length_map, orb_len]
      exact s_ret (ev_var rfl) fun H4 e4 => q H4 (e.trans e4)
def spNorm : Sp := fun vs H Q _ => ∃ (p k a : Int) (lo : List Int), vs = [.int p, .int k, .int a] ∧ isField p k = true ∧ FieldP p k lo ∧ (0 ≤ a ∧ a < sizeI p k.toNat) ∧ RetV (.int (pmny p lo (pwp p k lo) a k.toNat)) H Q
theorem prodcall {C : Addr} {σ : L2.St} {H : Hp} {s : Addr} {p k a b : Int} {lo : List Int} {E : XK} {ta tb tc : TE} (hF : FieldAt K C H s p k lo) (hf : isField p k = true) (hlo : lo.length = k.toNat) (h1 : Ev ta σ H (.ref s)) (h2 : Ev tb σ H (.int a)) (h3 : Ev tc σ H (.int b)) :
    Ev (tMeth C "product" (spFProd K C) [] E ta (tCons tb (tCons tc tNil))) σ H (.int (Pm p lo a b)) :=
  ev_fmeth nf_product h1 hF (vs := [.int a, .int b]) (ea_cons h2 (ea_cons h3 ea_nil)) fun H1 e hF1 Q q E => ⟨s, p, k, a, b, lo, rfl, hF1, hf, hlo, by rw [← hlo]; exact q⟩
theorem ok_norm {C : Addr} (D : Df K mg "norm" s_norm ["prime", "degree", "one"]) (T : Tx K C) (c_need_members : Cd P w K mg base 4 "need_members" (spNeedMembers K)) (c_Field : Md P w K mg base 6 "Field" C (spInit K C)) (c_repeated_powers : Cd P w K mg base 4 "repeated_powers" (spRep K C)) (d_product : Td P w K mg base 2 C "product" (spFProd K C)) : Cd P w K mg base 8 "norm" spNorm := by
  refine D.ok sc_norm (fun vs H Q E h => ?_) (fun f cdv A outer s H vs Q E hr h => ?_)
  · obtain ⟨p, k, a, lo, rfl, _⟩ := h; rfl
  · obtain ⟨p, k, a, lo, rfl, hf, hP, ha, q⟩ := h
    have hB := isField_b hf
    refine ⟨_, (pss_cons (ps_expr (pe_cd c_need_members hr (by decide) (by rfl) (pa_cons (pv 0) (pa_cons (pv 1) (pa_cons (pe_tup (pa_cons (pv 2) pa_nil)) pa_nil)))))
      (pss_cons (ps_set (i := 3) sc_norm.nd rfl (Or.inl rfl) (pe_mak c_Field hr (by decide) (by rfl) (pa_cons (pv 0) (pa_cons (pv 1) pa_nil))))
      (pss_cons (ps_set (i := 4) sc_norm.nd rfl (Or.inl rfl) pe_int)
      (pss_cons (ps_for PassesOwn.never rfl (pi_listK (K := K) rfl (pe_cd c_repeated_powers hr (by decide) (by rfl) (pa_cons (pv 3) (pa_cons (pv 2) pa_nil)))) (pg_name (i := 5) sc_norm.nd rfl (Or.inl rfl)) (pss_one (ps_set (i := 4) sc_norm.nd rfl (Or.inl rfl) (pe_met d_product hr (by decide) (pv 3) (pa_cons (pv 4) (pa_cons (pv 5) pa_nil))))))
      (pss_one (ps_ret (pv 4))))))), ?_⟩
    refine q_drop (need1 (ev_var rfl) (ev_var rfl) (ev_var rfl) hf ha) fun H1 e1 => ?_
    refine q_asgF (ef_make (ev_var rfl) (ev_var rfl) hf hP) fun x H2 nx e2 hF => ?_
    refine q_asg ev_c fun H3 e3 => ?_
    refine q_forNLn (xs := (orb (pwp p k lo) a k.toNat).map V.int) (el_call (vs := [.ref x, .int a]) (ea_cons (ev_var rfl) (ea_cons (ev_var rfl) ea_nil)) fun H4 e4 Q q E => ⟨x, p, k, a, lo, rfl, hF.mono (e3.trans e4), hf, hP.len, q⟩)
      (fun r i σ' H' => ∃ y, σ' = [some (.int p), some (.int k), some (.int a), some (.ref x), some (.int (pmny p lo (pwp p k lo) a i)), y] ∧ Ex H H' ∧ FieldAt K C H' x p k lo ∧ H' r = some (.lst ((orb (pwp p k lo) a k.toNat).map V.int))) ?_ ?_ ?_ ?_
    · intro r H4 nr e4 hr4
      exact ⟨none, rfl, ((e1.trans e2).trans e3).trans e4, hF.mono (e3.trans e4), hr4⟩
    · rintro r i σ' H' _ ⟨y, rfl, _, _, h⟩; exact sq_of h
    · rintro r i z σ' H' hi ⟨y, rfl, e, hF', hr'⟩
      obtain ⟨n, hn, rfl⟩ := ints_get hi
      have hik : i < k.toNat := by
        have := (List.getElem?_eq_some_iff.mp hn).1
        rw [orb_len] at this; exact this
      rw [orb_get hik] at hn
      obtain rfl := Option.some.inj hn
      refine s_asg (prodcall hF' hf hP.len (ev_var rfl) (ev_var rfl) (ev_var rfl)) fun H5 e5 => ?_
      exact ⟨_, rfl, e.trans e5, hF'.mono e5, e5 r _ hr'⟩
    · rintro r σ' H' ⟨y, rfl, e, _, _⟩
      rw [List.length_map, orb_len]
      exact s_ret (ev_var rfl) fun H4 e4 => q H4 (e.trans e4)

def spNZ (Ce : Addr) : Sp := fun vs H Q E => ∃ a : Int, vs = [.int a] ∧ (a ≠ 0 → RetV .non H Q) ∧ (a = 0 → ∀ H1, Ex H H1 → E (.ref Ce) none H1)
theorem ok_need_not_zero {Ci : Addr} (D : Df K mg "need_not_zero" s_need_not_zero ["one"]) (E_InvalidQuestion : ErrC K mg "InvalidQuestion" Ci) : Ce P w K mg base 1 "need_not_zero" (spNZ Ci) := by
  refine D.okX sc_need_not_zero (fun vs H Q E h => ?_) (fun f cdv A outer s H vs Q E hr h => ?_)
  · obtain ⟨a, rfl, _⟩ := h; rfl
  · obtain ⟨a, rfl, h1, h2⟩ := h
    refine ⟨_, (pss_one (ps_if (pt_cmpR op_eq (pv 0) pe_int (nomark _)) (pss_one (ps_raiseC rfl (takes_of rfl rfl rfl rfl) E_InvalidQuestion (by rfl))) pss_nil)), ?_⟩
    refine s_when (et_test (ev_op (ev_var rfl) ev_c (rv_eq rfl))) (fun hb H1 e1 => ?_) (fun hb H1 e1 => ?_)
    · exact h2 (V.int.inj (of_decide_eq_true hb)) H1 e1
    · exact h1 (fun z => of_decide_eq_false hb (congrArg V.int z)) H1 e1
theorem ev_methF {C : Addr} {σ : L2.St} {H : Hp} {te : TE} {t : TA} {p k : Int} {lo : List Int} {m : Str} {sp : Sp} {E : XK} {vs : List V} {z : V} (hm : NoF m) (h : EvF K C te σ H p k lo) (ha : ∀ H1, Ex H H1 → EvA t σ H1 vs) (hs : ∀ s H1, Ex H H1 → FieldAt K C H1 s p k lo → ∀ Q : VK, RetV z H1 Q → ∀ E : XK, sp (.ref s :: (vs ++ [])) H1 Q E) :
    Ev (tMeth C m sp [] E te t) σ H z := fun H1 e Q q => h H1 e _ fun s H2 nx e2 hF => by
  obtain ⟨dx, ca, hs1, hca⟩ := hF.ob
  exact ⟨s, dx, _, rfl, hs1, fldF_no p k ca hm.c hm.s hm.d hm.p, ha H2 (e.trans e2) H2 (Ex.refl H2) _ fun H3 e3 => hs s H3 ((e.trans e2).trans e3) (hF.mono e3) Q (fun H4 e4 => q H4 ((e2.trans e3).trans e4)) E⟩
def spFInv (K : PySem.W.Frag) (C : Addr) : Sp := fun vs H Q _ => ∃ (s : Addr) (p k a : Int) (lo : List Int), vs = [.ref s, .int a] ∧ FieldAt K C H s p k lo ∧ isField p k = true ∧ lo.length = k.toNat ∧ RetV (.int (fpow p k lo a (-1))) H Q
theorem ok_Field_inverse {C : Addr} (D : Dm K C "inverse" "Field.inverse" s_Field_inverse ["self", "one"]) (T : Tx K C) (d_power : Td P w K mg base 3 C "power" (spFPow K C)) : Td P w K mg base 4 C "inverse" (spFInv K C) := by
  refine D.ok sc_Field_inverse (fun vs H Q E h => ?_) (fun f cdv A outer s0 H vs Q E hr h => ?_)
  · obtain ⟨s, p, k, a, lo, rfl, _⟩ := h; rfl
  · obtain ⟨s, p, k, a, lo, rfl, hF, hf, hlo, q⟩ := h
    refine ⟨_, (pss_one (ps_ret (pe_met d_power hr (by decide) (pv 0) (pa_cons (pv 1) (pa_cons (pe_un un_neg pe_int) pa_nil))))), ?_⟩
    exact s_ret (powcall hF hf hlo (ev_var rfl) (ev_var rfl) (ev_un ev_c ru_neg)) fun H1 e1 => q H1 e1
def spInvs (Ci : Addr) : Sp := fun vs H Q E => ∃ (p k a : Int) (lo : List Int), vs = [.int p, .int k, .int a] ∧ isField p k = true ∧ FieldP p k lo ∧ (0 ≤ a ∧ a < sizeI p k.toNat) ∧ (a ≠ 0 → RetV (.int (fpow p k lo a (-1))) H Q) ∧ (a = 0 → ∀ H1, Ex H H1 → E (.ref Ci) none H1)
def spPower (Ci : Addr) : Sp := fun vs H Q E => ∃ (p k a t : Int) (lo : List Int), vs = [.int p, .int k, .int a, .int t] ∧ isField p k = true ∧ FieldP p k lo ∧ (0 ≤ a ∧ a < sizeI p k.toNat) ∧ (¬(t < 0 ∧ a = 0) → RetV (.int (fpow p k lo a t)) H Q) ∧ ((t < 0 ∧ a = 0) → ∀ H1, Ex H H1 → E (.ref Ci) none H1)
theorem ok_power {C Ci : Addr} (D : Df K mg "power" s_power ["prime", "degree", "one", "times"]) (c_need_members : Cd P w K mg base 4 "need_members" (spNeedMembers K)) (c_need_not_zero : Ce P w K mg base 1 "need_not_zero" (spNZ Ci)) (c_Field : Md P w K mg base 6 "Field" C (spInit K C)) (d_power : Td P w K mg base 3 C "power" (spFPow K C)) : Ce P w K mg base 8 "power" (spPower Ci) := by
  refine D.okX sc_power (fun vs H Q E h => ?_) (fun f cdv A outer s H vs Q E hr h => ?_)
  · obtain ⟨p, k, a, t, lo, rfl, _⟩ := h; rfl
  · obtain ⟨p, k, a, t, lo, rfl, hf, hP, ha, q, qx⟩ := h
    refine ⟨_, (pss_cons (ps_expr (pe_cd c_need_members hr (by decide) (by rfl) (pa_cons (pv 0) (pa_cons (pv 1) (pa_cons (pe_tup (pa_cons (pv 2) pa_nil)) pa_nil)))))
      (pss_cons (ps_if (pt_cmpR op_lt (pv 3) pe_int (nomark _)) (pss_one (ps_expr (pe_ce c_need_not_zero hr (by decide) (by rfl) (takes_of rfl rfl rfl rfl) (pa_cons (pv 2) pa_nil)))) pss_nil)
      (pss_one (ps_ret (pe_met d_power hr (by decide) (pe_mak c_Field hr (by decide) (by rfl) (pa_cons (pv 0) (pa_cons (pv 1) pa_nil))) (pa_cons (pv 2) (pa_cons (pv 3) pa_nil))))))), ?_⟩
    refine q_drop (need1 (ev_var rfl) (ev_var rfl) (ev_var rfl) hf ha) fun H1 e1 => ?_
    have fin : ∀ H2, Ex H1 H2 → ¬(t < 0 ∧ a = 0) → tRet (tMeth C "power" (spFPow K C) [] L2.E0 (tMake C (spInit K C) [] L2.E0 (tCons (tVar 0) (tCons (tVar 1) tNil))) (tCons (tVar 2) (tCons (tVar 3) tNil))) { nx := fun _ H' => Q .non H', rt := Q } [some (.int p), some (.int k), some (.int a), some (.int t)] H2 := fun H2 e2 h0 =>
      s_ret (ev_methF nf_power (ef_make (ev_var rfl) (ev_var rfl) hf hP) (fun H3 e3 => ea_cons (ev_var rfl) (ea_cons (ev_var rfl) ea_nil)) fun s H3 e3 hF Q q E => ⟨s, p, k, a, t, lo, rfl, hF, hf, hP.len, q⟩) fun H3 e3 => q h0 H3 ((e1.trans e2).trans e3)
    refine q_when (et_test (ev_op (ev_var rfl) ev_c rv_I0)) (fun hb H2 e2 => ?_) (fun hb H2 e2 => ?_)
    · have ht : t < 0 := of_decide_eq_true hb
      by_cases h0 : a = 0
      · exact s_dropX (ex_callS (vs := [.int a]) (ea_cons (ev_var rfl) ea_nil) fun H3 e3 Q => ⟨a, rfl, fun z => absurd h0 z, fun _ H4 e4 => qx ⟨ht, h0⟩ H4 (((e1.trans e2).trans e3).trans e4)⟩)
      · refine s_drop (ev_callS (vs := [.int a]) (ea_cons (ev_var rfl) ea_nil) fun H3 e3 Q q => ⟨a, rfl, fun _ => q, fun z => absurd z h0⟩) fun H3 e3 => ?_
        exact fin H3 (e2.trans e3) fun z => h0 z.2
    · have ht : ¬ t < 0 := of_decide_eq_false hb
      exact fin H2 e2 fun z => ht z.1
def spDiv (Ci : Addr) : Sp := fun vs H Q E => ∃ (p k a b : Int) (lo : List Int), vs = [.int p, .int k, .int a, .int b] ∧ isField p k = true ∧ FieldP p k lo ∧ (0 ≤ a ∧ a < sizeI p k.toNat) ∧ (0 ≤ b ∧ b < sizeI p k.toNat) ∧ (b ≠ 0 → RetV (.int (Pm p lo a (fpow p k lo b (-1)))) H Q) ∧ (b = 0 → ∀ H1, Ex H H1 → E (.ref Ci) none H1)
def spTxl (K : PySem.W.Frag) (C : Addr) : Sp := fun vs H Q _ => ∃ (s ca : Addr) (p k r : Int) (lo cs : List Int), vs = [.ref s, .ref ca, .int r] ∧ FieldAt K C H s p k lo ∧ isField p k = true ∧ lo.length = k.toNat ∧ Low p lo ∧ SqL K H ca (cs.map V.int) ∧ cs.length ≤ 1000 ∧ (∀ x ∈ cs, 0 ≤ x ∧ x < sizeI p k.toNat) ∧ RetL ((txl (Pm p lo) (wm p (-1) k.toNat) cs r).map V.int) H Q
theorem lesscall {C : Addr} {σ : L2.St} {H : Hp} {s : Addr} {p k a b : Int} {lo : List Int} {E : XK} {ta tb tc : TE} (hF : FieldAt K C H s p k lo) (hf : isField p k = true) (ha : 0 ≤ a ∧ a < sizeI p k.toNat) (hb : 0 ≤ b ∧ b < sizeI p k.toNat) (h1 : Ev ta σ H (.ref s)) (h2 : Ev tb σ H (.int a)) (h3 : Ev tc σ H (.int b)) :
    Ev (tMeth C "less" (spFAdd K C (-1)) [] E ta (tCons tb (tCons tc tNil))) σ H (.int (wm p (-1) k.toNat a b)) :=
  ev_fmeth nf_less h1 hF (vs := [.int a, .int b]) (ea_cons h2 (ea_cons h3 ea_nil)) fun H1 e hF1 Q q E => ⟨s, p, k, a, b, lo, rfl, hF1, hf, ha, hb, q⟩
theorem txl_in {p k : Int} {lo : List Int} (L : Low p lo) (hlo : lo.length = k.toNat) (hp : 2 ≤ p) {cs : List Int} {r : Int} (h : ∀ x ∈ cs, 0 ≤ x ∧ x < sizeI p k.toNat) : ∀ x ∈ txl (Pm p lo) (wm p (-1) k.toNat) cs r, 0 ≤ x ∧ x < sizeI p k.toNat := by
  have h0 : (0 : Int) ≤ 0 ∧ (0 : Int) < sizeI p k.toNat := ⟨Int.le_refl _, sizeI_pos (by omega) _⟩
  refine txlS_in (P := fun x => 0 ≤ x ∧ x < sizeI p k.toNat) h0 (fun x _ => ?_) (fun x y hx hy => wm_lt hp _ _ _ hx.1 hy.1) cs 0 _ h fun x hx => ?_
  · have := Pm_in L x r
    unfold InF at this
    rw [hlo] at this; exact this
  · rcases List.mem_cons.mp hx with e | e
    · rw [e]; exact h0
    · exact h x e
theorem ok_times_x_less {C : Addr} (D : Df K mg "times_x_less" s_times_x_less ["field", "coefficients", "root"]) (B : Bt mg) (T : Tx K C) (d_product : Td P w K mg base 2 C "product" (spFProd K C)) (d_less : Td P w K mg base 2 C "less" (spFAdd K C (-1))) : Cd P w K mg base 3 "times_x_less" (spTxl K C) := by
  refine D.ok sc_times_x_less (fun vs H Q E h => ?_) (fun f cdv A outer s0 H vs Q E hr h => ?_)
  · obtain ⟨s, ca, p, k, r, lo, cs, rfl, _⟩ := h; rfl
  · obtain ⟨s, ca, p, k, r, lo, cs, rfl, hF, hf, hlo, L, hC, hc1, hcm, q⟩ := h
    have hB := isField_b hf
    have hs0 := sizeI_pos (p := p) (by omega) k.toNat
    refine ⟨_, (pss_cons (ps_set (i := 3) sc_times_x_less.nd rfl (Or.inl rfl) (pe_lst (pa_cons pe_int (StX.pa_star (pv 1) pa_nil))))
      (pss_cons (ps_for PassesOwn.never rfl (pi_enum (by rfl) B.enumerate (pa_cons (pv 1) pa_nil)) (pg_tupK (K := K) (n := 2) rfl rfl (pgs_cons (pg_name (i := 4) sc_times_x_less.nd rfl (Or.inl rfl)) (pgs_cons (pg_name (i := 5) sc_times_x_less.nd rfl (Or.inl rfl)) pgs_nil))) (pss_one (ps_asg (pe_met d_less hr (by decide) (pv 0) (pa_cons (pe_ix (ix_listK (K := K) rfl) (pv 3) (pv 4) (fun _ _ => rfl)) (pa_cons (pe_met d_product hr (by decide) (pv 0) (pa_cons (pv 5) (pa_cons (pv 2) pa_nil))) pa_nil))) (pg_sub (pv 3) (pv 4) set_list))))
      (pss_one (ps_ret (pv 3))))), ?_⟩
    refine q_asgL (el_is (el_lst (ea_cons ev_c (ea_star (ev_var rfl) (.inr hC) ea_nil)) (by rw [List.append_nil, List.length_cons, List.length_map]; omega)) (ys := (0 :: cs).map V.int) (by rw [List.append_nil]; rfl)) fun o H1 no e1 ho => ?_
    refine q_forW (gets_enum (ev_var rfl) (ex_l e1 hC)) (walk_enum (xs := cs.map V.int)) (fun i σ2 H2 => ∃ (y1 y2 : Option V), σ2 = [some (.ref s), some (.ref ca), some (.int r), some (.ref o), y1, y2] ∧ Ex H H2 ∧ H2 o = some (.lst ((txlS (Pm p lo) (wm p (-1) k.toNat) r 0 (cs.take i) (0 :: cs)).map V.int))) ?_ ?_ ?_ ?_
    · intro H2 e2; exact ⟨none, none, rfl, e1.trans e2, e2 o _ ho⟩
    · rintro i σ2 H2 _ ⟨y1, y2, rfl, e6, _⟩; exact ex_l e6 hC
    · rintro i x σ2 H6 H7 hi' ⟨y1, y2, rfl, e6, h6⟩ ⟨T', a1, a2, rfl, nT, rfl, f1, f2⟩
      obtain rfl : V.int (i : Nat) = a1 := Option.some.inj f1
      obtain ⟨n, hn', rfl⟩ := ints_get f2
      have hil : i < cs.length := by rw [List.length_map] at hi'; exact hi'
      refine g_pair (st_of upd_same) ?_
      have eT : Ex H6 (upd H6 T' (.tup [.int (i : Nat), .int n])) := Ex.new nT
      have h7 := eT o _ h6
      have e7 := e6.trans eT
      have hlen : (txlS (Pm p lo) (wm p (-1) k.toNat) r 0 (cs.take i) (0 :: cs)).length = cs.length + 1 := txlS_len _ _ _ _ _ _
      have hmem : ∀ x ∈ txlS (Pm p lo) (wm p (-1) k.toNat) r 0 (cs.take i) (0 :: cs), 0 ≤ x ∧ x < sizeI p k.toNat := by
        refine txlS_in (P := fun x => 0 ≤ x ∧ x < sizeI p k.toNat) ⟨Int.le_refl _, hs0⟩ (fun x _ => ?_) (fun x y hx hy => wm_lt (by omega) _ _ _ hx.1 hy.1) (cs.take i) 0 _ (fun x hx => hcm x (List.take_subset _ _ hx)) fun x hx => ?_
        · have := Pm_in L x r
          unfold InF at this
          rw [hlo] at this; exact this
        · rcases List.mem_cons.mp hx with e | e
          · rw [e]; exact ⟨Int.le_refl _, hs0⟩
          · exact hcm x e
      have hget := getD_at (ns := txlS (Pm p lo) (wm p (-1) k.toNat) r 0 (cs.take i) (0 :: cs)) (i := i) (by omega)
      have hgm := hmem _ (List.mem_of_getElem? hget)
      have hPr : 0 ≤ Pm p lo n r ∧ Pm p lo n r < sizeI p k.toNat := by
        have := Pm_in L n r
        unfold InF at this
        rw [hlo] at this; exact this
      have hF7 := hF.mono e7
      refine s_setL (j := i) h7 (lesscall hF7 hf hgm hPr (ev_var rfl) (ev_op (ev_var rfl) (ev_var rfl) (rv_ixLn (sq_of h7) (ints_at hget))) (prodcall hF7 hf hlo (ev_var rfl) (ev_var rfl) (ev_var rfl))) (ev_var rfl) (ev_var rfl) (by rw [List.length_map, hlen]; omega) fun H8 e8 => ?_
      refine ⟨_, _, rfl, (e7.trans e8).mut no, ?_⟩
      rw [upd_same, ← List.take_append_getElem hil, txlS_snoc, List.map_set, List.length_take, Nat.min_eq_left (by omega), Nat.zero_add]
      have : cs[i] = n := Option.some.inj ((List.getElem?_eq_getElem hil).symm.trans hn')
      rw [this]
    · rintro σ2 H6 ⟨y1, y2, rfl, e6, h6⟩
      rw [List.length_map, List.take_length] at h6
      refine s_ret (ev_var rfl) fun H7 e7 => ?_
      exact q o H7 no (e6.trans e7) (e7 o _ h6)
def spLPol : Sp := fun vs H Q _ => ∃ (p k a : Int) (lo : List Int) (m : Nat), vs = [.int p, .int k, .int a] ∧ isField p k = true ∧ FieldP p k lo ∧ Low p lo ∧ (0 ≤ a ∧ a < sizeI p k.toNat) ∧ Mi.Ret (pwp p k lo) a m ∧ m ≤ 100 ∧ RetU ((lpol (Pm p lo) (wm p (-1) k.toNat) (orb (pwp p k lo) a m)).dropLast.map V.int) H Q
theorem ok_least_polynomial {C : Addr} (D : Df K mg "least_polynomial" s_least_polynomial ["prime", "degree", "one"]) (B : Bt mg) (T : Tx K C) (c_need_members : Cd P w K mg base 4 "need_members" (spNeedMembers K)) (c_Field : Md P w K mg base 6 "Field" C (spInit K C)) (c_conjugates_in : Cd P w K mg base 4 "conjugates_in" (spConjIn K C)) (c_times_x_less : Cd P w K mg base 3 "times_x_less" (spTxl K C)) : Cd P w K mg base 8 "least_polynomial" spLPol := by
  refine D.ok sc_least_polynomial (fun vs H Q E h => ?_) (fun f cdv A outer s H vs Q E hr h => ?_)
  · obtain ⟨p, k, a, lo, m, rfl, _⟩ := h; rfl
  · obtain ⟨p, k, a, lo, m, rfl, hf, hP, L, ha, hR, hm, q⟩ := h
    have hB := isField_b hf
    have hs2 := size_two hf
    refine ⟨_, (pss_cons (ps_expr (pe_cd c_need_members hr (by decide) (by rfl) (pa_cons (pv 0) (pa_cons (pv 1) (pa_cons (pe_tup (pa_cons (pv 2) pa_nil)) pa_nil)))))
      (pss_cons (ps_set (i := 3) sc_least_polynomial.nd rfl (Or.inl rfl) (pe_mak c_Field hr (by decide) (by rfl) (pa_cons (pv 0) (pa_cons (pv 1) pa_nil))))
      (pss_cons (ps_set (i := 4) sc_least_polynomial.nd rfl (Or.inl rfl) (pe_lst (pa_cons pe_int pa_nil)))
      (pss_cons (ps_for PassesOwn.never rfl (pi_listK (K := K) rfl (pe_cd c_conjugates_in hr (by decide) (by rfl) (pa_cons (pv 3) (pa_cons (pv 2) pa_nil)))) (pg_name (i := 5) sc_least_polynomial.nd rfl (Or.inl rfl)) (pss_one (ps_set (i := 4) sc_least_polynomial.nd rfl (Or.inl rfl) (pe_cd c_times_x_less hr (by decide) (by rfl) (pa_cons (pv 3) (pa_cons (pv 4) (pa_cons (pv 5) pa_nil)))))))
      (pss_one (ps_ret (pe_callTy (call_tupleK (K := K) rfl) (by rfl) B.tuple boot_tuple (pa_cons (pe_slice (sl_listK (K := K) rfl) (pv 4) po_none (po_some (pe_un un_neg pe_int))) pa_nil)))))))), ?_⟩
    refine q_drop (need1 (ev_var rfl) (ev_var rfl) (ev_var rfl) hf ha) fun H1 e1 => ?_
    refine q_asgF (ef_make (ev_var rfl) (ev_var rfl) hf hP) fun x H2 nx e2 hF => ?_
    refine q_asgL (el_lst (ea_cons ev_c ea_nil) (by show 1 ≤ 100000; decide)) fun c0 H3 nc e3 hc0 => ?_
    have hlen : ∀ i, (lpol (Pm p lo) (wm p (-1) k.toNat) (orb (pwp p k lo) a i)).length = i + 1 := by
      intro i
      induction i with
      | zero => rfl
      | succ i ih => rw [orb_succ, lpol_snoc, txl_len, ih]
    have hmem : ∀ i, ∀ y ∈ lpol (Pm p lo) (wm p (-1) k.toNat) (orb (pwp p k lo) a i), 0 ≤ y ∧ y < sizeI p k.toNat := by
      intro i
      induction i with
      | zero => intro y hy; rw [List.mem_singleton.mp hy]; omega
      | succ i ih => rw [orb_succ, lpol_snoc]; exact txl_in L hP.len (by omega) ih
    refine q_forNLn (xs := (orb (pwp p k lo) a m).map V.int) (el_call (vs := [.ref x, .int a]) (ea_cons (ev_var rfl) (ea_cons (ev_var rfl) ea_nil)) fun H4 e4 Q q E => ⟨x, p, k, a, lo, m, rfl, hF.mono (e3.trans e4), hf, hP.len, hR, hm, q⟩)
      (fun r i σ' H' => i ≤ m → ∃ (c : Addr) (y : Option V), σ' = [some (.int p), some (.int k), some (.int a), some (.ref x), some (.ref c), y] ∧ Ex H H' ∧ FieldAt K C H' x p k lo ∧ H' r = some (.lst ((orb (pwp p k lo) a m).map V.int)) ∧ H' c = some (.lst ((lpol (Pm p lo) (wm p (-1) k.toNat) (orb (pwp p k lo) a i)).map V.int))) ?_ ?_ ?_ ?_
    · intro r H4 nr e4 hr4 _
      exact ⟨c0, none, rfl, ((e1.trans e2).trans e3).trans e4, hF.mono (e3.trans e4), hr4, e4 c0 _ hc0⟩
    · intro r i σ' H' hi h
      rw [List.length_map, orb_len] at hi
      obtain ⟨c, y, rfl, _, _, h, _⟩ := h hi
      exact sq_of h
    · intro r i z σ' H' hi h
      obtain ⟨n, hn, rfl⟩ := ints_get hi
      have him : i < m := by
        have := (List.getElem?_eq_some_iff.mp hn).1
        rw [orb_len] at this; exact this
      rw [orb_get him] at hn
      obtain rfl := Option.some.inj hn
      obtain ⟨c, y, rfl, e, hF', hr', hc⟩ := h (by omega)
      refine s_asgL (el_call (vs := [.ref x, .ref c, .int (itp (pwp p k lo) i a)]) (ea_cons (ev_var rfl) (ea_cons (ev_var rfl) (ea_cons (ev_var rfl) ea_nil))) fun H5 e5 Q q E => ⟨x, c, p, k, _, lo, _, rfl, hF'.mono e5, hf, hP.len, L, sq_of (e5 c _ hc), by rw [hlen]; omega, hmem i, q⟩) fun c2 H5 nc2 e5 hc2 => ?_
      intro _
      refine ⟨c2, _, rfl, e.trans e5, hF'.mono e5, e5 r _ hr', ?_⟩
      rw [orb_succ, lpol_snoc]; exact hc2
    · intro r σ' H' h
      rw [List.length_map, orb_len] at h
      obtain ⟨c, y, rfl, e, _, _, hc⟩ := h (Nat.le_refl _)
      refine s_retU (eu_tupleN (el_is (el_slice (ev_var rfl) (sq_of hc) evo_none (evo_some (ev_un ev_c ru_neg))) (ys := (lpol (Pm p lo) (wm p (-1) k.toNat) (orb (pwp p k lo) a m)).dropLast.map V.int) (by rw [cut_neg1, List.map_dropLast]))) fun t H5 nt e5 ht => ?_
      exact q t H5 (fresh_back e nt) (e.trans e5) ht

def spNZ0 : Sp := fun vs H Q _ => ∃ a : Int, vs = [.int a] ∧ a ≠ 0 ∧ RetV .non H Q
def spNO : Sp := fun vs H Q _ => ∃ p k : Int, vs = [.int p, .int k] ∧ (-1000001 ≤ p ∧ p ≤ 1000001) ∧ (-1000 ≤ k ∧ k ≤ 1000) ∧ sizeI p k.toNat ≤ 1000000 ∧ RetV .non H Q
structure CtO (mg : Str → Option Value) : Prop where
  GREATEST_WITH_ORDERS : ∃ t, mg "GREATEST_WITH_ORDERS" = some (.int 1000000 t)
theorem ok_need_orders (D : Df K mg "need_orders" s_need_orders ["prime", "degree"]) (CO : CtO mg) (c_size_of : Cd P w K mg base 1 "size_of" spSize) : Cd P w K mg base 2 "need_orders" spNO := by
  refine D.ok sc_need_orders (fun vs H Q E h => ?_) (fun f cdv A outer s H vs Q E hr h => ?_)
  · obtain ⟨p, k, rfl, _⟩ := h; rfl
  · obtain ⟨p, k, rfl, hp, hk, hs, q⟩ := h
    refine ⟨_, (pss_one (ps_if (pt_cmpR op_gt (pe_cd c_size_of hr (by decide) (by rfl) (pa_cons (pv 0) (pa_cons (pv 1) pa_nil))) (pe_gi (by rfl) CO.GREATEST_WITH_ORDERS) (nomark _)) (pss_one ps_never) pss_nil)), ?_⟩
    refine s_when (et_test (ev_op (ev_call (vs := [.int p, .int k]) (ea_cons (ev_var rfl) (ea_cons (ev_var rfl) ea_nil)) fun H1 e Q q E => ⟨p, k, rfl, hp, hk, q⟩) ev_c rv_I0)) (fun hb H1 e1 => ?_) (fun hb H1 e1 => ?_)
    · have := of_decide_eq_true hb; omega
    · exact q H1 e1
def spPdv : Sp := fun vs H Q _ => ∃ (n : Int) (ds : List Int), vs = [.int n] ∧ pdv 2000 [] 2 n = some ds ∧ RetL (ds.map V.int) H Q
theorem ok_prime_divisors (D : Df K mg "prime_divisors" s_prime_divisors ["number"]) (B : Bt mg) : Cd P w K mg base 1 "prime_divisors" spPdv := by
  refine D.ok sc_prime_divisors (fun vs H Q E h => ?_) (fun f cdv A outer s H vs Q E hr h => ?_)
  · obtain ⟨n, ds, rfl, _⟩ := h; rfl
  · obtain ⟨n, ds, rfl, hds, q⟩ := h
    refine ⟨_, (pss_cons (ps_set (i := 1) sc_prime_divisors.nd rfl (Or.inl rfl) (pe_lst pa_nil))
      (pss_cons (ps_set (i := 2) sc_prime_divisors.nd rfl (Or.inl rfl) pe_int)
      (pss_cons (ps_while PassesOwn.never (pt_cmpR op_le (pe_op op_mul (pv 2) (pv 2)) (pv 0) (nomark _)) (Evl.pss_cut (ps_if (pt_cmpR op_eq (pe_op op_mod (pv 0) (pv 2)) pe_int (nomark _)) (pss_one (ps_expr (pe_bm PySem.F.plainAttrs_list PySem.F.slot_list_append PySem.F.type_list_append mt_append (pv 1) (pa_cons (pv 2) pa_nil)))) pss_nil)
          (pss_cons (ps_while PassesOwn.never (pt_cmpR op_eq (pe_op op_mod (pv 0) (pv 2)) pe_int (nomark _)) (pss_one (ps_set (i := 0) sc_prime_divisors.nd rfl (Or.inl rfl) (pe_op op_fdiv (pv 0) (pv 2)))))
          (pss_one (ps_aug (i := 2) sc_prime_divisors.nd rfl (Or.inl rfl) pe_int ip_add)))))
      (pss_cons (ps_if (pt_cmpR op_gt (pv 0) pe_int (nomark _)) (pss_one (ps_expr (pe_bm PySem.F.plainAttrs_list PySem.F.slot_list_append PySem.F.type_list_append mt_append (pv 1) (pa_cons (pv 0) pa_nil)))) pss_nil)
      (pss_one (ps_ret (pv 1))))))), ?_⟩
    refine q_asgL (el_lst ea_nil (by decide)) fun o H1 no e1 ho => ?_
    refine q_asg ev_c fun H2 e2 => ?_
    refine q_while (fun m σ' H' => ∃ (fs : List Int) (d x : Int), σ' = [some (.int x), some (.ref o), some (.int d)] ∧ Ex H H' ∧ H' o = some (.lst (fs.map V.int)) ∧ pdv m fs d x = some ds ∧ d + (m : Int) = 2002 ∧ 2 ≤ d ∧ fs.length + m ≤ 2000) 2000
      ⟨[], 2, n, rfl, e1.trans e2, e2 o _ ho, hds, by omega, by omega, by show 0 + 2000 ≤ 2000; omega⟩ ?_
    rintro m σ' H' ⟨fs, d, x, rfl, e, hfs, hpd, hdm, hd2, hfl⟩
    obtain ⟨m', rfl⟩ : ∃ m', m = m' + 1 := by
      cases m with
      | zero => cases hpd
      | succ m => exact ⟨m, rfl⟩
    rw [pdv] at hpd
    refine ⟨_, et_test (ev_op (ev_op (ev_var rfl) (ev_var rfl) (rv_I (.inl ⟨by omega, by omega⟩))) (ev_var rfl) rv_I0), fun hc H3 e3 => ?_, fun hc H3 e3 => ?_⟩
    · rw [if_pos (of_decide_eq_true hc)] at hpd
      obtain ⟨x', hx', hpd⟩ := Option.bind_eq_some_iff.mp hpd
      refine ⟨fun σ2 H2 => ∃ m2, m2 < m' + 1 ∧ ∃ (fs : List Int) (d x : Int), σ2 = [some (.int x), some (.ref o), some (.int d)] ∧ Ex H H2 ∧ H2 o = some (.lst (fs.map V.int)) ∧ pdv m2 fs d x = some ds ∧ d + (m2 : Int) = 2002 ∧ 2 ≤ d ∧ fs.length + m2 ≤ 2000, fun _ _ h => h, ?_⟩
      refine q_cut (M := fun σ' H' => σ' = [some (.int x), some (.ref o), some (.int d)] ∧ Ex H H' ∧ H' o = some (.lst ((if x % d = 0 then fs ++ [d] else fs).map V.int))) ?_ ?_
      · refine s_when (et_test (ev_op (ev_op (ev_var rfl) (ev_var rfl) (rv_I (by omega))) ev_c (rv_eq rfl))) (fun hb H4 e4 => ?_) (fun hb H4 e4 => ?_)
        · rw [if_pos (V.int.inj (of_decide_eq_true hb))]
          refine s_app (e4 o _ (e3 o _ hfs)) (ev_var rfl) (ev_var rfl) (by rw [List.length_map]; omega) fun H5 e5 => ?_
          exact ⟨rfl, (((e.trans e3).trans e4).trans e5).mut no, by rw [List.map_append]; exact upd_same⟩
        · rw [if_neg (fun z => of_decide_eq_false hb (congrArg V.int z))]
          exact ⟨rfl, (e.trans e3).trans e4, e4 o _ (e3 o _ hfs)⟩
      · rintro σ' H4 ⟨rfl, e4, hfs4⟩
        have hfl2 : (if x % d = 0 then fs ++ [d] else fs).length ≤ fs.length + 1 := by
          split
          · rw [List.length_append]; exact Nat.le_refl _
          · omega
        generalize (if x % d = 0 then fs ++ [d] else fs) = fs2 at *
        refine q_while (fun m2 σ' H' => ∃ (y : Int), σ' = [some (.int y), some (.ref o), some (.int d)] ∧ Ex H H' ∧ H' o = some (.lst (fs2.map V.int)) ∧ Mi.strip d m2 y = some x') 64 ⟨x, rfl, e4, hfs4, hx'⟩ ?_
        rintro m2 σ' H5 ⟨y, rfl, e5, hfs5, hy⟩
        obtain ⟨m3, rfl⟩ : ∃ m', m2 = m' + 1 := by
          cases m2 with
          | zero => cases hy
          | succ m => exact ⟨m, rfl⟩
        rw [Mi.strip] at hy
        refine ⟨_, et_test (ev_op (ev_op (ev_var rfl) (ev_var rfl) (rv_I (by omega))) ev_c (rv_eq rfl)), fun hb H6 e6 => ?_, fun hb H6 e6 => ?_⟩
        · rw [if_pos (V.int.inj (of_decide_eq_true hb))] at hy
          refine ⟨fun σ2 H2 => ∃ m4, m4 < m3 + 1 ∧ ∃ (y : Int), σ2 = [some (.int y), some (.ref o), some (.int d)] ∧ Ex H H2 ∧ H2 o = some (.lst (fs2.map V.int)) ∧ Mi.strip d m4 y = some x', fun _ _ h => h, ?_⟩
          refine s_asg (ev_op (ev_var rfl) (ev_var rfl) (rv_I ⟨by omega, by omega⟩)) fun H7 e7 => ?_
          exact ⟨m3, by omega, y / d, rfl, (e5.trans e6).trans e7, e7 o _ (e6 o _ hfs5), hy⟩
        · rw [if_neg (fun z => of_decide_eq_false hb (congrArg V.int z))] at hy
          obtain rfl := Option.some.inj hy
          refine s_aug rfl ev_c fun H7 e7 => ?_
          exact ⟨m', by omega, fs2, d + 1, y, rfl, (e5.trans e6).trans e7, e7 o _ (e6 o _ hfs5), hpd, by omega, by omega, by omega⟩
    · rw [if_neg (of_decide_eq_false hc)] at hpd
      have hpd2 := Option.some.inj hpd
      refine q_when (et_test (ev_op (ev_var rfl) ev_c rv_I0)) (fun hb H4 e4 => ?_) (fun hb H4 e4 => ?_)
      · rw [if_pos (of_decide_eq_true hb)] at hpd2
        refine s_app (e4 o _ (e3 o _ hfs)) (ev_var rfl) (ev_var rfl) (by rw [List.length_map]; omega) fun H5 e5 => ?_
        refine s_ret (ev_var rfl) fun H6 e6 => ?_
        refine q o H6 no (((((e.trans e3).trans e4).trans e5).mut no).trans e6) ?_
        rw [← hpd2, List.map_append]; exact e6 o _ upd_same
      · rw [if_neg (of_decide_eq_false hb)] at hpd2
        refine s_ret (ev_var rfl) fun H6 e6 => ?_
        refine q o H6 no (((e.trans e3).trans e4).trans e6) ?_
        rw [← hpd2]; exact e6 o _ (e4 o _ (e3 o _ hfs))
def spOrder : Sp := fun vs H Q _ => ∃ (p k a : Int) (lo ds : List Int) (o : Int), vs = [.int p, .int k, .int a] ∧ isField p k = true ∧ FieldP p k lo ∧ (0 ≤ a ∧ a < sizeI p k.toNat) ∧ a ≠ 0 ∧ sizeI p k.toNat ≤ 1000000 ∧ pdv 2000 [] 2 (sizeI p k.toNat - 1) = some ds ∧ (∀ d ∈ ds, 2 ≤ d ∧ d < 1000000000) ∧ ordL (fpow p k lo) a ds (sizeI p k.toNat - 1) = some o ∧ RetV (.int o) H Q
def spHas (K : PySem.W.Frag) (C : Addr) : Sp := fun vs H Q _ => ∃ (s na : Addr) (p k z : Int) (lo ts : List Int), vs = [.ref s, .int z, .ref na] ∧ FieldAt K C H s p k lo ∧ isField p k = true ∧ lo.length = k.toNat ∧ SqL K H na (ts.map V.int) ∧ RetV (.bl (hasOne (fpow p k lo) z ts)) H Q
theorem ok_has_power_one {C : Addr} (D : Df K mg "has_power_one" s_has_power_one ["field", "one", "numbers"]) (T : Tx K C) (d_power : Td P w K mg base 3 C "power" (spFPow K C)) : Cd P w K mg base 4 "has_power_one" (spHas K C) := by
  refine D.ok sc_has_power_one (fun vs H Q E h => ?_) (fun f cdv A outer s0 H vs Q E hr h => ?_)
  · obtain ⟨s, na, p, k, z, lo, ts, rfl, _⟩ := h; rfl
  · obtain ⟨s, na, p, k, z, lo, ts, rfl, hF, hf, hlo, hN, q⟩ := h
    refine ⟨_, (pss_cons (ps_for PassesOwn.never rfl (pi_listK (K := K) rfl (pv 2)) (pg_name (i := 3) sc_has_power_one.nd rfl (Or.inl rfl)) (pss_one (ps_if (pt_cmpR op_eq (pe_met d_power hr (by decide) (pv 0) (pa_cons (pv 1) (pa_cons (pv 3) pa_nil))) pe_int (nomark _)) (pss_one (ps_ret pe_bl)) pss_nil)))
      (pss_one (ps_ret pe_bl))), ?_⟩
    refine q_forLn (ev_var rfl) hN (fun i σ' H' => ∃ (y : Option V), σ' = [some (.ref s), some (.int z), some (.ref na), y] ∧ Ex H H' ∧ hasOne (fpow p k lo) z (ts.take i) = false) ?_ ?_ ?_ ?_
    · intro H1 e1; exact ⟨none, rfl, e1, rfl⟩
    · rintro i σ' H' _ ⟨y, rfl, e, _⟩; exact ex_l e hN
    · rintro i x σ' H' hi ⟨y, rfl, e, hn⟩
      obtain ⟨t, ht, rfl⟩ := ints_get hi
      have htk := take_at ht
      refine s_when (et_test (ev_op (powcall (hF.mono e) hf hlo (ev_var rfl) (ev_var rfl) (ev_var rfl)) ev_c (rv_eq rfl))) (fun hb H1 e1 => ?_) (fun hb H1 e1 => ?_)
      · have h1 : hasOne (fpow p k lo) z ts = true := List.any_eq_true.mpr ⟨t, List.mem_of_getElem? ht, decide_eq_true (V.int.inj (of_decide_eq_true hb))⟩
        rw [h1] at q
        exact s_ret ev_c fun H2 e2 => q H2 ((e.trans e1).trans e2)
      · refine ⟨_, rfl, e.trans e1, ?_⟩
        unfold hasOne at hn ⊢
        rw [htk, List.any_append, hn]
        show (decide (fpow p k lo z t = 1) || false) = false
        rw [decide_eq_false (fun h => of_decide_eq_false hb (congrArg V.int h))]; rfl
    · rintro σ' H' ⟨y, rfl, e, hn⟩
      rw [List.length_map, List.take_length] at hn
      rw [hn] at q
      exact s_ret ev_c fun H2 e2 => q H2 (e.trans e2)
def spGen : Sp := fun vs H Q _ => ∃ (p k z : Int) (lo ds : List Int), vs = [.int p, .int k] ∧ isField p k = true ∧ FieldP p k lo ∧ sizeI p k.toNat ≤ 1000000 ∧ pdv 2000 [] 2 (sizeI p k.toNat - 1) = some ds ∧ (∀ d ∈ ds, 2 ≤ d ∧ d < 1000000000) ∧ ds.length ≤ 40000 ∧ genF (fpow p k lo) (ds.map fun d => (sizeI p k.toNat - 1) / d) 200 1 = some z ∧ RetV (.int z) H Q
theorem el_mapNI {σ : L2.St} {H : Hp} {te tl : TE} {j : Nat} {vs : List Nat} {ns : List Int} (f : Int → Int) (h : EvL tl σ H (ns.map V.int)) (hz : ns.length ≤ 40000) (hw : ∀ x, wipe ((wipe σ vs).set j (some x)) vs = wipe σ vs)
    (he : ∀ (n : Int) H1, n ∈ ns → Ex H H1 → Ev te ((wipe σ vs).set j (some (.int n))) H1 (.int (f n))) : EvL (tLc (iList K tl) (gName j) tYes te vs) σ H ((ns.map f).map V.int) := by
  rw [← given_map]
  have hl : ns.length = (ns.map V.int).length := (List.length_map _).symm
  rw [hl]
  refine el_lcNL _ _ h (by rw [List.length_map]; exact hz) hw (fun i x H1 e hi => et_yes) fun i x H1 e hi _ => ?_
  obtain ⟨n, hn, rfl⟩ := ints_get hi
  rw [getD_of hn]
  exact he n H1 (List.mem_of_getElem? hn) e
theorem ok_generator {C : Addr} (D : Df K mg "generator" s_generator ["prime", "degree"]) (T : Tx K C) (c_need_field : Cd P w K mg base 3 "need_field" spNeedField) (c_need_orders : Cd P w K mg base 2 "need_orders" spNO) (c_Field : Md P w K mg base 6 "Field" C (spInit K C)) (c_prime_divisors : Cd P w K mg base 1 "prime_divisors" spPdv) (c_has_power_one : Cd P w K mg base 4 "has_power_one" (spHas K C)) : Cd P w K mg base 8 "generator" spGen := by
  refine D.ok sc_generator (fun vs H Q E h => ?_) (fun f cdv A outer s H vs Q E hr h => ?_)
  · obtain ⟨p, k, z, lo, ds, rfl, _⟩ := h; rfl
  · obtain ⟨p, k, z, lo, ds, rfl, hf, hP, hsz, hds, hdm, hdl, hz, q⟩ := h
    have hB := isField_b hf
    refine ⟨_, (pss_cons (ps_expr (pe_cd c_need_field hr (by decide) (by rfl) (pa_cons (pv 0) (pa_cons (pv 1) pa_nil))))
      (pss_cons (ps_expr (pe_cd c_need_orders hr (by decide) (by rfl) (pa_cons (pv 0) (pa_cons (pv 1) pa_nil))))
      (pss_cons (ps_set (i := 2) sc_generator.nd rfl (Or.inl rfl) (pe_mak c_Field hr (by decide) (by rfl) (pa_cons (pv 0) (pa_cons (pv 1) pa_nil))))
      (pss_cons (ps_set (i := 3) sc_generator.nd rfl (Or.inr rfl) (pe_op op_sub (pe_fld (pv 2) rfl) pe_int))
      (pss_cons (ps_setLc (i := 4) (own := [("divisor", 6)]) rfl sc_generator.nd rfl rfl (sw_true rfl rfl rfl (by decide +kernel)) (pi_listK (K := K) rfl (pe_cd c_prime_divisors hr (by decide) (by rfl) (pa_cons (pv 3) pa_nil))) (blkOk_by (own := [("divisor", 6)]) (N := ["prime", "degree", "field", "all_times", "shorter", "one", "divisor"]) (sc := defScope s_generator) (by decide +kernel)) (fun _ _ _ _ _ => (pg_name (i := 6) sc_generator.nd rfl (Or.inl rfl))) (fun _ _ _ _ _ => pts_nil) (fun _ _ _ _ _ => (pe_op op_fdiv (pv 3) (pv 6))))
      (pss_cons (ps_set (i := 5) sc_generator.nd rfl (Or.inl rfl) pe_int)
      (pss_cons (ps_while PassesOwn.never (pt_val (pe_cd c_has_power_one hr (by decide) (by rfl) (pa_cons (pv 2) (pa_cons (pv 5) (pa_cons (pv 4) pa_nil))))) (pss_one (ps_aug (i := 5) sc_generator.nd rfl (Or.inl rfl) pe_int ip_add)))
      (pss_one (ps_ret (pv 5)))))))))), ?_⟩
    refine q_drop (ev_call (vs := [.int p, .int k]) (ea_cons (ev_var rfl) (ea_cons (ev_var rfl) ea_nil)) fun H1 e Q q E => ⟨p, k, rfl, hf, q⟩) fun H1 e1 => ?_
    refine q_drop (ev_call (vs := [.int p, .int k]) (ea_cons (ev_var rfl) (ea_cons (ev_var rfl) ea_nil)) fun H2 e2 Q q E => ⟨p, k, rfl, by omega, by omega, hsz, q⟩) fun H2 e2 => ?_
    refine q_asgF (ef_make (ev_var rfl) (ev_var rfl) hf hP) fun x H3 nx e3 hF => ?_
    refine q_asg (ev_op (ev_fsize (ev_var rfl) hF T) ev_c rv_I0) fun H4 e4 => ?_
    refine q_asgL (el_mapNI (ns := ds) (fun d => (sizeI p k.toNat - 1) / d) (el_call (vs := [.int (sizeI p k.toNat - 1)]) (ea_cons (ev_var rfl) ea_nil) fun H6 e6 Q q E => ⟨_, ds, rfl, hds, q⟩) hdl (fun x => rfl) fun d H5 hd e5 => ?_) fun sh H5 nsh e5 hsh => ?_
    · have := hdm d hd
      exact ev_op (ev_var rfl) (ev_var rfl) (rv_I ⟨by omega, by omega⟩)
    · refine q_asg ev_c fun H6 e6 => ?_
      have e16 := ((((e1.trans e2).trans e3).trans e4).trans e5).trans e6
      refine q_while (fun m σ' H' => ∃ y : Int, σ' = [some (.int p), some (.int k), some (.ref x), some (.int (sizeI p k.toNat - 1)), some (.ref sh), some (.int y), none] ∧ Ex H H' ∧ FieldAt K C H' x p k lo ∧ H' sh = some (.lst ((ds.map fun d => (sizeI p k.toNat - 1) / d).map V.int)) ∧ genF (fpow p k lo) (ds.map fun d => (sizeI p k.toNat - 1) / d) m y = some z) 200
        ⟨1, rfl, e16, hF.mono ((e4.trans e5).trans e6), e6 sh _ hsh, hz⟩ ?_
      rintro m σ' H7 ⟨y, rfl, e7, hF7, hsh7, hy⟩
      obtain ⟨m', rfl⟩ : ∃ m', m = m' + 1 := by
        cases m with
        | zero => cases hy
        | succ m => exact ⟨m, rfl⟩
      rw [genF] at hy
      refine ⟨_, et_B (ev_call (vs := [.ref x, .int y, .ref sh]) (ea_cons (ev_var rfl) (ea_cons (ev_var rfl) (ea_cons (ev_var rfl) ea_nil))) fun H8 e8 Q q E => ⟨x, sh, p, k, y, lo, _, rfl, hF7.mono e8, hf, hP.len, sq_of (e8 sh _ hsh7), q⟩), fun hc H8 e8 => ?_, fun hc H8 e8 => ?_⟩
      · rw [if_pos hc] at hy
        refine ⟨fun σ2 H2 => ∃ m2, m2 < m' + 1 ∧ ∃ y : Int, σ2 = [some (.int p), some (.int k), some (.ref x), some (.int (sizeI p k.toNat - 1)), some (.ref sh), some (.int y), none] ∧ Ex H H2 ∧ FieldAt K C H2 x p k lo ∧ H2 sh = some (.lst ((ds.map fun d => (sizeI p k.toNat - 1) / d).map V.int)) ∧ genF (fpow p k lo) (ds.map fun d => (sizeI p k.toNat - 1) / d) m2 y = some z, fun _ _ h => h, ?_⟩
        refine s_aug rfl ev_c fun H9 e9 => ?_
        exact ⟨m', by omega, y + 1, rfl, (e7.trans e8).trans e9, hF7.mono (e8.trans e9), e9 sh _ (e8 sh _ hsh7), hy⟩
      · rw [if_neg (by rw [hc]; decide)] at hy
        obtain rfl := Option.some.inj hy
        exact s_ret (ev_var rfl) fun H9 e9 => q H9 ((e7.trans e8).trans e9)

end
end My
namespace My
open PySem PySem.Spec PyProof.Rows L2 Evl Mi
abbrev s_law : Stmt := top 49
theorem sc_law : FnScope ["script", "numbers", "p", "k", "size", "a", "b", "both", "many", "first", "second", "told", "row", "other", "one", "times"] ["script"] (defScope s_law) := ⟨rfl, rfl, rfl, by decide +kernel, rfl, by decide +kernel, by decide +kernel⟩
section
variable {P : Program} {w : World} {K : PySem.W.Frag} {mg : Str → Option Value} {base : Heap}
theorem rows_of (q : Nat × Int) (h : q ∈ fieldRows) : ∃ r ∈ rows16, q = (r.p, (r.k : Int)) := by
  have e : fieldRows = rows16.map fun r => (r.p, (r.k : Int)) := rfl
  rw [e] at h
  obtain ⟨r, h1, h2⟩ := List.mem_map.mp h
  exact ⟨r, h1, h2.symm⟩
theorem hu64 {A : Around} {k : Nat} (hr : Room k A) : A.units + 64 < cLine := Nat.lt_of_le_of_lt (by omega) hr.un

def spLaw (K : PySem.W.Frag) : Sp := fun vs H Q _ => ∃ (a : Addr) (ns : List Int), vs = [.ref a] ∧ SqL K H a (ns.map V.int) ∧ ns.length ≤ 63 ∧ ∀ H', Q (.bl true) H'
set_option maxHeartbeats 16000000 in
theorem ok_law {Ci f : Addr} {fd : FuncData} (F : Fun K "law" "law" s_law f fd) (B : Bt mg) (c__law_numbers : Cd P w K mg base 2 "_law_numbers" (spNumbers K)) (c__law_field : Cd P w K mg base 1 "_law_field" (spField K)) (c__law_size : Cd P w K mg base 1 "_law_size" spSize)
    (c__law_element : Cd P w K mg base 1 "_law_element" (spElem K)) (c_added : Cd P w K mg base 5 "added" (spAdd 1)) (c_product : Cd P w K mg base 8 "product" (spProd K)) (c_power : Ce P w K mg base 8 "power" (spPower Ci)) (c_trace : Cd P w K mg base 8 "trace" spTrace) (c_norm : Cd P w K mg base 8 "norm" spNorm)
    (c_least_polynomial : Cd P w K mg base 8 "least_polynomial" spLPol) (c_conjugates : Cd P w K mg base 8 "conjugates" spConj) (c_generator : Cd P w K mg base 8 "generator" spGen) : FnOk P w K mg base L2.CX0 9 f fd ["script"] (spLaw K) := by
  refine F.ok sc_law (fun vs H Q E h => ?_) (fun cdv A outer s H vs Q E hr h => ?_)
  · obtain ⟨a, ns, rfl, _⟩ := h; rfl
  · obtain ⟨sa, ns, rfl, hS, hl, q⟩ := h
    refine ⟨_, (pss_cons (ps_set (i := 1) sc_law.nd rfl (Or.inl rfl) (pe_cd c__law_numbers hr (by decide) (by rfl) (pa_cons (pv 0) (pa_cons pe_int pa_nil))))
      (pss_cons (ps_asg (pe_cd c__law_field hr (by decide) (by rfl) (pa_cons (pv 1) (pa_cons pe_int pa_nil))) (pg_tupK (K := K) (n := 2) rfl rfl (pgs_cons (pg_name (i := 2) sc_law.nd rfl (Or.inl rfl)) (pgs_cons (pg_name (i := 3) sc_law.nd rfl (Or.inl rfl)) pgs_nil))))
      (pss_cons (ps_set (i := 4) sc_law.nd rfl (Or.inl rfl) (pe_cd c__law_size hr (by decide) (by rfl) (pa_cons (pv 2) (pa_cons (pv 3) pa_nil))))
      (pss_cons (ps_set (i := 5) sc_law.nd rfl (Or.inl rfl) (pe_cd c__law_element hr (by decide) (by rfl) (pa_cons (pv 1) (pa_cons pe_int (pa_cons (pv 4) pa_nil)))))
      (pss_cons (ps_set (i := 6) sc_law.nd rfl (Or.inl rfl) (pe_cd c__law_element hr (by decide) (by rfl) (pa_cons (pv 1) (pa_cons pe_int (pa_cons (pv 4) pa_nil)))))
      (pss_cons (ps_set (i := 7) sc_law.nd rfl (Or.inl rfl) (pe_cd c_added hr (by decide) (by rfl) (pa_cons (pv 2) (pa_cons (pv 3) (pa_cons (pv 5) (pa_cons (pv 6) pa_nil))))))
      (pss_cons (ps_set (i := 8) sc_law.nd rfl (Or.inl rfl) (pe_cd c_product hr (by decide) (by rfl) (pa_cons (pv 2) (pa_cons (pv 3) (pa_cons (pv 5) (pa_cons (pv 6) pa_nil))))))
      (pss_cons (ps_par (i := 9) (j := 10) rfl sc_law.nd rfl rfl (by decide) rfl rfl (pa_cons (pe_ce0 c_power hr (by decide) (by rfl) (pa_cons (pv 2) (pa_cons (pv 3) (pa_cons (pv 5) (pa_cons (pv 2) pa_nil))))) (pa_cons (pe_ce0 c_power hr (by decide) (by rfl) (pa_cons (pv 2) (pa_cons (pv 3) (pa_cons (pv 6) (pa_cons (pv 2) pa_nil))))) pa_nil)) rfl)
      (pss_cons (ps_if (pw_or (pt_cmpR op_ne (pe_ce0 c_power hr (by decide) (by rfl) (pa_cons (pv 2) (pa_cons (pv 3) (pa_cons (pv 7) (pa_cons (pv 2) pa_nil))))) (pe_cd c_added hr (by decide) (by rfl) (pa_cons (pv 2) (pa_cons (pv 3) (pa_cons (pv 9) (pa_cons (pv 10) pa_nil))))) (nomark _)) (pw_or1 (pt_cmpR op_ne (pe_ce0 c_power hr (by decide) (by rfl) (pa_cons (pv 2) (pa_cons (pv 3) (pa_cons (pv 8) (pa_cons (pv 2) pa_nil))))) (pe_cd c_product hr (by decide) (by rfl) (pa_cons (pv 2) (pa_cons (pv 3) (pa_cons (pv 9) (pa_cons (pv 10) pa_nil))))) (nomark _)))).pt (pss_one (ps_ret pe_bl)) pss_nil)
      (pss_cons (ps_if (pw_or (pt_cmpR op_ne (pe_cd c_trace hr (by decide) (by rfl) (pa_cons (pv 2) (pa_cons (pv 3) (pa_cons (pv 7) pa_nil)))) (pe_op op_mod (pe_callTy call_int1 (by rfl) B.int boot_int (pa_cons (pe_op op_add (pe_cd c_trace hr (by decide) (by rfl) (pa_cons (pv 2) (pa_cons (pv 3) (pa_cons (pv 5) pa_nil)))) (pe_cd c_trace hr (by decide) (by rfl) (pa_cons (pv 2) (pa_cons (pv 3) (pa_cons (pv 6) pa_nil))))) pa_nil)) (pv 2)) (nomark _)) (pw_or1 (pt_cmpR op_ne (pe_cd c_norm hr (by decide) (by rfl) (pa_cons (pv 2) (pa_cons (pv 3) (pa_cons (pv 8) pa_nil)))) (pe_op op_mod (pe_callTy call_int1 (by rfl) B.int boot_int (pa_cons (pe_op op_mul (pe_cd c_norm hr (by decide) (by rfl) (pa_cons (pv 2) (pa_cons (pv 3) (pa_cons (pv 5) pa_nil)))) (pe_cd c_norm hr (by decide) (by rfl) (pa_cons (pv 2) (pa_cons (pv 3) (pa_cons (pv 6) pa_nil))))) pa_nil)) (pv 2)) (nomark _)))).pt (pss_one (ps_ret pe_bl)) pss_nil)
      (pss_cons (ps_set (i := 11) sc_law.nd rfl (Or.inl rfl) (pe_tup (pa_cons (pe_cd c_trace hr (by decide) (by rfl) (pa_cons (pv 2) (pa_cons (pv 3) (pa_cons (pv 5) pa_nil)))) (pa_cons (pe_cd c_norm hr (by decide) (by rfl) (pa_cons (pv 2) (pa_cons (pv 3) (pa_cons (pv 5) pa_nil)))) (pa_cons (pe_cd c_least_polynomial hr (by decide) (by rfl) (pa_cons (pv 2) (pa_cons (pv 3) (pa_cons (pv 5) pa_nil)))) pa_nil)))))
      (pss_cons (ps_set (i := 12) sc_law.nd rfl (Or.inl rfl) (pe_cd c_conjugates hr (by decide) (by rfl) (pa_cons (pv 2) (pa_cons (pv 3) (pa_cons (pv 5) pa_nil)))))
      (pss_cons (ps_for PassesOwn.never rfl (pi_listK (K := K) rfl (pv 12)) (pg_name (i := 13) sc_law.nd rfl (Or.inl rfl)) (pss_one (ps_if (pt_cmpR (op_neDK (K := K) rfl (hu64 hr)) (pe_tup (pa_cons (pe_cd c_trace hr (by decide) (by rfl) (pa_cons (pv 2) (pa_cons (pv 3) (pa_cons (pv 13) pa_nil)))) (pa_cons (pe_cd c_norm hr (by decide) (by rfl) (pa_cons (pv 2) (pa_cons (pv 3) (pa_cons (pv 13) pa_nil)))) (pa_cons (pe_cd c_least_polynomial hr (by decide) (by rfl) (pa_cons (pv 2) (pa_cons (pv 3) (pa_cons (pv 13) pa_nil)))) pa_nil)))) (pv 11) (nomark _)) (pss_one (ps_ret pe_bl)) pss_nil)))
      (pss_cons (ps_if (pw_and (pt_cmpR op_eq (pe_callB (call_lenK (K := K) rfl) (by rfl) B.len PySem.boot_len (pa_cons (pv 12) pa_nil)) (pv 3) (nomark _)) (pw_and1 (pt_cmpR op_ne (pe_op op_mod (pe_callTy call_int1 (by rfl) B.int boot_int (pa_cons (pe_op op_sub (pe_ix (ix_tupK (K := K) rfl) (pe_ix (ix_tupK (K := K) rfl) (pv 11) pe_int (fun _ _ => rfl)) pe_int (fun _ _ => rfl)) (pe_op op_mul (pe_ix (ix_listK (K := K) rfl) (pe_lst (pa_cons pe_int (pa_cons (pe_un un_neg pe_int) pa_nil))) (pe_op op_mod (pv 3) pe_int) (fun _ _ => rfl)) (pe_ix (ix_tupK (K := K) rfl) (pv 11) pe_int (fun _ _ => rfl)))) pa_nil)) (pv 2)) pe_int (nomark _)))).pt (pss_one (ps_ret pe_bl)) pss_nil)
      (pss_cons (ps_set (i := 14) sc_law.nd rfl (Or.inl rfl) (pe_cd c_generator hr (by decide) (by rfl) (pa_cons (pv 2) (pa_cons (pv 3) pa_nil))))
      (pss_cons (ps_set (i := 15) sc_law.nd rfl (Or.inl rfl) (pe_op op_mod (pe_callTy call_int1 (by rfl) B.int boot_int (pa_cons (pe_ix (ix_listK (K := K) rfl) (pv 1) pe_int (fun _ _ => rfl)) pa_nil)) (pv 4)))
      (pss_one (ps_ret (pe_cmpR op_eq (pe_cmpR op_eq (pe_ce0 c_power hr (by decide) (by rfl) (pa_cons (pv 2) (pa_cons (pv 3) (pa_cons (pv 14) (pa_cons (pv 15) pa_nil))))) pe_int (nomark _)) (pe_cmpR op_eq (pe_op op_mod (pe_callTy call_int1 (by rfl) B.int boot_int (pa_cons (pv 15) pa_nil)) (pe_op op_sub (pv 4) pe_int)) pe_int (nomark _)) (nomark _)))))))))))))))))))), ?_⟩
    refine q_asgS (evs_call (vs := [.ref sa, .int 30]) (ea_cons (ev_var rfl) (ea_cons ev_c ea_nil)) fun H1 e Q q E => ⟨sa, ns, 30, rfl, ex_l e hS, by decide, q⟩) fun nu H1 ms nnu e1 hnu hml hms => ?_
    refine ⟨.ref nu, rfl, nu, ms, 0, rfl, sq_of hnu, by omega, fun t H2 q2 hq2 e2 ht => g_pair (st_of ht) ?_⟩
    obtain ⟨R, hR, rfl⟩ := rows_of q2 hq2
    have F := rows_ok R hR
    have L := F.low
    have hf := F.fd
    have hFP := F.fp
    have hll : R.lo.length = R.k := R.lol
    have hB := isField_b hf
    have hsz := field_size hf
    have hkt : ((R.k : Int)).toNat = R.k := Int.toNat_natCast _
    have hs0 : 0 < sizeI (R.p : Int) R.k := sizeI_pos (by omega) _
    have hpw : ∀ x, InF (R.p : Int) R.lo x → pwp (R.p : Int) (R.k : Int) R.lo x = ep (R.p : Int) R.lo x R.p := fun x hx => F.fpow_nat hx R.p
    have hpt : ∀ x, InF (R.p : Int) R.lo x → ep (R.p : Int) R.lo x R.p = R.tp x R.p := fun x hx => (F.tp_ok hx _).symm
    have hC := ck20_ok hR
    have hl0 := F.tb.len
    dsimp only
    rw [hkt] at hsz
    have inB : ∀ {x : Int}, InF (R.p : Int) R.lo x → 0 ≤ x ∧ x < sizeI (R.p : Int) ((R.k : Int)).toNat := fun {x} hx => by rw [hkt, ← hll]; exact hx
    have epin : ∀ x n, InF (R.p : Int) R.lo (ep (R.p : Int) R.lo x n) := fun x n => ep_in L x n
    have win : ∀ a b, InF (R.p : Int) R.lo a → InF (R.p : Int) R.lo b → InF (R.p : Int) R.lo (wm (R.p : Int) 1 R.k a b) := fun a b ha hb => by
      have := wm_lt (f := 1) L.p2 R.k a b ha.1 hb.1
      unfold InF; rw [hll]; exact this
    have hnu2 := e2 nu _ hnu
    -- what the program's functions say of elements
    have cadd : ∀ {σ : L2.St} {Hx : Hp} {t1 t2 t3 t4 : TE} {x y : Int}, InF (R.p : Int) R.lo x → InF (R.p : Int) R.lo y → Ev t1 σ Hx (.int (R.p : Int)) → Ev t2 σ Hx (.int (R.k : Int)) → Ev t3 σ Hx (.int x) → Ev t4 σ Hx (.int y) → Ev (tCall (spAdd 1) [] L2.E0 (tCons t1 (tCons t2 (tCons t3 (tCons t4 tNil))))) σ Hx (.int (wm (R.p : Int) 1 R.k x y)) := fun {σ Hx t1 t2 t3 t4 x y} hx hy a b c d =>
      ev_call (vs := [.int (R.p : Int), .int (R.k : Int), .int x, .int y]) (ea_cons a (ea_cons b (ea_cons c (ea_cons d ea_nil)))) fun H1 e Q q E => ⟨_, _, _, _, rfl, hf, inB hx, inB hy, by rw [hkt]; exact q⟩
    have cprd : ∀ {σ : L2.St} {Hx : Hp} {t1 t2 t3 t4 : TE} {x y : Int}, InF (R.p : Int) R.lo x → InF (R.p : Int) R.lo y → Ev t1 σ Hx (.int (R.p : Int)) → Ev t2 σ Hx (.int (R.k : Int)) → Ev t3 σ Hx (.int x) → Ev t4 σ Hx (.int y) → Ev (tCall (spProd K) [] L2.E0 (tCons t1 (tCons t2 (tCons t3 (tCons t4 tNil))))) σ Hx (.int (Pm (R.p : Int) R.lo x y)) := fun {σ Hx t1 t2 t3 t4 x y} hx hy a b c d =>
      ev_call (vs := [.int (R.p : Int), .int (R.k : Int), .int x, .int y]) (ea_cons a (ea_cons b (ea_cons c (ea_cons d ea_nil)))) fun H1 e Q q E => ⟨_, _, _, _, R.lo, rfl, hf, hFP, inB hx, inB hy, by rw [hkt]; unfold Pm at q; rw [hll] at q; exact q⟩
    have cpow : ∀ {σ : L2.St} {Hx : Hp} {t1 t2 t3 t4 : TE} {x : Int} {n : Nat}, InF (R.p : Int) R.lo x → Ev t1 σ Hx (.int (R.p : Int)) → Ev t2 σ Hx (.int (R.k : Int)) → Ev t3 σ Hx (.int x) → Ev t4 σ Hx (.int (n : Int)) → Ev (tCall (spPower Ci) [] L2.E0 (tCons t1 (tCons t2 (tCons t3 (tCons t4 tNil))))) σ Hx (.int (ep (R.p : Int) R.lo x n)) := fun {σ Hx t1 t2 t3 t4 x n} hx a b c d =>
      ev_call (vs := [.int (R.p : Int), .int (R.k : Int), .int x, .int (n : Int)]) (ea_cons a (ea_cons b (ea_cons c (ea_cons d ea_nil)))) fun H1 e Q q E => ⟨_, _, _, _, R.lo, rfl, hf, hFP, inB hx, fun _ => by rw [F.fpow_nat hx]; exact q, fun z => absurd z.1 (by omega)⟩
    have itin : ∀ x, InF (R.p : Int) R.lo x → ∀ j, itp (pwp (R.p : Int) (R.k : Int) R.lo) j x = itp (fun x => R.tp x R.p) j x ∧ InF (R.p : Int) R.lo (itp (pwp (R.p : Int) (R.k : Int) R.lo) j x) := fun x hx j => itp_tab F hpw hx j
    have hk1 : R.k - 1 + 1 = R.k := by have := F.k1; omega
    have htr : ∀ x, InF (R.p : Int) R.lo x → ptot (R.p : Int) R.k (pwp (R.p : Int) (R.k : Int) R.lo) x R.k = R.TT x := fun x hx => by
      have hT := (ptot_ok F hpw hx (R.k - 1)).1
      rw [hk1, ltot_tab F hpw hx] at hT; exact hT
    have hno : ∀ x, InF (R.p : Int) R.lo x → pmny (R.p : Int) R.lo (pwp (R.p : Int) (R.k : Int) R.lo) x R.k = R.NN x ∧ InF (R.p : Int) R.lo (R.NN x) := fun x hx => by
      have hM := pmny_ok L (f := pwp (R.p : Int) (R.k : Int) R.lo) hx (R.k - 1)
      have hMt := lmny_tab F hpw (m := Pm (R.p : Int) R.lo) (fun _ _ => rfl) hx (R.k - 1)
      rw [hk1, hMt.1] at hM
      exact ⟨hM, by unfold FR.NN; rw [← hMt.1]; exact hMt.2⟩
    have ctr : ∀ {σ : L2.St} {Hx : Hp} {t1 t2 t3 : TE} {x : Int}, InF (R.p : Int) R.lo x → Ev t1 σ Hx (.int (R.p : Int)) → Ev t2 σ Hx (.int (R.k : Int)) → Ev t3 σ Hx (.int x) → Ev (tCall spTrace [] L2.E0 (tCons t1 (tCons t2 (tCons t3 tNil)))) σ Hx (.int (R.TT x)) := fun {σ Hx t1 t2 t3 x} hx a b c =>
      ev_call (vs := [.int (R.p : Int), .int (R.k : Int), .int x]) (ea_cons a (ea_cons b (ea_cons c ea_nil))) fun H1 e Q q E => ⟨_, _, x, R.lo, rfl, hf, hFP, inB hx, fun j => inB (itin x hx j).2, by rw [hkt, htr x hx]; exact q⟩
    have cno : ∀ {σ : L2.St} {Hx : Hp} {t1 t2 t3 : TE} {x : Int}, InF (R.p : Int) R.lo x → Ev t1 σ Hx (.int (R.p : Int)) → Ev t2 σ Hx (.int (R.k : Int)) → Ev t3 σ Hx (.int x) → Ev (tCall spNorm [] L2.E0 (tCons t1 (tCons t2 (tCons t3 tNil)))) σ Hx (.int (R.NN x)) := fun {σ Hx t1 t2 t3 x} hx a b c =>
      ev_call (vs := [.int (R.p : Int), .int (R.k : Int), .int x]) (ea_cons a (ea_cons b (ea_cons c ea_nil))) fun H1 e Q q E => ⟨_, _, x, R.lo, rfl, hf, hFP, inB hx, by rw [hkt, (hno x hx).1]; exact q⟩
    have hret : ∀ x, InF (R.p : Int) R.lo x → ∃ m, Mi.Ret (pwp (R.p : Int) (R.k : Int) R.lo) x m ∧ m ≤ 100 ∧ lrow (fun x => R.tp x R.p) x (R.k - 1) = orb (pwp (R.p : Int) (R.k : Int) R.lo) x m := fun x hx => by
      obtain ⟨m, hRet, hm100, hrow⟩ := (ck15_ok hR hx).ex
      refine ⟨m, ⟨hRet.1, by rw [(itin x hx m).1]; exact hRet.2.1, fun j h1 h2 => by rw [(itin x hx j).1]; exact hRet.2.2 j h1 h2⟩, hm100, ?_⟩
      rw [hrow]; unfold orb
      exact List.map_congr_left fun j _ => (itin x hx j).1.symm
    have clp : ∀ {σ : L2.St} {Hx : Hp} {t1 t2 t3 : TE} {x : Int}, InF (R.p : Int) R.lo x → Ev t1 σ Hx (.int (R.p : Int)) → Ev t2 σ Hx (.int (R.k : Int)) → Ev t3 σ Hx (.int x) → EvU (tCall spLPol [] L2.E0 (tCons t1 (tCons t2 (tCons t3 tNil)))) σ Hx ((R.PP x).map V.int) := fun {σ Hx t1 t2 t3 x} hx a b c => by
      obtain ⟨m, hRet, hm100, hrow⟩ := hret x hx
      refine eu_call (vs := [.int (R.p : Int), .int (R.k : Int), .int x]) (ea_cons a (ea_cons b (ea_cons c ea_nil))) fun H1 e Q q E => ⟨_, _, x, R.lo, m, rfl, hf, hFP, L, inB hx, hRet, hm100, ?_⟩
      unfold FR.PP at q
      rw [hrow, ← F.tm_eq] at q
      rw [hkt]; exact q
    refine q_asg (ev_call (vs := [.int (R.p : Int), .int (R.k : Int)]) (ea_cons (ev_var rfl) (ea_cons (ev_var rfl) ea_nil)) fun H1 e Q q E => ⟨_, _, rfl, by omega, by omega, by rw [hkt]; exact q⟩) fun H3 e3 => ?_
    have hnu3 := e3 nu _ hnu2
    refine q_asgI (evi_call (vs := [.ref nu, .int ((2 : Nat) : Int), .int (sizeI (R.p : Int) R.k)]) (ea_cons (ev_var rfl) (ea_cons ev_c (ea_cons (ev_var rfl) ea_nil))) fun H1 e Q q E => ⟨nu, ms, 2, _, rfl, sq_of (e nu _ hnu3), by omega, hs0, q⟩) fun H4 a e4 ha0 => ?_
    have hnu4 := e4 nu _ hnu3
    refine q_asgI (evi_call (vs := [.ref nu, .int ((8 : Nat) : Int), .int (sizeI (R.p : Int) R.k)]) (ea_cons (ev_var rfl) (ea_cons ev_c (ea_cons (ev_var rfl) ea_nil))) fun H1 e Q q E => ⟨nu, ms, 8, _, rfl, sq_of (e nu _ hnu4), by omega, hs0, q⟩) fun H5 b e5 hb0 => ?_
    have hnu5 := e5 nu _ hnu4
    have ha : InF (R.p : Int) R.lo a := by unfold InF; rw [hll]; exact ha0
    have hb : InF (R.p : Int) R.lo b := by unfold InF; rw [hll]; exact hb0
    have hw := win a b ha hb
    refine q_asg (cadd ha hb (ev_var rfl) (ev_var rfl) (ev_var rfl) (ev_var rfl)) fun H6 e6 => ?_
    refine q_asg (cprd ha hb (ev_var rfl) (ev_var rfl) (ev_var rfl) (ev_var rfl)) fun H7 e7 => ?_
    refine q_par (x := .int (ep (R.p : Int) R.lo a R.p)) (y := .int (ep (R.p : Int) R.lo b R.p)) (ea_cons (cpow ha (ev_var rfl) (ev_var rfl) (ev_var rfl) (ev_var rfl)) (ea_cons (cpow hb (ev_var rfl) (ev_var rfl) (ev_var rfl) (ev_var rfl)) ea_nil)) fun H8 e8 => ?_
    have h1 : ep (R.p : Int) R.lo (wm (R.p : Int) 1 R.k a b) R.p = wm (R.p : Int) 1 R.k (ep (R.p : Int) R.lo a R.p) (ep (R.p : Int) R.lo b R.p) := by
      rw [hpt _ hw, hpt _ ha, hpt _ hb]; exact hC.pwA a b ha hb
    refine q_when (et_or (et_test (ev_op (cpow hw (ev_var rfl) (ev_var rfl) (ev_var rfl) (ev_var rfl)) (cadd (epin a _) (epin b _) (ev_var rfl) (ev_var rfl) (ev_var rfl) (ev_var rfl)) (rv_ne rfl))) fun _ => et_test (ev_op (cpow (Pm_in L a b) (ev_var rfl) (ev_var rfl) (ev_var rfl) (ev_var rfl)) (cprd (epin a _) (epin b _) (ev_var rfl) (ev_var rfl) (ev_var rfl) (ev_var rfl)) (rv_ne rfl))) (fun hb1 H9 e9 => ?_) (fun hb1 H9 e9 => ?_)
    · rw [h1, ep_Pm L, decide_eq_true rfl, decide_eq_true rfl] at hb1; cases hb1
    have hTb : ∀ x, InF (R.p : Int) R.lo x → 0 ≤ R.TT x ∧ R.TT x < R.p := fun x hx => ⟨by have := (ptot_ok F hpw hx (R.k - 1)).2.1; rw [ltot_tab F hpw hx] at this; exact this, (ck15_ok hR hx).tr⟩
    have hNb : ∀ x, InF (R.p : Int) R.lo x → 0 ≤ R.NN x ∧ R.NN x < R.p := fun x hx => ⟨(hno x hx).2.1, (ck15_ok hR hx).no⟩
    have hTa := hTb a ha
    have hNa := hNb a ha
    have hNbb := hNb b hb
    refine q_when (et_or (et_test (ev_op (ctr hw (ev_var rfl) (ev_var rfl) (ev_var rfl)) (ev_op (ev_int (ea_cons (ev_op (ctr ha (ev_var rfl) (ev_var rfl) (ev_var rfl)) (ctr hb (ev_var rfl) (ev_var rfl) (ev_var rfl)) rv_I0) ea_nil)) (ev_var rfl) (rv_I (by omega))) (rv_ne rfl))) fun _ => et_test (ev_op (cno (Pm_in L a b) (ev_var rfl) (ev_var rfl) (ev_var rfl)) (ev_op (ev_int (ea_cons (ev_op (cno ha (ev_var rfl) (ev_var rfl) (ev_var rfl)) (cno hb (ev_var rfl) (ev_var rfl) (ev_var rfl)) (rv_I (.inr ⟨by omega, by omega⟩))) ea_nil)) (ev_var rfl) (rv_I (by omega))) (rv_ne rfl))) (fun hb2 H10 e10 => ?_) (fun hb2 H10 e10 => ?_)
    · rw [hC.trA a b ha hb, hC.noM a b ha hb, decide_eq_true rfl, decide_eq_true rfl] at hb2; cases hb2
    have hnu10 := e10 nu _ (e9 nu _ (e8 nu _ (e7 nu _ (e6 nu _ hnu5))))
    obtain ⟨m, hRet, hm100, hrow⟩ := hret a ha
    have hPl : (R.PP a).length = m := by
      have := (ck16_ok hR ha).len
      unfold FR.PP
      rw [← F.tm_eq, this, hrow, orb_len]
    have hm1 := hRet.1
    refine q_asgT3 (ctr ha (ev_var rfl) (ev_var rfl) (ev_var rfl)) (cno ha (ev_var rfl) (ev_var rfl) (ev_var rfl)) (clp ha (ev_var rfl) (ev_var rfl) (ev_var rfl)) fun td to H11 e11 hto htd => ?_
    have tdat : ∀ {Hx : Hp}, Ex H11 Hx → Dp K Hx (.ref td) (.tuple [.int (R.TT a), .int (R.NN a), .tuple (pints (R.PP a))]) := fun ex =>
      .tup (st_of (ex td _ htd)) (.cons (.int _) (.cons (.int _) (.cons (dp_tupI (st_of (ex to _ hto))) .nil)))
    refine q_asgL (el_call (vs := [.int (R.p : Int), .int (R.k : Int), .int a]) (ea_cons (ev_var rfl) (ea_cons (ev_var rfl) (ea_cons (ev_var rfl) ea_nil))) fun H1 e Q q E => ⟨_, _, a, R.lo, m, rfl, hf, hFP, inB ha, hRet, hm100, q⟩) fun w0 H12 nw e12 hw0 => ?_
    have hplt : ∀ x : Int, plD (.tuple [.int (R.TT x), .int (R.NN x), .tuple (pints (R.PP x))]) = true := fun x => by
      show (true && (true && (plDA (pints (R.PP x)) && true))) = true
      rw [plD_ints]; rfl
    have hdpt : ∀ x : Int, PyData.depth (.tuple [.int (R.TT x), .int (R.NN x), .tuple (pints (R.PP x))]) ≤ 64 := fun x => by
      show max 0 (max 0 (max (PyData.depth (.tuple (pints (R.PP x)))) 0)) + 1 ≤ 64
      rw [depth_ints]; decide
    refine q_forLn (ev_var rfl) (sq_of hw0) (fun i σ' H' => ∃ (y : Option V), σ' = [some (.ref sa), some (.ref nu), some (.int (R.p : Int)), some (.int (R.k : Int)), some (.int (sizeI (R.p : Int) R.k)), some (.int a), some (.int b), some (.int (wm (R.p : Int) 1 R.k a b)), some (.int (Pm (R.p : Int) R.lo a b)), some (.int (ep (R.p : Int) R.lo a R.p)), some (.int (ep (R.p : Int) R.lo b R.p)), some (.ref td), some (.ref w0), y, none, none] ∧ Ex H12 H') ?_ ?_ ?_ ?_
    · intro H13 e13; exact ⟨none, rfl, e13⟩
    · rintro i σ' H' _ ⟨y, rfl, e⟩; exact sq_of (e w0 _ hw0)
    · rintro i x σ' H' hx ⟨y, rfl, e⟩
      obtain ⟨z, hz, rfl⟩ := ints_get hx
      unfold orb at hz
      rw [List.getElem?_map] at hz
      have hi : i < m := by
        rcases Nat.lt_or_ge i m with h | h
        · exact h
        · rw [List.getElem?_eq_none (by simpa using h)] at hz; cases hz
      rw [List.getElem?_range hi] at hz
      have hz2 : itp (pwp (R.p : Int) (R.k : Int) R.lo) i a = z := by simpa using hz
      rw [(itin a ha i).1] at hz2
      have tin : ∀ a, InF R.p R.lo a → InF R.p R.lo (R.tp a R.p) := fun a ha => by rw [F.tp_ok ha]; exact ep_in L _ _
      have kT := orb_keep (f := fun x => R.tp x R.p) (S := InF (R.p : Int) R.lo) (g := R.TT) tin hC.cT ha i
      have kN := (orb_keep (f := fun x => R.tp x R.p) (S := InF (R.p : Int) R.lo) (g := R.NN) tin hC.cN ha i).2
      have kP := (orb_keep (f := fun x => R.tp x R.p) (S := InF (R.p : Int) R.lo) (g := R.PP) tin hC.cP ha i).2
      rw [hz2] at kT kN kP
      refine s_when (et_test (ev_neD (b := true) (evd_tup (evda_cons (evd_int (ctr kT.1 (ev_var rfl) (ev_var rfl) (ev_var rfl))) (evda_cons (evd_int (cno kT.1 (ev_var rfl) (ev_var rfl) (ev_var rfl))) (evda_cons (evd_UI (clp kT.1 (ev_var rfl) (ev_var rfl) (ev_var rfl))) evda_nil))) (by show 3 ≤ 100000; decide)) (evd_of (ev_var rfl) (tdat (e12.trans e))) (hplt z) (hplt a) (hdpt z) (hdpt a) ⟨fun _ => by rw [kT.2, kN, kP], fun _ => rfl⟩)) (fun hb3 H13 e13 => ?_) (fun hb3 H13 e13 => ?_)
      · cases hb3
      · exact ⟨_, rfl, e.trans e13⟩
    · rintro σ' H13 ⟨y, rfl, e13⟩
      have e1113 := e12.trans e13
      have hnu13 := e13 nu _ (e12 nu _ (e11 nu _ hnu10))
      have hP0 : (R.PP a)[0]? = some ((R.PP a).getD 0 0) := getD_at (by omega)
      have hmod : ((R.k : Int) % 2) = ((R.k % 2 : Nat) : Int) := by omega
      have hsig : ∀ {σ : L2.St} {Hx : Hp} {ta : TE}, Ev ta σ Hx (.int (R.k : Int)) → Ev (tOp (rIxL K) (tLst (tCons (tC (.int 1)) (tCons (tUn (rU fun i => V.int (-i)) (tC (.int 1))) tNil))) (tOp (rI (fun _ j => 0 < j) fun i j => .int (i % j)) ta (tC (.int 2)))) σ Hx (.int (if R.k % 2 = 1 then -1 else 1)) := fun h =>
        ev_opL1 (xs := [.int 1, .int (-1)]) (y := .int ((R.k % 2 : Nat) : Int)) (el_lst (ea_cons ev_c (ea_cons (ev_un ev_c ru_neg) ea_nil)) (by show 2 ≤ 100000; decide)) (fun H1 e1 => ev_is (ev_op (h.mono e1) ev_c (rv_I (by decide))) (congrArg V.int hmod)) (fun p H1 hp e1 => rv_ixLn (sq_of hp) (by
          rcases Nat.mod_two_eq_zero_or_one R.k with h | h
          · rw [h]; rfl
          · rw [h]; rfl))
      refine q_when (et_and (et_test (ev_op (ev_lenL (ev_var rfl) (.inl (sq_of (e13 w0 _ hw0)))) (ev_var rfl) (rv_eq rfl))) fun _ => et_test (ev_op (ev_op (ev_int (ea_cons (ev_op (ev_op (ev_op (ev_var rfl) ev_c (rv_ixTn (j := 2) (st_of (e1113 td _ htd)) rfl)) ev_c (rv_ixTn (j := 0) (st_of (e1113 to _ hto)) (ints_at hP0))) (ev_op (hsig (ev_var rfl)) (ev_op (ev_var rfl) ev_c (rv_ixTn (j := 1) (st_of (e1113 td _ htd)) rfl)) (rv_I (.inr ⟨by omega, by omega⟩))) rv_I0) ea_nil)) (ev_var rfl) (rv_I (by omega))) ev_c (rv_ne rfl))) (fun hb3 H14 e14 => ?_) (fun hb3 H14 e14 => ?_)
      · rw [Bool.and_eq_true] at hb3
        have hm := V.int.inj (of_decide_eq_true hb3.1)
        rw [List.length_map, orb_len] at hm
        have hla := hC.la a ha (by rw [hrow, orb_len]; omega)
        rw [hla] at hb3
        exact absurd hb3.2 (by decide)
      have hEl : (R.E.length : Int) + 1 = sizeI (R.p : Int) R.k := by rw [hll] at hl0; exact hl0
      have hR20 : R ∈ rows20 := List.mem_append_left _ hR
      obtain ⟨ds, hD⟩ := ck14_ok hR20
      have hE5 : R.E.length ≤ 1000 := (show ∀ r ∈ rows16, r.E.length ≤ 1000 by decide +kernel) R hR
      have hpos := F.pos
      have hq1 : sizeI (R.p : Int) ((R.k : Int)).toNat - 1 = (R.E.length : Int) := by rw [hkt]; omega
      have hds : pdv 2000 [] 2 (sizeI (R.p : Int) ((R.k : Int)).toNat - 1) = some ds := by rw [hq1]; exact hD.pd
      have hdl : ds.length ≤ 40000 := by
        have h6 := (show ∀ r ∈ rows16, (dsOf r).length ≤ 40000 by decide +kernel) R hR
        unfold dsOf FR.ds at h6
        rw [hD.pd] at h6; exact h6
      obtain ⟨z, hz, hz1, hzq, hz100, hzo, hzm⟩ := hD.gen
      have hzin : InF (R.p : Int) R.lo z := by unfold FR.q at hzq; unfold InF; rw [hll]; omega
      have hO := hD.at_ z hzin (by omega)
      rw [hzo] at hO
      refine q_asg (ev_call (vs := [.int (R.p : Int), .int (R.k : Int)]) (ea_cons (ev_var rfl) (ea_cons (ev_var rfl) ea_nil)) fun H1 e Q q E => ⟨_, _, z, R.lo, ds, rfl, hf, hFP, by rw [hkt]; omega, hds, hD.dm, hdl, by rw [hq1]; exact hz, q⟩) fun H15 e15 => ?_
      have hg20 : ms[20]? = some (ms.getD 20 0) := getD_at (by omega)
      have hnu15 := e15 nu _ (e14 nu _ hnu13)
      refine q_asg (ev_op (ev_int (ea_cons (ev_op (ev_var rfl) ev_c (rv_ixLn (j := 20) (sq_of hnu15) (ints_at hg20))) ea_nil)) (ev_var rfl) (rv_I hs0)) fun H16 e16 => ?_
      have ht0 : 0 ≤ ms.getD 20 0 % sizeI (R.p : Int) R.k := Int.emod_nonneg _ (by omega)
      have ht1 : ms.getD 20 0 % sizeI (R.p : Int) R.k < sizeI (R.p : Int) R.k := Int.emod_lt_of_pos _ hs0
      obtain ⟨tn, htn⟩ := Int.eq_ofNat_of_zero_le ht0
      rw [htn] at ht1 ⊢
      have key : ep (R.p : Int) R.lo z tn = 1 ↔ (tn : Int) % (sizeI (R.p : Int) R.k - 1) = 0 := by
        rw [show sizeI (R.p : Int) R.k - 1 = (R.E.length : Int) by omega]
        rcases Nat.eq_zero_or_pos tn with h0 | h0
        · rw [h0]; exact ⟨fun _ => rfl, fun _ => rfl⟩
        rcases Nat.lt_or_ge tn R.E.length with h1 | h1
        · refine ⟨fun h => absurd h (hO.min tn h0 h1), fun h => ?_⟩
          have : tn % R.E.length = tn := Nat.mod_eq_of_lt h1
          omega
        · have h2 : tn = R.E.length := by omega
          rw [h2]
          exact ⟨fun _ => Int.emod_self, fun _ => hO.one⟩
      refine s_ret (v := .bl true) (ev_is (ev_op (ev_op (cpow hzin (ev_var rfl) (ev_var rfl) (ev_var rfl) (ev_var rfl)) ev_c (rv_eq rfl)) (ev_op (ev_op (ev_int (ea_cons (ev_var rfl) ea_nil)) (ev_op (ev_var rfl) ev_c rv_I0) (rv_I (by omega))) ev_c (rv_eq rfl)) (rv_eq rfl)) ?_) fun H17 e17 => q H17
      by_cases h : ep (R.p : Int) R.lo z tn = 1
      · rw [decide_eq_true (congrArg V.int h), decide_eq_true (congrArg V.int (key.mp h))]; rfl
      · rw [decide_eq_false (fun z => h (V.int.inj z)), decide_eq_false (fun z => h (key.mpr (V.int.inj z)))]; rfl

end
end My
namespace My
open PySem PySem.Spec PyProof.Rows L2 Evl Mi
/-! ### what the top has written -/
set_option maxHeartbeats 8000000 in
theorem all_mk {l : PySem.W.OpenLaw} {w : World} {K : PySem.W.Frag} {h : Heap} {mg : Str → Option Value} {fa C f1 f2 f3 f4 f5 f6 f7 f8 f9 f10 f11 f12 f13 f14 f15 f16 f17 f18 f19 f20 f21 f22 f23 f24 f25 f26 f27 f28 f29 f30 f31 f32 f33 f34 f35 f36 f37 f38 f39 f40 f41 f42 Q1 : Addr} (X : K.In h) (G : h.Ns mainGlobals mg) (hfa : mg "law" = some (.ref fa))
    {od1 an1 od2 an2 od3 an3 od4 an4 od5 an5 od6 an6 od7 an7 od8 an8 od9 an9 od10 an10 od11 an11 od12 an12 od13 an13 od14 an14 od15 an15 od16 an16 od17 an17 od18 an18 od19 an19 od20 an20 od21 an21 od22 an22 od23 an23 od24 an24 od25 an25 od26 an26 od27 an27 od28 an28 od29 an29 od30 an30 od31 an31 od32 an32 od33 an33 od34 an34 od35 an35 od36 an36 od37 an37 od38 an38 od39 an39 od40 an40 od41 an41 od42 an42 : Option Addr} {sl1 sl2 sl3 sl4 sl5 sl6 sl7 sl8 sl9 sl10 sl11 sl12 sl13 sl14 sl15 sl16 sl17 sl18 sl19 sl20 sl21 sl22 sl23 sl24 sl25 sl26 sl27 sl28 sl29 sl30 sl31 sl32 sl33 sl34 sl35 sl36 sl37 sl38 sl39 sl40 sl41 sl42 : Array (Option Value)} {oc1 kV1 dc1 pm1 cd1 ct1 oc2 kV2 dc2 pm2 cd2 ct2 oc3 kV3 dc3 pm3 cd3 ct3 oc4 kV4 dc4 pm4 cd4 ct4 oc5 kV5 dc5 pm5 cd5 ct5 oc6 kV6 dc6 pm6 cd6 ct6 oc7 kV7 dc7 pm7 cd7 ct7 oc8 kV8 dc8 pm8 cd8 ct8 oc9 kV9 dc9 pm9 cd9 ct9 oc10 kV10 dc10 pm10 cd10 ct10 oc11 kV11 dc11 pm11 cd11 ct11 oc12 kV12 dc12 pm12 cd12 ct12 oc13 kV13 dc13 pm13 cd13 ct13 oc14 kV14 dc14 pm14 cd14 ct14 oc15 kV15 dc15 pm15 cd15 ct15 oc16 kV16 dc16 pm16 cd16 ct16 oc17 kV17 dc17 pm17 cd17 ct17 oc18 kV18 dc18 pm18 cd18 ct18 oc19 kV19 dc19 pm19 cd19 ct19 oc20 kV20 dc20 pm20 cd20 ct20 oc21 kV21 dc21 pm21 cd21 ct21 oc22 kV22 dc22 pm22 cd22 ct22 oc23 kV23 dc23 pm23 cd23 ct23 oc24 kV24 dc24 pm24 cd24 ct24 oc25 kV25 dc25 pm25 cd25 ct25 oc26 kV26 dc26 pm26 cd26 ct26 oc27 kV27 dc27 pm27 cd27 ct27 oc28 kV28 dc28 pm28 cd28 ct28 oc29 kV29 dc29 pm29 cd29 ct29 oc30 kV30 dc30 pm30 cd30 ct30 oc31 kV31 dc31 pm31 cd31 ct31 oc32 kV32 dc32 pm32 cd32 ct32 oc33 kV33 dc33 pm33 cd33 ct33 oc34 kV34 dc34 pm34 cd34 ct34 oc35 kV35 dc35 pm35 cd35 ct35 oc36 kV36 dc36 pm36 cd36 ct36 oc37 kV37 dc37 pm37 cd37 ct37 oc38 kV38 dc38 pm38 cd38 ct38 oc39 kV39 dc39 pm39 cd39 ct39 oc40 kV40 dc40 pm40 cd40 ct40 oc41 kV41 dc41 pm41 cd41 ct41 oc42 kV42 dc42 pm42 cd42 ct42 : Value} {t_GREATEST_PRIME t_GREATEST_DEGREE t_GREATEST_PRIME_OF_POWERS t_GREATEST_POWER t_GREATEST_WITH_ORDERS : Tok}
    (aC : PySem.W.nsIn K mainGlobals "Field" = some (some (.ref C)))
    (pg : PySem.W.plainGet K C Str.empty = true)
    (hd : PySem.W.hasDictIn K C = true)
    (po : PySem.W.plainOver K C = true)
    (sa : PySem.W.findIn K (.ref C) "__setattr__" = some (some (.builtin "object.__setattr__")))
    (mk : PySem.W.makesIn K C = true)
    (kc : PySem.W.keepIn K (.ref C) = true)
    (nprime : PySem.W.findIn K (.ref C) "prime" = some none)
    (ndegree : PySem.W.findIn K (.ref C) "degree" = some none)
    (nsize : PySem.W.findIn K (.ref C) "size" = some none)
    (ncoefficients : PySem.W.findIn K (.ref C) "coefficients" = some none)
    (a1 : PySem.W.nsIn K mainGlobals "figures_of" = some (some (.ref f1)))
    (l1 : K.lookup f1 = some ⟨oc1, od1, .func (PySem.W.fnOf "figures_of" "figures_of" (defArgs s_figures_of) (defBody s_figures_of) (defScope s_figures_of) .none kV1 dc1 pm1 an1 cd1 ct1), sl1⟩)
    (c1 : PySem.W.codeIn K cd1 "figures_of" = true)
    (k1 : PySem.W.keepIn K (.ref f1) = true)
    (a2 : PySem.W.nsIn K mainGlobals "number_of" = some (some (.ref f2)))
    (l2 : K.lookup f2 = some ⟨oc2, od2, .func (PySem.W.fnOf "number_of" "number_of" (defArgs s_number_of) (defBody s_number_of) (defScope s_number_of) .none kV2 dc2 pm2 an2 cd2 ct2), sl2⟩)
    (c2 : PySem.W.codeIn K cd2 "number_of" = true)
    (k2 : PySem.W.keepIn K (.ref f2) = true)
    (a3 : PySem.W.nsIn K mainGlobals "size_of" = some (some (.ref f3)))
    (l3 : K.lookup f3 = some ⟨oc3, od3, .func (PySem.W.fnOf "size_of" "size_of" (defArgs s_size_of) (defBody s_size_of) (defScope s_size_of) .none kV3 dc3 pm3 an3 cd3 ct3), sl3⟩)
    (c3 : PySem.W.codeIn K cd3 "size_of" = true)
    (k3 : PySem.W.keepIn K (.ref f3) = true)
    (a4 : PySem.W.nsIn K mainGlobals "is_prime" = some (some (.ref f4)))
    (l4 : K.lookup f4 = some ⟨oc4, od4, .func (PySem.W.fnOf "is_prime" "is_prime" (defArgs s_is_prime) (defBody s_is_prime) (defScope s_is_prime) .none kV4 dc4 pm4 an4 cd4 ct4), sl4⟩)
    (c4 : PySem.W.codeIn K cd4 "is_prime" = true)
    (k4 : PySem.W.keepIn K (.ref f4) = true)
    (a5 : PySem.W.nsIn K mainGlobals "is_field" = some (some (.ref f5)))
    (l5 : K.lookup f5 = some ⟨oc5, od5, .func (PySem.W.fnOf "is_field" "is_field" (defArgs s_is_field) (defBody s_is_field) (defScope s_is_field) .none kV5 dc5 pm5 an5 cd5 ct5), sl5⟩)
    (c5 : PySem.W.codeIn K cd5 "is_field" = true)
    (k5 : PySem.W.keepIn K (.ref f5) = true)
    (a6 : PySem.W.nsIn K mainGlobals "need_field" = some (some (.ref f6)))
    (l6 : K.lookup f6 = some ⟨oc6, od6, .func (PySem.W.fnOf "need_field" "need_field" (defArgs s_need_field) (defBody s_need_field) (defScope s_need_field) .none kV6 dc6 pm6 an6 cd6 ct6), sl6⟩)
    (c6 : PySem.W.codeIn K cd6 "need_field" = true)
    (k6 : PySem.W.keepIn K (.ref f6) = true)
    (a7 : PySem.W.nsIn K mainGlobals "need_members" = some (some (.ref f7)))
    (l7 : K.lookup f7 = some ⟨oc7, od7, .func (PySem.W.fnOf "need_members" "need_members" (defArgs s_need_members) (defBody s_need_members) (defScope s_need_members) .none kV7 dc7 pm7 an7 cd7 ct7), sl7⟩)
    (c7 : PySem.W.codeIn K cd7 "need_members" = true)
    (k7 : PySem.W.keepIn K (.ref f7) = true)
    (a8 : PySem.W.nsIn K mainGlobals "with_multiple" = some (some (.ref f8)))
    (l8 : K.lookup f8 = some ⟨oc8, od8, .func (PySem.W.fnOf "with_multiple" "with_multiple" (defArgs s_with_multiple) (defBody s_with_multiple) (defScope s_with_multiple) .none kV8 dc8 pm8 an8 cd8 ct8), sl8⟩)
    (c8 : PySem.W.codeIn K cd8 "with_multiple" = true)
    (k8 : PySem.W.keepIn K (.ref f8) = true)
    (a9 : PySem.W.nsIn K mainGlobals "added" = some (some (.ref f9)))
    (l9 : K.lookup f9 = some ⟨oc9, od9, .func (PySem.W.fnOf "added" "added" (defArgs s_added) (defBody s_added) (defScope s_added) .none kV9 dc9 pm9 an9 cd9 ct9), sl9⟩)
    (c9 : PySem.W.codeIn K cd9 "added" = true)
    (k9 : PySem.W.keepIn K (.ref f9) = true)
    (a10 : PySem.W.nsIn K mainGlobals "inverse_modulo" = some (some (.ref f10)))
    (l10 : K.lookup f10 = some ⟨oc10, od10, .func (PySem.W.fnOf "inverse_modulo" "inverse_modulo" (defArgs s_inverse_modulo) (defBody s_inverse_modulo) (defScope s_inverse_modulo) .none kV10 dc10 pm10 an10 cd10 ct10), sl10⟩)
    (c10 : PySem.W.codeIn K cd10 "inverse_modulo" = true)
    (k10 : PySem.W.keepIn K (.ref f10) = true)
    (a11 : PySem.W.nsIn K mainGlobals "without_high_zeros" = some (some (.ref f11)))
    (l11 : K.lookup f11 = some ⟨oc11, od11, .func (PySem.W.fnOf "without_high_zeros" "without_high_zeros" (defArgs s_without_high_zeros) (defBody s_without_high_zeros) (defScope s_without_high_zeros) .none kV11 dc11 pm11 an11 cd11 ct11), sl11⟩)
    (c11 : PySem.W.codeIn K cd11 "without_high_zeros" = true)
    (k11 : PySem.W.keepIn K (.ref f11) = true)
    (a12 : PySem.W.nsIn K mainGlobals "remainder_by" = some (some (.ref f12)))
    (l12 : K.lookup f12 = some ⟨oc12, od12, .func (PySem.W.fnOf "remainder_by" "remainder_by" (defArgs s_remainder_by) (defBody s_remainder_by) (defScope s_remainder_by) .none kV12 dc12 pm12 an12 cd12 ct12), sl12⟩)
    (c12 : PySem.W.codeIn K cd12 "remainder_by" = true)
    (k12 : PySem.W.keepIn K (.ref f12) = true)
    (a13 : PySem.W.nsIn K mainGlobals "multiplied" = some (some (.ref f13)))
    (l13 : K.lookup f13 = some ⟨oc13, od13, .func (PySem.W.fnOf "multiplied" "multiplied" (defArgs s_multiplied) (defBody s_multiplied) (defScope s_multiplied) .none kV13 dc13 pm13 an13 cd13 ct13), sl13⟩)
    (c13 : PySem.W.codeIn K cd13 "multiplied" = true)
    (k13 : PySem.W.keepIn K (.ref f13) = true)
    (a14 : PySem.W.nsIn K mainGlobals "have_common_factor" = some (some (.ref f14)))
    (l14 : K.lookup f14 = some ⟨oc14, od14, .func (PySem.W.fnOf "have_common_factor" "have_common_factor" (defArgs s_have_common_factor) (defBody s_have_common_factor) (defScope s_have_common_factor) .none kV14 dc14 pm14 an14 cd14 ct14), sl14⟩)
    (c14 : PySem.W.codeIn K cd14 "have_common_factor" = true)
    (k14 : PySem.W.keepIn K (.ref f14) = true)
    (a15 : PySem.W.nsIn K mainGlobals "raised" = some (some (.ref f15)))
    (l15 : K.lookup f15 = some ⟨oc15, od15, .func (PySem.W.fnOf "raised" "raised" (defArgs s_raised) (defBody s_raised) (defScope s_raised) .none kV15 dc15 pm15 an15 cd15 ct15), sl15⟩)
    (c15 : PySem.W.codeIn K cd15 "raised" = true)
    (k15 : PySem.W.keepIn K (.ref f15) = true)
    (a16 : PySem.W.nsIn K mainGlobals "is_irreducible" = some (some (.ref f16)))
    (l16 : K.lookup f16 = some ⟨oc16, od16, .func (PySem.W.fnOf "is_irreducible" "is_irreducible" (defArgs s_is_irreducible) (defBody s_is_irreducible) (defScope s_is_irreducible) .none kV16 dc16 pm16 an16 cd16 ct16), sl16⟩)
    (c16 : PySem.W.codeIn K cd16 "is_irreducible" = true)
    (k16 : PySem.W.keepIn K (.ref f16) = true)
    (a17 : PySem.W.nsIn K mainGlobals "first_irreducible" = some (some (.ref f17)))
    (l17 : K.lookup f17 = some ⟨oc17, od17, .func (PySem.W.fnOf "first_irreducible" "first_irreducible" (defArgs s_first_irreducible) (defBody s_first_irreducible) (defScope s_first_irreducible) .none kV17 dc17 pm17 an17 cd17 ct17), sl17⟩)
    (c17 : PySem.W.codeIn K cd17 "first_irreducible" = true)
    (k17 : PySem.W.keepIn K (.ref f17) = true)
    (a18 : PySem.W.findIn K (.ref C) "__init__" = some (some (.ref f18)))
    (i18 : PySem.W.isFn K (.ref f18) = true)
    (l18 : K.lookup f18 = some ⟨oc18, od18, .func (PySem.W.fnOf "__init__" "Field.__init__" (defArgs s_Field___init__) (defBody s_Field___init__) (defScope s_Field___init__) .none kV18 dc18 pm18 an18 cd18 ct18), sl18⟩)
    (c18 : PySem.W.codeIn K cd18 "Field.__init__" = true)
    (k18 : PySem.W.keepIn K (.ref f18) = true)
    (a19 : PySem.W.findIn K (.ref C) "product" = some (some (.ref f19)))
    (i19 : PySem.W.isFn K (.ref f19) = true)
    (l19 : K.lookup f19 = some ⟨oc19, od19, .func (PySem.W.fnOf "product" "Field.product" (defArgs s_Field_product) (defBody s_Field_product) (defScope s_Field_product) .none kV19 dc19 pm19 an19 cd19 ct19), sl19⟩)
    (c19 : PySem.W.codeIn K cd19 "Field.product" = true)
    (k19 : PySem.W.keepIn K (.ref f19) = true)
    (a20 : PySem.W.nsIn K mainGlobals "product" = some (some (.ref f20)))
    (l20 : K.lookup f20 = some ⟨oc20, od20, .func (PySem.W.fnOf "product" "product" (defArgs s_product) (defBody s_product) (defScope s_product) .none kV20 dc20 pm20 an20 cd20 ct20), sl20⟩)
    (c20 : PySem.W.codeIn K cd20 "product" = true)
    (k20 : PySem.W.keepIn K (.ref f20) = true)
    (a21 : PySem.W.nsIn K mainGlobals "_law_row" = some (some (.ref f21)))
    (l21 : K.lookup f21 = some ⟨oc21, od21, .func (PySem.W.fnOf "_law_row" "_law_row" (defArgs s__law_row) (defBody s__law_row) (defScope s__law_row) .none kV21 dc21 pm21 an21 cd21 ct21), sl21⟩)
    (c21 : PySem.W.codeIn K cd21 "_law_row" = true)
    (k21 : PySem.W.keepIn K (.ref f21) = true)
    (a22 : PySem.W.nsIn K mainGlobals "_law_numbers" = some (some (.ref f22)))
    (l22 : K.lookup f22 = some ⟨oc22, od22, .func (PySem.W.fnOf "_law_numbers" "_law_numbers" (defArgs s__law_numbers) (defBody s__law_numbers) (defScope s__law_numbers) .none kV22 dc22 pm22 an22 cd22 ct22), sl22⟩)
    (c22 : PySem.W.codeIn K cd22 "_law_numbers" = true)
    (k22 : PySem.W.keepIn K (.ref f22) = true)
    (a23 : PySem.W.nsIn K mainGlobals "_law_size" = some (some (.ref f23)))
    (l23 : K.lookup f23 = some ⟨oc23, od23, .func (PySem.W.fnOf "_law_size" "_law_size" (defArgs s__law_size) (defBody s__law_size) (defScope s__law_size) .none kV23 dc23 pm23 an23 cd23 ct23), sl23⟩)
    (c23 : PySem.W.codeIn K cd23 "_law_size" = true)
    (k23 : PySem.W.keepIn K (.ref f23) = true)
    (a24 : PySem.W.nsIn K mainGlobals "_law_element" = some (some (.ref f24)))
    (l24 : K.lookup f24 = some ⟨oc24, od24, .func (PySem.W.fnOf "_law_element" "_law_element" (defArgs s__law_element) (defBody s__law_element) (defScope s__law_element) .none kV24 dc24 pm24 an24 cd24 ct24), sl24⟩)
    (c24 : PySem.W.codeIn K cd24 "_law_element" = true)
    (k24 : PySem.W.keepIn K (.ref f24) = true)
    (a25 : PySem.W.nsIn K mainGlobals "_law_field" = some (some (.ref f25)))
    (l25 : K.lookup f25 = some ⟨oc25, od25, .func (PySem.W.fnOf "_law_field" "_law_field" (defArgs s__law_field) (defBody s__law_field) (defScope s__law_field) .none kV25 dc25 pm25 an25 cd25 ct25), sl25⟩)
    (c25 : PySem.W.codeIn K cd25 "_law_field" = true)
    (k25 : PySem.W.keepIn K (.ref f25) = true)
    (a26 : PySem.W.findIn K (.ref C) "added" = some (some (.ref f26)))
    (i26 : PySem.W.isFn K (.ref f26) = true)
    (l26 : K.lookup f26 = some ⟨oc26, od26, .func (PySem.W.fnOf "added" "Field.added" (defArgs s_Field_added) (defBody s_Field_added) (defScope s_Field_added) .none kV26 dc26 pm26 an26 cd26 ct26), sl26⟩)
    (c26 : PySem.W.codeIn K cd26 "Field.added" = true)
    (k26 : PySem.W.keepIn K (.ref f26) = true)
    (a27 : PySem.W.findIn K (.ref C) "less" = some (some (.ref f27)))
    (i27 : PySem.W.isFn K (.ref f27) = true)
    (l27 : K.lookup f27 = some ⟨oc27, od27, .func (PySem.W.fnOf "less" "Field.less" (defArgs s_Field_less) (defBody s_Field_less) (defScope s_Field_less) .none kV27 dc27 pm27 an27 cd27 ct27), sl27⟩)
    (c27 : PySem.W.codeIn K cd27 "Field.less" = true)
    (k27 : PySem.W.keepIn K (.ref f27) = true)
    (a28 : PySem.W.findIn K (.ref C) "power" = some (some (.ref f28)))
    (i28 : PySem.W.isFn K (.ref f28) = true)
    (l28 : K.lookup f28 = some ⟨oc28, od28, .func (PySem.W.fnOf "power" "Field.power" (defArgs s_Field_power) (defBody s_Field_power) (defScope s_Field_power) .none kV28 dc28 pm28 an28 cd28 ct28), sl28⟩)
    (c28 : PySem.W.codeIn K cd28 "Field.power" = true)
    (k28 : PySem.W.keepIn K (.ref f28) = true)
    (a29 : PySem.W.nsIn K mainGlobals "conjugates_in" = some (some (.ref f29)))
    (l29 : K.lookup f29 = some ⟨oc29, od29, .func (PySem.W.fnOf "conjugates_in" "conjugates_in" (defArgs s_conjugates_in) (defBody s_conjugates_in) (defScope s_conjugates_in) .none kV29 dc29 pm29 an29 cd29 ct29), sl29⟩)
    (c29 : PySem.W.codeIn K cd29 "conjugates_in" = true)
    (k29 : PySem.W.keepIn K (.ref f29) = true)
    (a30 : PySem.W.nsIn K mainGlobals "conjugates" = some (some (.ref f30)))
    (l30 : K.lookup f30 = some ⟨oc30, od30, .func (PySem.W.fnOf "conjugates" "conjugates" (defArgs s_conjugates) (defBody s_conjugates) (defScope s_conjugates) .none kV30 dc30 pm30 an30 cd30 ct30), sl30⟩)
    (c30 : PySem.W.codeIn K cd30 "conjugates" = true)
    (k30 : PySem.W.keepIn K (.ref f30) = true)
    (a31 : PySem.W.nsIn K mainGlobals "repeated_powers" = some (some (.ref f31)))
    (l31 : K.lookup f31 = some ⟨oc31, od31, .func (PySem.W.fnOf "repeated_powers" "repeated_powers" (defArgs s_repeated_powers) (defBody s_repeated_powers) (defScope s_repeated_powers) .none kV31 dc31 pm31 an31 cd31 ct31), sl31⟩)
    (c31 : PySem.W.codeIn K cd31 "repeated_powers" = true)
    (k31 : PySem.W.keepIn K (.ref f31) = true)
    (a32 : PySem.W.nsIn K mainGlobals "trace" = some (some (.ref f32)))
    (l32 : K.lookup f32 = some ⟨oc32, od32, .func (PySem.W.fnOf "trace" "trace" (defArgs s_trace) (defBody s_trace) (defScope s_trace) .none kV32 dc32 pm32 an32 cd32 ct32), sl32⟩)
    (c32 : PySem.W.codeIn K cd32 "trace" = true)
    (k32 : PySem.W.keepIn K (.ref f32) = true)
    (a33 : PySem.W.nsIn K mainGlobals "norm" = some (some (.ref f33)))
    (l33 : K.lookup f33 = some ⟨oc33, od33, .func (PySem.W.fnOf "norm" "norm" (defArgs s_norm) (defBody s_norm) (defScope s_norm) .none kV33 dc33 pm33 an33 cd33 ct33), sl33⟩)
    (c33 : PySem.W.codeIn K cd33 "norm" = true)
    (k33 : PySem.W.keepIn K (.ref f33) = true)
    (a34 : PySem.W.nsIn K mainGlobals "need_not_zero" = some (some (.ref f34)))
    (l34 : K.lookup f34 = some ⟨oc34, od34, .func (PySem.W.fnOf "need_not_zero" "need_not_zero" (defArgs s_need_not_zero) (defBody s_need_not_zero) (defScope s_need_not_zero) .none kV34 dc34 pm34 an34 cd34 ct34), sl34⟩)
    (c34 : PySem.W.codeIn K cd34 "need_not_zero" = true)
    (k34 : PySem.W.keepIn K (.ref f34) = true)
    (a35 : PySem.W.nsIn K mainGlobals "power" = some (some (.ref f35)))
    (l35 : K.lookup f35 = some ⟨oc35, od35, .func (PySem.W.fnOf "power" "power" (defArgs s_power) (defBody s_power) (defScope s_power) .none kV35 dc35 pm35 an35 cd35 ct35), sl35⟩)
    (c35 : PySem.W.codeIn K cd35 "power" = true)
    (k35 : PySem.W.keepIn K (.ref f35) = true)
    (a36 : PySem.W.nsIn K mainGlobals "times_x_less" = some (some (.ref f36)))
    (l36 : K.lookup f36 = some ⟨oc36, od36, .func (PySem.W.fnOf "times_x_less" "times_x_less" (defArgs s_times_x_less) (defBody s_times_x_less) (defScope s_times_x_less) .none kV36 dc36 pm36 an36 cd36 ct36), sl36⟩)
    (c36 : PySem.W.codeIn K cd36 "times_x_less" = true)
    (k36 : PySem.W.keepIn K (.ref f36) = true)
    (a37 : PySem.W.nsIn K mainGlobals "least_polynomial" = some (some (.ref f37)))
    (l37 : K.lookup f37 = some ⟨oc37, od37, .func (PySem.W.fnOf "least_polynomial" "least_polynomial" (defArgs s_least_polynomial) (defBody s_least_polynomial) (defScope s_least_polynomial) .none kV37 dc37 pm37 an37 cd37 ct37), sl37⟩)
    (c37 : PySem.W.codeIn K cd37 "least_polynomial" = true)
    (k37 : PySem.W.keepIn K (.ref f37) = true)
    (a38 : PySem.W.nsIn K mainGlobals "need_orders" = some (some (.ref f38)))
    (l38 : K.lookup f38 = some ⟨oc38, od38, .func (PySem.W.fnOf "need_orders" "need_orders" (defArgs s_need_orders) (defBody s_need_orders) (defScope s_need_orders) .none kV38 dc38 pm38 an38 cd38 ct38), sl38⟩)
    (c38 : PySem.W.codeIn K cd38 "need_orders" = true)
    (k38 : PySem.W.keepIn K (.ref f38) = true)
    (a39 : PySem.W.nsIn K mainGlobals "prime_divisors" = some (some (.ref f39)))
    (l39 : K.lookup f39 = some ⟨oc39, od39, .func (PySem.W.fnOf "prime_divisors" "prime_divisors" (defArgs s_prime_divisors) (defBody s_prime_divisors) (defScope s_prime_divisors) .none kV39 dc39 pm39 an39 cd39 ct39), sl39⟩)
    (c39 : PySem.W.codeIn K cd39 "prime_divisors" = true)
    (k39 : PySem.W.keepIn K (.ref f39) = true)
    (a40 : PySem.W.nsIn K mainGlobals "has_power_one" = some (some (.ref f40)))
    (l40 : K.lookup f40 = some ⟨oc40, od40, .func (PySem.W.fnOf "has_power_one" "has_power_one" (defArgs s_has_power_one) (defBody s_has_power_one) (defScope s_has_power_one) .none kV40 dc40 pm40 an40 cd40 ct40), sl40⟩)
    (c40 : PySem.W.codeIn K cd40 "has_power_one" = true)
    (k40 : PySem.W.keepIn K (.ref f40) = true)
    (a41 : PySem.W.nsIn K mainGlobals "generator" = some (some (.ref f41)))
    (l41 : K.lookup f41 = some ⟨oc41, od41, .func (PySem.W.fnOf "generator" "generator" (defArgs s_generator) (defBody s_generator) (defScope s_generator) .none kV41 dc41 pm41 an41 cd41 ct41), sl41⟩)
    (c41 : PySem.W.codeIn K cd41 "generator" = true)
    (k41 : PySem.W.keepIn K (.ref f41) = true)
    (a42 : PySem.W.nsIn K mainGlobals "law" = some (some (.ref f42)))
    (l42 : K.lookup f42 = some ⟨oc42, od42, .func (PySem.W.fnOf "law" "law" (defArgs s_law) (defBody s_law) (defScope s_law) .none kV42 dc42 pm42 an42 cd42 ct42), sl42⟩)
    (c42 : PySem.W.codeIn K cd42 "law" = true)
    (k42 : PySem.W.keepIn K (.ref f42) = true)
    (aQ1 : PySem.W.nsIn K mainGlobals "InvalidQuestion" = some (some (.ref Q1)))
    (xQ1 : PySem.W.excIn K Q1 [.type "ValueError", .type "Exception", .type "BaseException", .type "object"] "ValueError.__new__" = true)
    (kQ1 : PySem.W.keepIn K (.ref Q1) = true)
    (bQ1 : PySem.W.subIn K (.ref Q1) (.type "BaseException") = some true)
    (tQ1 : PySem.W.typeIn K (.ref Q1) = some (.type "type"))
    (iQ1 : PySem.W.isClsIn K Q1 = true)
    (sQ1 : PySem.W.subIn K (.ref Q1) (.ref Q1) = some true)
    (z_range : PySem.W.nsIn K mainGlobals "range" = some none)
    (z_len : PySem.W.nsIn K mainGlobals "len" = some none)
    (z_int : PySem.W.nsIn K mainGlobals "int" = some none)
    (z_abs : PySem.W.nsIn K mainGlobals "abs" = some none)
    (z_max : PySem.W.nsIn K mainGlobals "max" = some none)
    (z_min : PySem.W.nsIn K mainGlobals "min" = some none)
    (z_list : PySem.W.nsIn K mainGlobals "list" = some none)
    (z_tuple : PySem.W.nsIn K mainGlobals "tuple" = some none)
    (z_reversed : PySem.W.nsIn K mainGlobals "reversed" = some none)
    (z_enumerate : PySem.W.nsIn K mainGlobals "enumerate" = some none)
    (z_zip : PySem.W.nsIn K mainGlobals "zip" = some none)
    (z_isinstance : PySem.W.nsIn K mainGlobals "isinstance" = some none)
    (z_bool : PySem.W.nsIn K mainGlobals "bool" = some none)
    (z_repr : PySem.W.nsIn K mainGlobals "repr" = some none)
    (z_all : PySem.W.nsIn K mainGlobals "all" = some none)
    (g_GREATEST_PRIME : PySem.W.nsIn K mainGlobals "GREATEST_PRIME" = some (some (.int 1000000 t_GREATEST_PRIME)))
    (g_GREATEST_DEGREE : PySem.W.nsIn K mainGlobals "GREATEST_DEGREE" = some (some (.int 12 t_GREATEST_DEGREE)))
    (g_GREATEST_PRIME_OF_POWERS : PySem.W.nsIn K mainGlobals "GREATEST_PRIME_OF_POWERS" = some (some (.int 97 t_GREATEST_PRIME_OF_POWERS)))
    (g_GREATEST_POWER : PySem.W.nsIn K mainGlobals "GREATEST_POWER" = some (some (.int 1000000000000000 t_GREATEST_POWER)))
    (g_GREATEST_WITH_ORDERS : PySem.W.nsIn K mainGlobals "GREATEST_WITH_ORDERS" = some (some (.int 1000000 t_GREATEST_WITH_ORDERS)))
    : ∃ fd : FuncData, (∀ (s : Shared) (v : Value), BindsTo s fd ⟨[v], []⟩ [("script", v)]) ∧ ∀ base : Heap, K.In base → base.Ns mainGlobals mg → FnOk l.prog w K mg base L2.CX0 9 fa fd ["script"] (spLaw K) := by
  have e := hfa.symm.trans (PySem.W.mg_of X G a42)
  cases e
  have E_InvalidQuestion : ErrC K mg "InvalidQuestion" Q1 := ⟨PySem.W.mg_of X G aQ1, xQ1, kQ1, bQ1, tQ1, exm_self bQ1 iQ1 tQ1 sQ1⟩
  have T : Tx K C := ⟨⟨pg, hd, po, sa⟩, nprime, ndegree, nsize, ncoefficients⟩
  have F1 := fun_mk (st := s_figures_of) l1 c1 k1
  have b1 := F1.binds (ps := ["prime", "count", "number"]) fun _ _ _ _ _ _ us hl => match us, hl with | [_, _, _], _ => rfl
  have D_figures_of : Df K mg "figures_of" s_figures_of ["prime", "count", "number"] := ⟨_, _, F1, PySem.W.mg_of X G a1, b1⟩
  have F2 := fun_mk (st := s_number_of) l2 c2 k2
  have b2 := F2.binds (ps := ["prime", "figures"]) fun _ _ _ _ _ _ us hl => match us, hl with | [_, _], _ => rfl
  have D_number_of : Df K mg "number_of" s_number_of ["prime", "figures"] := ⟨_, _, F2, PySem.W.mg_of X G a2, b2⟩
  have F3 := fun_mk (st := s_size_of) l3 c3 k3
  have b3 := F3.binds (ps := ["prime", "degree"]) fun _ _ _ _ _ _ us hl => match us, hl with | [_, _], _ => rfl
  have D_size_of : Df K mg "size_of" s_size_of ["prime", "degree"] := ⟨_, _, F3, PySem.W.mg_of X G a3, b3⟩
  have F4 := fun_mk (st := s_is_prime) l4 c4 k4
  have b4 := F4.binds (ps := ["number"]) fun _ _ _ _ _ _ us hl => match us, hl with | [_], _ => rfl
  have D_is_prime : Df K mg "is_prime" s_is_prime ["number"] := ⟨_, _, F4, PySem.W.mg_of X G a4, b4⟩
  have F5 := fun_mk (st := s_is_field) l5 c5 k5
  have b5 := F5.binds (ps := ["prime", "degree"]) fun _ _ _ _ _ _ us hl => match us, hl with | [_, _], _ => rfl
  have D_is_field : Df K mg "is_field" s_is_field ["prime", "degree"] := ⟨_, _, F5, PySem.W.mg_of X G a5, b5⟩
  have F6 := fun_mk (st := s_need_field) l6 c6 k6
  have b6 := F6.binds (ps := ["prime", "degree"]) fun _ _ _ _ _ _ us hl => match us, hl with | [_, _], _ => rfl
  have D_need_field : Df K mg "need_field" s_need_field ["prime", "degree"] := ⟨_, _, F6, PySem.W.mg_of X G a6, b6⟩
  have F7 := fun_mk (st := s_need_members) l7 c7 k7
  have b7 := F7.binds (ps := ["prime", "degree", "members"]) fun _ _ _ _ _ _ us hl => match us, hl with | [_, _, _], _ => rfl
  have D_need_members : Df K mg "need_members" s_need_members ["prime", "degree", "members"] := ⟨_, _, F7, PySem.W.mg_of X G a7, b7⟩
  have F8 := fun_mk (st := s_with_multiple) l8 c8 k8
  have b8 := F8.binds (ps := ["prime", "one", "other", "factor"]) fun _ _ _ _ _ _ us hl => match us, hl with | [_, _, _, _], _ => rfl
  have D_with_multiple : Df K mg "with_multiple" s_with_multiple ["prime", "one", "other", "factor"] := ⟨_, _, F8, PySem.W.mg_of X G a8, b8⟩
  have F9 := fun_mk (st := s_added) l9 c9 k9
  have b9 := F9.binds (ps := ["prime", "degree", "one", "other"]) fun _ _ _ _ _ _ us hl => match us, hl with | [_, _, _, _], _ => rfl
  have D_added : Df K mg "added" s_added ["prime", "degree", "one", "other"] := ⟨_, _, F9, PySem.W.mg_of X G a9, b9⟩
  have F10 := fun_mk (st := s_inverse_modulo) l10 c10 k10
  have b10 := F10.binds (ps := ["number", "modulus"]) fun _ _ _ _ _ _ us hl => match us, hl with | [_, _], _ => rfl
  have D_inverse_modulo : Df K mg "inverse_modulo" s_inverse_modulo ["number", "modulus"] := ⟨_, _, F10, PySem.W.mg_of X G a10, b10⟩
  have F11 := fun_mk (st := s_without_high_zeros) l11 c11 k11
  have b11 := F11.binds (ps := ["figures"]) fun _ _ _ _ _ _ us hl => match us, hl with | [_], _ => rfl
  have D_without_high_zeros : Df K mg "without_high_zeros" s_without_high_zeros ["figures"] := ⟨_, _, F11, PySem.W.mg_of X G a11, b11⟩
  have F12 := fun_mk (st := s_remainder_by) l12 c12 k12
  have b12 := F12.binds (ps := ["prime", "one", "other"]) fun _ _ _ _ _ _ us hl => match us, hl with | [_, _, _], _ => rfl
  have D_remainder_by : Df K mg "remainder_by" s_remainder_by ["prime", "one", "other"] := ⟨_, _, F12, PySem.W.mg_of X G a12, b12⟩
  have F13 := fun_mk (st := s_multiplied) l13 c13 k13
  have b13 := F13.binds (ps := ["prime", "lower", "one", "other"]) fun _ _ _ _ _ _ us hl => match us, hl with | [_, _, _, _], _ => rfl
  have D_multiplied : Df K mg "multiplied" s_multiplied ["prime", "lower", "one", "other"] := ⟨_, _, F13, PySem.W.mg_of X G a13, b13⟩
  have F14 := fun_mk (st := s_have_common_factor) l14 c14 k14
  have b14 := F14.binds (ps := ["prime", "one", "other"]) fun _ _ _ _ _ _ us hl => match us, hl with | [_, _, _], _ => rfl
  have D_have_common_factor : Df K mg "have_common_factor" s_have_common_factor ["prime", "one", "other"] := ⟨_, _, F14, PySem.W.mg_of X G a14, b14⟩
  have F15 := fun_mk (st := s_raised) l15 c15 k15
  have b15 := F15.binds (ps := ["prime", "lower", "figures", "times"]) fun _ _ _ _ _ _ us hl => match us, hl with | [_, _, _, _], _ => rfl
  have D_raised : Df K mg "raised" s_raised ["prime", "lower", "figures", "times"] := ⟨_, _, F15, PySem.W.mg_of X G a15, b15⟩
  have F16 := fun_mk (st := s_is_irreducible) l16 c16 k16
  have b16 := F16.binds (ps := ["prime", "lower"]) fun _ _ _ _ _ _ us hl => match us, hl with | [_, _], _ => rfl
  have D_is_irreducible : Df K mg "is_irreducible" s_is_irreducible ["prime", "lower"] := ⟨_, _, F16, PySem.W.mg_of X G a16, b16⟩
  have F17 := fun_mk (st := s_first_irreducible) l17 c17 k17
  have b17 := F17.binds (ps := ["prime", "degree"]) fun _ _ _ _ _ _ us hl => match us, hl with | [_, _], _ => rfl
  have D_first_irreducible : Df K mg "first_irreducible" s_first_irreducible ["prime", "degree"] := ⟨_, _, F17, PySem.W.mg_of X G a17, b17⟩
  have F18 := fun_mk (st := s_Field___init__) l18 c18 k18
  have b18 := F18.binds (ps := ["self", "prime", "degree"]) fun _ _ _ _ _ _ us hl => match us, hl with | [_, _, _], _ => rfl
  have D_Field___init__ : Di K mg "Field" "Field.__init__" C s_Field___init__ ["self", "prime", "degree"] := ⟨_, _, F18, ⟨mk, a18, i18, kc⟩, PySem.W.mg_of X G aC, b18⟩
  have F19 := fun_mk (st := s_Field_product) l19 c19 k19
  have b19 := F19.binds (ps := ["self", "one", "other"]) fun _ _ _ _ _ _ us hl => match us, hl with | [_, _, _], _ => rfl
  have D_Field_product : Dm K C "product" "Field.product" s_Field_product ["self", "one", "other"] := ⟨_, _, F19, T.cl, ⟨a19, i19, k19⟩, b19⟩
  have F20 := fun_mk (st := s_product) l20 c20 k20
  have b20 := F20.binds (ps := ["prime", "degree", "one", "other"]) fun _ _ _ _ _ _ us hl => match us, hl with | [_, _, _, _], _ => rfl
  have D_product : Df K mg "product" s_product ["prime", "degree", "one", "other"] := ⟨_, _, F20, PySem.W.mg_of X G a20, b20⟩
  have F21 := fun_mk (st := s__law_row) l21 c21 k21
  have b21 := F21.binds (ps := ["cell", "many"]) fun _ _ _ _ _ _ us hl => match us, hl with | [_, _], _ => rfl
  have D__law_row : Df K mg "_law_row" s__law_row ["cell", "many"] := ⟨_, _, F21, PySem.W.mg_of X G a21, b21⟩
  have F22 := fun_mk (st := s__law_numbers) l22 c22 k22
  have b22 := F22.binds (ps := ["script", "many"]) fun _ _ _ _ _ _ us hl => match us, hl with | [_, _], _ => rfl
  have D__law_numbers : Df K mg "_law_numbers" s__law_numbers ["script", "many"] := ⟨_, _, F22, PySem.W.mg_of X G a22, b22⟩
  have F23 := fun_mk (st := s__law_size) l23 c23 k23
  have b23 := F23.binds (ps := ["p", "k"]) fun _ _ _ _ _ _ us hl => match us, hl with | [_, _], _ => rfl
  have D__law_size : Df K mg "_law_size" s__law_size ["p", "k"] := ⟨_, _, F23, PySem.W.mg_of X G a23, b23⟩
  have F24 := fun_mk (st := s__law_element) l24 c24 k24
  have b24 := F24.binds (ps := ["numbers", "at", "size"]) fun _ _ _ _ _ _ us hl => match us, hl with | [_, _, _], _ => rfl
  have D__law_element : Df K mg "_law_element" s__law_element ["numbers", "at", "size"] := ⟨_, _, F24, PySem.W.mg_of X G a24, b24⟩
  have F25 := fun_mk (st := s__law_field) l25 c25 k25
  have b25 := F25.binds (ps := ["numbers", "at"]) fun _ _ _ _ _ _ us hl => match us, hl with | [_, _], _ => rfl
  have D__law_field : Df K mg "_law_field" s__law_field ["numbers", "at"] := ⟨_, _, F25, PySem.W.mg_of X G a25, b25⟩
  have F26 := fun_mk (st := s_Field_added) l26 c26 k26
  have b26 := F26.binds (ps := ["self", "one", "other"]) fun _ _ _ _ _ _ us hl => match us, hl with | [_, _, _], _ => rfl
  have D_Field_added : Dm K C "added" "Field.added" s_Field_added ["self", "one", "other"] := ⟨_, _, F26, T.cl, ⟨a26, i26, k26⟩, b26⟩
  have F27 := fun_mk (st := s_Field_less) l27 c27 k27
  have b27 := F27.binds (ps := ["self", "one", "other"]) fun _ _ _ _ _ _ us hl => match us, hl with | [_, _, _], _ => rfl
  have D_Field_less : Dm K C "less" "Field.less" s_Field_less ["self", "one", "other"] := ⟨_, _, F27, T.cl, ⟨a27, i27, k27⟩, b27⟩
  have F28 := fun_mk (st := s_Field_power) l28 c28 k28
  have b28 := F28.binds (ps := ["self", "one", "times"]) fun _ _ _ _ _ _ us hl => match us, hl with | [_, _, _], _ => rfl
  have D_Field_power : Dm K C "power" "Field.power" s_Field_power ["self", "one", "times"] := ⟨_, _, F28, T.cl, ⟨a28, i28, k28⟩, b28⟩
  have F29 := fun_mk (st := s_conjugates_in) l29 c29 k29
  have b29 := F29.binds (ps := ["field", "one"]) fun _ _ _ _ _ _ us hl => match us, hl with | [_, _], _ => rfl
  have D_conjugates_in : Df K mg "conjugates_in" s_conjugates_in ["field", "one"] := ⟨_, _, F29, PySem.W.mg_of X G a29, b29⟩
  have F30 := fun_mk (st := s_conjugates) l30 c30 k30
  have b30 := F30.binds (ps := ["prime", "degree", "one"]) fun _ _ _ _ _ _ us hl => match us, hl with | [_, _, _], _ => rfl
  have D_conjugates : Df K mg "conjugates" s_conjugates ["prime", "degree", "one"] := ⟨_, _, F30, PySem.W.mg_of X G a30, b30⟩
  have F31 := fun_mk (st := s_repeated_powers) l31 c31 k31
  have b31 := F31.binds (ps := ["field", "one"]) fun _ _ _ _ _ _ us hl => match us, hl with | [_, _], _ => rfl
  have D_repeated_powers : Df K mg "repeated_powers" s_repeated_powers ["field", "one"] := ⟨_, _, F31, PySem.W.mg_of X G a31, b31⟩
  have F32 := fun_mk (st := s_trace) l32 c32 k32
  have b32 := F32.binds (ps := ["prime", "degree", "one"]) fun _ _ _ _ _ _ us hl => match us, hl with | [_, _, _], _ => rfl
  have D_trace : Df K mg "trace" s_trace ["prime", "degree", "one"] := ⟨_, _, F32, PySem.W.mg_of X G a32, b32⟩
  have F33 := fun_mk (st := s_norm) l33 c33 k33
  have b33 := F33.binds (ps := ["prime", "degree", "one"]) fun _ _ _ _ _ _ us hl => match us, hl with | [_, _, _], _ => rfl
  have D_norm : Df K mg "norm" s_norm ["prime", "degree", "one"] := ⟨_, _, F33, PySem.W.mg_of X G a33, b33⟩
  have F34 := fun_mk (st := s_need_not_zero) l34 c34 k34
  have b34 := F34.binds (ps := ["one"]) fun _ _ _ _ _ _ us hl => match us, hl with | [_], _ => rfl
  have D_need_not_zero : Df K mg "need_not_zero" s_need_not_zero ["one"] := ⟨_, _, F34, PySem.W.mg_of X G a34, b34⟩
  have F35 := fun_mk (st := s_power) l35 c35 k35
  have b35 := F35.binds (ps := ["prime", "degree", "one", "times"]) fun _ _ _ _ _ _ us hl => match us, hl with | [_, _, _, _], _ => rfl
  have D_power : Df K mg "power" s_power ["prime", "degree", "one", "times"] := ⟨_, _, F35, PySem.W.mg_of X G a35, b35⟩
  have F36 := fun_mk (st := s_times_x_less) l36 c36 k36
  have b36 := F36.binds (ps := ["field", "coefficients", "root"]) fun _ _ _ _ _ _ us hl => match us, hl with | [_, _, _], _ => rfl
  have D_times_x_less : Df K mg "times_x_less" s_times_x_less ["field", "coefficients", "root"] := ⟨_, _, F36, PySem.W.mg_of X G a36, b36⟩
  have F37 := fun_mk (st := s_least_polynomial) l37 c37 k37
  have b37 := F37.binds (ps := ["prime", "degree", "one"]) fun _ _ _ _ _ _ us hl => match us, hl with | [_, _, _], _ => rfl
  have D_least_polynomial : Df K mg "least_polynomial" s_least_polynomial ["prime", "degree", "one"] := ⟨_, _, F37, PySem.W.mg_of X G a37, b37⟩
  have F38 := fun_mk (st := s_need_orders) l38 c38 k38
  have b38 := F38.binds (ps := ["prime", "degree"]) fun _ _ _ _ _ _ us hl => match us, hl with | [_, _], _ => rfl
  have D_need_orders : Df K mg "need_orders" s_need_orders ["prime", "degree"] := ⟨_, _, F38, PySem.W.mg_of X G a38, b38⟩
  have F39 := fun_mk (st := s_prime_divisors) l39 c39 k39
  have b39 := F39.binds (ps := ["number"]) fun _ _ _ _ _ _ us hl => match us, hl with | [_], _ => rfl
  have D_prime_divisors : Df K mg "prime_divisors" s_prime_divisors ["number"] := ⟨_, _, F39, PySem.W.mg_of X G a39, b39⟩
  have F40 := fun_mk (st := s_has_power_one) l40 c40 k40
  have b40 := F40.binds (ps := ["field", "one", "numbers"]) fun _ _ _ _ _ _ us hl => match us, hl with | [_, _, _], _ => rfl
  have D_has_power_one : Df K mg "has_power_one" s_has_power_one ["field", "one", "numbers"] := ⟨_, _, F40, PySem.W.mg_of X G a40, b40⟩
  have F41 := fun_mk (st := s_generator) l41 c41 k41
  have b41 := F41.binds (ps := ["prime", "degree"]) fun _ _ _ _ _ _ us hl => match us, hl with | [_, _], _ => rfl
  have D_generator : Df K mg "generator" s_generator ["prime", "degree"] := ⟨_, _, F41, PySem.W.mg_of X G a41, b41⟩
  have F42 := fun_mk (st := s_law) l42 c42 k42
  have b42 := F42.binds (ps := ["script"]) fun _ _ _ _ _ _ us hl => match us, hl with | [_], _ => rfl
  have D_law : Df K mg "law" s_law ["script"] := ⟨_, _, F42, PySem.W.mg_of X G a42, b42⟩
  have B : Bt mg := ⟨PySem.W.mg_none_of X G z_range, PySem.W.mg_none_of X G z_len, PySem.W.mg_none_of X G z_int, PySem.W.mg_none_of X G z_abs, PySem.W.mg_none_of X G z_max, PySem.W.mg_none_of X G z_min, PySem.W.mg_none_of X G z_list, PySem.W.mg_none_of X G z_tuple, PySem.W.mg_none_of X G z_reversed, PySem.W.mg_none_of X G z_enumerate, PySem.W.mg_none_of X G z_zip, PySem.W.mg_none_of X G z_isinstance, PySem.W.mg_none_of X G z_bool, PySem.W.mg_none_of X G z_repr, PySem.W.mg_none_of X G z_all⟩
  have Cc : Ct mg := ⟨⟨_, PySem.W.mg_of X G g_GREATEST_PRIME⟩, ⟨_, PySem.W.mg_of X G g_GREATEST_DEGREE⟩, ⟨_, PySem.W.mg_of X G g_GREATEST_PRIME_OF_POWERS⟩, ⟨_, PySem.W.mg_of X G g_GREATEST_POWER⟩⟩
  have CO : CtO mg := ⟨⟨_, PySem.W.mg_of X G g_GREATEST_WITH_ORDERS⟩⟩
  refine ⟨PySem.W.fnOf "law" "law" (defArgs s_law) (defBody s_law) (defScope s_law) .none kV42 dc42 pm42 an42 cd42 ct42, fun s v => .of_eq rfl, fun base _ _ => ?_⟩
  have c_figures_of := ok_figures_of (P := l.prog) (w := w) (base := base) D_figures_of B
  have c_number_of := ok_number_of (P := l.prog) (w := w) (base := base) D_number_of B
  have c_size_of := ok_size_of (P := l.prog) (w := w) (base := base) D_size_of B
  have c_is_prime := ok_is_prime (P := l.prog) (w := w) (base := base) D_is_prime
  have c_is_field := ok_is_field (P := l.prog) (w := w) (base := base) D_is_field Cc c_is_prime c_size_of
  have c_need_field := ok_need_field (P := l.prog) (w := w) (base := base) D_need_field c_is_field
  have c_need_members := ok_need_members (P := l.prog) (w := w) (base := base) D_need_members c_need_field c_size_of
  have c_with_multiple := ok_with_multiple (P := l.prog) (w := w) (base := base) D_with_multiple
  have c_added := ok_added (P := l.prog) (w := w) (base := base) D_added c_need_members c_with_multiple
  have c_inverse_modulo := ok_inverse_modulo (P := l.prog) (w := w) (base := base) D_inverse_modulo
  have c_without_high_zeros := ok_without_high_zeros (P := l.prog) (w := w) (base := base) D_without_high_zeros B
  have c_remainder_by := ok_remainder_by (P := l.prog) (w := w) (base := base) D_remainder_by B c_inverse_modulo c_without_high_zeros
  have c_multiplied := ok_multiplied (P := l.prog) (w := w) (base := base) D_multiplied B
  have c_have_common_factor := ok_have_common_factor (P := l.prog) (w := w) (base := base) D_have_common_factor B c_without_high_zeros c_remainder_by
  have c_raised := ok_raised (P := l.prog) (w := w) (base := base) D_raised B c_multiplied
  have c_is_irreducible := ok_is_irreducible (P := l.prog) (w := w) (base := base) D_is_irreducible B c_raised c_have_common_factor
  have c_first_irreducible := ok_first_irreducible (P := l.prog) (w := w) (base := base) D_first_irreducible B c_figures_of c_is_irreducible
  have c_Field := ok_Field_init (P := l.prog) (w := w) (base := base) D_Field___init__ T c_need_field c_size_of c_first_irreducible
  have d_product := ok_Field_product (P := l.prog) (w := w) (base := base) D_Field_product T c_figures_of c_number_of c_multiplied
  have c_product := ok_product (P := l.prog) (w := w) (base := base) D_product c_need_members c_Field d_product
  have c__law_row := ok__law_row (P := l.prog) (w := w) (base := base) D__law_row B
  have c__law_numbers := ok__law_numbers (P := l.prog) (w := w) (base := base) D__law_numbers B c__law_row
  have c__law_size := ok__law_size (P := l.prog) (w := w) (base := base) D__law_size B
  have c__law_element := ok__law_element (P := l.prog) (w := w) (base := base) D__law_element B
  have c__law_field := ok__law_field (P := l.prog) (w := w) (base := base) D__law_field B
  have d_added := ok_Field_added (P := l.prog) (w := w) (base := base) D_Field_added T c_with_multiple
  have d_less := ok_Field_less (P := l.prog) (w := w) (base := base) D_Field_less T c_with_multiple
  have d_power := ok_Field_power (P := l.prog) (w := w) (base := base) D_Field_power T c_figures_of c_number_of c_raised
  have c_conjugates_in := ok_conjugates_in (P := l.prog) (w := w) (base := base) D_conjugates_in T d_power
  have c_conjugates := ok_conjugates (P := l.prog) (w := w) (base := base) D_conjugates c_need_members c_Field c_conjugates_in
  have c_repeated_powers := ok_repeated_powers (P := l.prog) (w := w) (base := base) D_repeated_powers B T d_power
  have c_trace := ok_trace (P := l.prog) (w := w) (base := base) D_trace T c_need_members c_Field c_repeated_powers d_added
  have c_norm := ok_norm (P := l.prog) (w := w) (base := base) D_norm T c_need_members c_Field c_repeated_powers d_product
  have c_need_not_zero := ok_need_not_zero (P := l.prog) (w := w) (base := base) D_need_not_zero E_InvalidQuestion
  have c_power := ok_power (P := l.prog) (w := w) (base := base) D_power c_need_members c_need_not_zero c_Field d_power
  have c_times_x_less := ok_times_x_less (P := l.prog) (w := w) (base := base) D_times_x_less B T d_product d_less
  have c_least_polynomial := ok_least_polynomial (P := l.prog) (w := w) (base := base) D_least_polynomial B T c_need_members c_Field c_conjugates_in c_times_x_less
  have c_need_orders := ok_need_orders (P := l.prog) (w := w) (base := base) D_need_orders CO c_size_of
  have c_prime_divisors := ok_prime_divisors (P := l.prog) (w := w) (base := base) D_prime_divisors B
  have c_has_power_one := ok_has_power_one (P := l.prog) (w := w) (base := base) D_has_power_one T d_power
  have c_generator := ok_generator (P := l.prog) (w := w) (base := base) D_generator T c_need_field c_need_orders c_Field c_prime_divisors c_has_power_one
  exact ok_law (P := l.prog) (w := w) (base := base) F42 B c__law_numbers c__law_field c__law_size c__law_element c_added c_product c_power c_trace c_norm c_least_polynomial c_conjugates c_generator
end My
open PySem PySem.W PyProof.Rows
set_option maxRecDepth 100000 in
set_option maxHeartbeats 0 in
theorem PySem.Challenge.cw_matedsquares_k20_whole_powers_by_the_pri_holds : PySem.Challenge.rw_matedsquares_k20_whole_powers_by_the_pri.Holds := by
  w_on; o_law; k_head; (case hw => w_witness2)
  k_fill
  refine L2.walk_of (l := PySem.Challenge.rw_matedsquares_k20_whole_powers_by_the_pri) (n := 63) (k := 9) (x := "script") (CX := fun _ => L2.CX0) (sp := fun w => My.spLaw _) rfl (by decide) rfl ⟨rfl, by decide, by decide⟩ (fun w h Y => PySem.W.kIn_of Y) ?F (fun _ _ a ns hl _ hS => ⟨a, ns, rfl, hS, hl, fun _ => rfl⟩) (fun _ _ _ _ _ h => h)
  case F =>
    intro w mg fa h KX G hmg
    refine' My.all_mk KX G hmg ?aC ?pg ?hd ?po ?sa ?mk ?kc ?nprime ?ndegree ?nsize ?ncoefficients ?a1 ?l1 ?c1 ?k1 ?a2 ?l2 ?c2 ?k2 ?a3 ?l3 ?c3 ?k3 ?a4 ?l4 ?c4 ?k4 ?a5 ?l5 ?c5 ?k5 ?a6 ?l6 ?c6 ?k6 ?a7 ?l7 ?c7 ?k7 ?a8 ?l8 ?c8 ?k8 ?a9 ?l9 ?c9 ?k9 ?a10 ?l10 ?c10 ?k10 ?a11 ?l11 ?c11 ?k11 ?a12 ?l12 ?c12 ?k12 ?a13 ?l13 ?c13 ?k13 ?a14 ?l14 ?c14 ?k14 ?a15 ?l15 ?c15 ?k15 ?a16 ?l16 ?c16 ?k16 ?a17 ?l17 ?c17 ?k17 ?a18 ?i18 ?l18 ?c18 ?k18 ?a19 ?i19 ?l19 ?c19 ?k19 ?a20 ?l20 ?c20 ?k20 ?a21 ?l21 ?c21 ?k21 ?a22 ?l22 ?c22 ?k22 ?a23 ?l23 ?c23 ?k23 ?a24 ?l24 ?c24 ?k24 ?a25 ?l25 ?c25 ?k25 ?a26 ?i26 ?l26 ?c26 ?k26 ?a27 ?i27 ?l27 ?c27 ?k27 ?a28 ?i28 ?l28 ?c28 ?k28 ?a29 ?l29 ?c29 ?k29 ?a30 ?l30 ?c30 ?k30 ?a31 ?l31 ?c31 ?k31 ?a32 ?l32 ?c32 ?k32 ?a33 ?l33 ?c33 ?k33 ?a34 ?l34 ?c34 ?k34 ?a35 ?l35 ?c35 ?k35 ?a36 ?l36 ?c36 ?k36 ?a37 ?l37 ?c37 ?k37 ?a38 ?l38 ?c38 ?k38 ?a39 ?l39 ?c39 ?k39 ?a40 ?l40 ?c40 ?k40 ?a41 ?l41 ?c41 ?k41 ?a42 ?l42 ?c42 ?k42 ?aQ1 ?xQ1 ?kQ1 ?bQ1 ?tQ1 ?iQ1 ?sQ1 ?z_range ?z_len ?z_int ?z_abs ?z_max ?z_min ?z_list ?z_tuple ?z_reversed ?z_enumerate ?z_zip ?z_isinstance ?z_bool ?z_repr ?z_all ?g_GREATEST_PRIME ?g_GREATEST_DEGREE ?g_GREATEST_PRIME_OF_POWERS ?g_GREATEST_POWER ?g_GREATEST_WITH_ORDERS
    (case aC => k_is)
    (case pg => k_is)
    (case hd => k_is)
    (case po => k_is)
    (case sa => k_is)
    (case mk => k_is)
    (case kc => k_is)
    (case nprime => k_is)
    (case ndegree => k_is)
    (case nsize => k_is)
    (case ncoefficients => k_is)
    (case a1 => k_is)
    (case l1 => k_is)
    (case c1 => k_is)
    (case k1 => k_is)
    (case a2 => k_is)
    (case l2 => k_is)
    (case c2 => k_is)
    (case k2 => k_is)
    (case a3 => k_is)
    (case l3 => k_is)
    (case c3 => k_is)
    (case k3 => k_is)
    (case a4 => k_is)
    (case l4 => k_is)
    (case c4 => k_is)
    (case k4 => k_is)
    (case a5 => k_is)
    (case l5 => k_is)
    (case c5 => k_is)
    (case k5 => k_is)
    (case a6 => k_is)
    (case l6 => k_is)
    (case c6 => k_is)
    (case k6 => k_is)
    (case a7 => k_is)
    (case l7 => k_is)
    (case c7 => k_is)
    (case k7 => k_is)
    (case a8 => k_is)
    (case l8 => k_is)
    (case c8 => k_is)
    (case k8 => k_is)
    (case a9 => k_is)
    (case l9 => k_is)
    (case c9 => k_is)
    (case k9 => k_is)
    (case a10 => k_is)
    (case l10 => k_is)
    (case c10 => k_is)
    (case k10 => k_is)
    (case a11 => k_is)
    (case l11 => k_is)
    (case c11 => k_is)
    (case k11 => k_is)
    (case a12 => k_is)
    (case l12 => k_is)
    (case c12 => k_is)
    (case k12 => k_is)
    (case a13 => k_is)
    (case l13 => k_is)
    (case c13 => k_is)
    (case k13 => k_is)
    (case a14 => k_is)
    (case l14 => k_is)
    (case c14 => k_is)
    (case k14 => k_is)
    (case a15 => k_is)
    (case l15 => k_is)
    (case c15 => k_is)
    (case k15 => k_is)
    (case a16 => k_is)
    (case l16 => k_is)
    (case c16 => k_is)
    (case k16 => k_is)
    (case a17 => k_is)
    (case l17 => k_is)
    (case c17 => k_is)
    (case k17 => k_is)
    (case a18 => k_is)
    (case i18 => k_is)
    (case l18 => k_is)
    (case c18 => k_is)
    (case k18 => k_is)
    (case a19 => k_is)
    (case i19 => k_is)
    (case l19 => k_is)
    (case c19 => k_is)
    (case k19 => k_is)
    (case a20 => k_is)
    (case l20 => k_is)
    (case c20 => k_is)
    (case k20 => k_is)
    (case a21 => k_is)
    (case l21 => k_is)
    (case c21 => k_is)
    (case k21 => k_is)
    (case a22 => k_is)
    (case l22 => k_is)
    (case c22 => k_is)
    (case k22 => k_is)
    (case a23 => k_is)
    (case l23 => k_is)
    (case c23 => k_is)
    (case k23 => k_is)
    (case a24 => k_is)
    (case l24 => k_is)
    (case c24 => k_is)
    (case k24 => k_is)
    (case a25 => k_is)
    (case l25 => k_is)
    (case c25 => k_is)
    (case k25 => k_is)
    (case a26 => k_is)
    (case i26 => k_is)
    (case l26 => k_is)
    (case c26 => k_is)
    (case k26 => k_is)
    (case a27 => k_is)
    (case i27 => k_is)
    (case l27 => k_is)
    (case c27 => k_is)
    (case k27 => k_is)
    (case a28 => k_is)
    (case i28 => k_is)
    (case l28 => k_is)
    (case c28 => k_is)
    (case k28 => k_is)
    (case a29 => k_is)
    (case l29 => k_is)
    (case c29 => k_is)
    (case k29 => k_is)
    (case a30 => k_is)
    (case l30 => k_is)
    (case c30 => k_is)
    (case k30 => k_is)
    (case a31 => k_is)
    (case l31 => k_is)
    (case c31 => k_is)
    (case k31 => k_is)
    (case a32 => k_is)
    (case l32 => k_is)
    (case c32 => k_is)
    (case k32 => k_is)
    (case a33 => k_is)
    (case l33 => k_is)
    (case c33 => k_is)
    (case k33 => k_is)
    (case a34 => k_is)
    (case l34 => k_is)
    (case c34 => k_is)
    (case k34 => k_is)
    (case a35 => k_is)
    (case l35 => k_is)
    (case c35 => k_is)
    (case k35 => k_is)
    (case a36 => k_is)
    (case l36 => k_is)
    (case c36 => k_is)
    (case k36 => k_is)
    (case a37 => k_is)
    (case l37 => k_is)
    (case c37 => k_is)
    (case k37 => k_is)
    (case a38 => k_is)
    (case l38 => k_is)
    (case c38 => k_is)
    (case k38 => k_is)
    (case a39 => k_is)
    (case l39 => k_is)
    (case c39 => k_is)
    (case k39 => k_is)
    (case a40 => k_is)
    (case l40 => k_is)
    (case c40 => k_is)
    (case k40 => k_is)
    (case a41 => k_is)
    (case l41 => k_is)
    (case c41 => k_is)
    (case k41 => k_is)
    (case a42 => k_is)
    (case l42 => k_is)
    (case c42 => k_is)
    (case k42 => k_is)
    (case aQ1 => k_is)
    (case xQ1 => k_exc)
    (case kQ1 => k_is)
    (case bQ1 => k_is)
    (case tQ1 => k_is)
    (case iQ1 => k_is)
    (case sQ1 => first | rfl | k_is)
    (case z_range => k_is)
    (case z_len => k_is)
    (case z_int => k_is)
    (case z_abs => k_is)
    (case z_max => k_is)
    (case z_min => k_is)
    (case z_list => k_is)
    (case z_tuple => k_is)
    (case z_reversed => k_is)
    (case z_enumerate => k_is)
    (case z_zip => k_is)
    (case z_isinstance => k_is)
    (case z_bool => k_is)
    (case z_repr => k_is)
    (case z_all => k_is)
    (case g_GREATEST_PRIME => k_is)
    (case g_GREATEST_DEGREE => k_is)
    (case g_GREATEST_PRIME_OF_POWERS => k_is)
    (case g_GREATEST_POWER => k_is)
    (case g_GREATEST_WITH_ORDERS => k_is)
